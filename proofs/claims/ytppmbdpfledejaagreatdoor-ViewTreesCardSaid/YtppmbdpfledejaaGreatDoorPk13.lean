/-
Texts that all claims of this seat share, part 13: Ref10With, Ref10Leq, HistMem.
-/
import Derived.Deep.QuietTactic
import Derived.BigQuiet
import Derived.Laws.AppendOwn
import Derived.Laws.OwnMore
import Derived.Great.Walk
import Derived.Test.YtppmbdpfledejaaGreatDoorPk12
namespace Go.Proofs.YtppmbdpfledejaaGreatDoor
open Go.RowKit
theorem refOf_VT (f : Nat → Int) (w : World) : Calls Tryz.prog 88 #[numsV 32 f] w fun e w' => ∃ v, e = .returned v ∧ TypDots w' v (ofV f) ∧ Below w.heap.size w w' := refOf_typ f w
set_option maxRecDepth 100000 in
set_option maxHeartbeats 16000000 in
theorem refWith_typ10 (l : List D2) (hl : l.length < 2000000) (r q : Int) (v : Value) (w : World) (hv : HasDots w v l) : Calls Tryz.prog 60 #[v, .agg #[.int .i64 r, .int .i64 q]] w fun e w' => ∃ u, e = .returned u ∧ TypDots w' u (withV l r q) ∧ Below w.heap.size w w' := by
  have HV := Lib.hid hv
  have MY := Lib.hid (fun w => refMay_any9 r q w)
  have A1 := Lib.hid (fun w v hv => refAll_V l hl v w hv)
  have O1 := Lib.hid (fun w => refOf_VT (withN l r q) w)
  have E0 := Lib.hid (show (w.alloc (.cells #[.int .i64 r, .int .i64 q] 29 (0, 0))).heap[w.heap.size]? = some (.cells #[.int .i64 r, .int .i64 q] 29 (0, 0)) from one_box w r q)
  have B0 := Lib.hid ((Below.refl w.heap.size w).alloc (Nat.le_refl _) (.cells #[.int .i64 r, .int .i64 q] 29 (0, 0)))
  have L0 := Lib.hid (show w.heap.size < (w.alloc (.cells #[.int .i64 r, .int .i64 q] 29 (0, 0))).heap.size by simp)
  obtain ⟨ao, cap, rfl⟩ := dots_shape hv l.length rfl
  obtain ⟨n, hn⟩ : ∃ n, n = l.length := ⟨_, rfl⟩
  rw [← hn] at HV ⊢
  clear hv hl hn
  go_enter Tryz.func60, Tryz.ntmps60
  go_upto_region 1 with fail
  generalize w.alloc (.cells #[.int .i64 r, .int .i64 q] 29 (0, 0)) = W0 at *
  go_upto_region 2 with (first
    | (go_at_call 87; refine (A1.out W0 _ (dots_below HV.out B0.out)).mono ?_; rintro e w1 ⟨rfl, hb⟩; have E1 := Lib.hid (row_kept E0.out hb); have B1 := Lib.hid (below_next B0.out hb); have L1 := Lib.hid (show w.heap.size < w1.heap.size from Nat.lt_of_lt_of_le L0.out hb.size); clear hb)
    | (refine alloc_as rfl 142 rfl _ zero32 ?_)
    | (refine store_new rfl 142 (.tmp 5) (.tmp 7) rfl rfl w1 _ (nums 32 (allV l)) 142 rfl rfl rfl (by rw [nums_size]; kernel_rfl) (by rw [nums_size, nums_size]) (nums_one _ _) ?_; intro w2 hg2 hb2 hs2; have HG := Lib.hid hg2; have E2 := Lib.hid (row_kept E1.out hb2); have B2 := Lib.hid (below_next B1.out hb2); have LG := Lib.hid (And.intro L1.out hs2); clear hg2 hb2 hs2))
  obtain ⟨c0, c1⟩ := dot_cells (show _ = some (dotO r q) from E2.out)
  have C0 := Lib.hid c0
  have C1 := Lib.hid c1
  clear c0 c1 E0 E1 B0 B1 L0 L1
  generalize w1.heap.size = G at *
  cases hm : mayD r q with
  | false =>
    rw [hm] at MY
    have HS := Lib.hid (show nums 32 (allV l) = nums 32 (withN l r q) from nums_congr _ _ _ fun i _ => by
      rw [withN, if_neg (fun h => by rw [hm] at h; exact absurd h.1 (by decide))])
    rw [HS.out] at HG
    clear hm HS
    refine wp_region_held_drew (S := fun w' => Below w2.heap.size w2 w') (by kernel_rfl) (drawS (Below.refl _ _)) (fun hHeld => ?_)
    generalize w2.drew = wd at hHeld ⊢
    refine take_at (i := 0) 8 rfl rfl (by kernel_rfl) (by kernel_rfl) (by kernel_rfl) (fun _ _ _ h => h) (row_yields (by rfl) 29 (.tmp 3) rfl w.heap.size rfl 29 _ (0, 0) _ Tryz.underlying29 rfl (by kernel_rfl) (fun _ h => row_kept E2.out h)) hHeld ?_
    simp only [List.setIfInBounds_toArray, List.set_cons_zero, List.set_cons_succ]
    refine wpAnyH_ready (rs := [1]) (by kernel_rfl) (by simp) ?_
    refine AllReadyH.cons rfl (fun K hK => ?_) AllReadyH.nil
    go_simp
    go_at_call 89
    refine (MY.out _).mono ?_
    rintro e w6 ⟨rfl, hb⟩
    dsimp only
    refine hK.out _ _ (below_next hHeld hb) (fun hHeld => ?_)
    clear hK K hb
    refine take_at (i := 2) 10 rfl rfl (by kernel_rfl) (by kernel_rfl) (by kernel_rfl) (fun _ _ _ h => h) (sure_yes (by rfl) (fun w => by go_simp; try with_reducible rfl)) hHeld ?_
    simp only [List.setIfInBounds_toArray, List.set_cons_zero, List.set_cons_succ]
    refine take_at (i := 3) 11 rfl rfl (by kernel_rfl) (by kernel_rfl) (by kernel_rfl) (fun _ _ _ h => h) (.inr ⟨by rfl, rfl⟩) hHeld ?_
    simp only [List.setIfInBounds_toArray, List.set_cons_zero, List.set_cons_succ]
    refine take_at (i := 4) 12 rfl rfl (by kernel_rfl) (by kernel_rfl) (by kernel_rfl) (fun _ _ _ h => h) (.inr ⟨by rfl, rfl⟩) hHeld ?_
    simp only [List.setIfInBounds_toArray, List.set_cons_zero, List.set_cons_succ]
    refine take_at (i := 5) 13 rfl rfl (by kernel_rfl) (by kernel_rfl) (by kernel_rfl) (fun _ _ _ h => h) (.inr ⟨by rfl, rfl⟩) hHeld ?_
    simp only [List.setIfInBounds_toArray, List.set_cons_zero, List.set_cons_succ]
    refine take_at (i := 6) 14 rfl rfl (by kernel_rfl) (by kernel_rfl) (by kernel_rfl) (fun _ _ _ h => h) (.inr ⟨by rfl, rfl⟩) hHeld ?_
    simp only [List.setIfInBounds_toArray, List.set_cons_zero, List.set_cons_succ]
    refine take_at (i := 7) 15 rfl rfl (by kernel_rfl) (by kernel_rfl) (by kernel_rfl) (fun _ _ _ h => h) (.inr ⟨by rfl, rfl⟩) hHeld ?_
    simp only [List.setIfInBounds_toArray, List.set_cons_zero, List.set_cons_succ]
    refine take_at (i := 8) 16 rfl rfl (by kernel_rfl) (by kernel_rfl) (by kernel_rfl) (fun _ _ _ h => h) (.inr ⟨by rfl, rfl⟩) hHeld ?_
    simp only [List.setIfInBounds_toArray, List.set_cons_zero, List.set_cons_succ]
    refine take_at (i := 9) 17 rfl rfl (by kernel_rfl) (by kernel_rfl) (by kernel_rfl) (fun _ _ _ h => h) (.inr ⟨by rfl, rfl⟩) hHeld ?_
    simp only [List.setIfInBounds_toArray, List.set_cons_zero, List.set_cons_succ]
    refine take_at (i := 10) 18 rfl rfl (by kernel_rfl) (by kernel_rfl) (by kernel_rfl) (fun _ _ _ h => h) (sure_yes (by rfl) (fun w => by go_simp; try with_reducible rfl)) hHeld ?_
    simp only [List.setIfInBounds_toArray, List.set_cons_zero, List.set_cons_succ]
    refine wpAnyH_done (by kernel_rfl) ?_ _
    have HG6 := Lib.hid (row_kept HG.out hHeld)
    have B6 := Lib.hid (below_next B2.out hHeld)
    go_wp2_with (first
      | (refine wpList_load_row rfl 142 (.tmp 5) rfl G rfl 142 _ (0, 0) _ HG6.out Tryz.underlying142 rfl (by rw [nums_size]; kernel_rfl) ?_)
      | (go_at_call 88; refine (O1.out _).mono ?_; rintro e w8 ⟨u, rfl, hu, hb⟩; have HU := Lib.hid hu; have B8 := Lib.hid (below_next B6.out hb); clear hu hb))
    go_ret
    exact ⟨_, rfl, HU.out, B8.out⟩
  | true =>
    rw [hm] at MY
    have hb := mayT_bd (d := (r, q)) hm
    simp only at hb
    obtain ⟨i, hi⟩ : ∃ i : Nat, r = (i : Int) := ⟨r.toNat, by omega⟩
    subst hi
    have hi32 : i < 32 := by omega
    have qi : (i : Int) < 32 := by omega
    obtain ⟨m, hme⟩ : ∃ m, m = allV l i := ⟨_, rfl⟩
    have CM := Lib.hid (show w2.cell? ⟨G, i, none⟩ = some (.int .i64 m) by rw [hme]; exact nums_cell HG.out i hi32)
    by_cases hgt : m < q
    · have d1 : decide (q > m) = true := decide_eq_true hgt
      have HS := Lib.hid (show (nums 32 (allV l)).setIfInBounds i (.int .i64 q) = nums 32 (withN l (i : Int) q) from nums_set _ _ _ _ _ fun j _ => by
        rw [withN]
        by_cases hj : j = i
        · subst hj; rw [if_pos rfl, if_pos ⟨hm, rfl, by rw [← hme]; exact hgt⟩]
        · rw [if_neg hj, if_neg (fun h => hj (by have := h.2.1; omega))])
      have HI := Lib.hid hi32
      clear hm hb hgt hme hi32
      refine wp_region_held_drew (S := fun w' => Below w2.heap.size w2 w') (by kernel_rfl) (drawS (Below.refl _ _)) (fun hHeld => ?_)
      generalize w2.drew = wd at hHeld ⊢
      refine take_at (i := 0) 8 rfl rfl (by kernel_rfl) (by kernel_rfl) (by kernel_rfl) (fun _ _ _ h => h) (row_yields (by rfl) 29 (.tmp 3) rfl w.heap.size rfl 29 _ (0, 0) _ Tryz.underlying29 rfl (by kernel_rfl) (fun _ h => row_kept E2.out h)) hHeld ?_
      simp only [List.setIfInBounds_toArray, List.set_cons_zero, List.set_cons_succ]
      refine wpAnyH_ready (rs := [1]) (by kernel_rfl) (by simp) ?_
      refine AllReadyH.cons rfl (fun K hK => ?_) AllReadyH.nil
      go_simp
      go_at_call 89
      refine (MY.out _).mono ?_
      rintro e w6 ⟨rfl, hb⟩
      dsimp only
      refine hK.out _ _ (below_next hHeld hb) (fun hHeld => ?_)
      clear hK K hb
      refine take_at (i := 2) 10 rfl rfl (by kernel_rfl) (by kernel_rfl) (by kernel_rfl) (fun _ _ _ h => h) (sure_yes (by rfl) (fun w => by go_simp; try with_reducible rfl)) hHeld ?_
      simp only [List.setIfInBounds_toArray, List.set_cons_zero, List.set_cons_succ]
      refine take_at (i := 3) 11 rfl rfl (by kernel_rfl) (by kernel_rfl) (by kernel_rfl) (fun _ _ _ h => h) (sure_yes (by rfl) (fun w => by go_simp; try with_reducible rfl)) hHeld ?_
      simp only [List.setIfInBounds_toArray, List.set_cons_zero, List.set_cons_succ]
      refine take_at (i := 5) 13 rfl rfl (by kernel_rfl) (by kernel_rfl) (by kernel_rfl) (fun _ _ _ h => h) (sure_yes (by rfl) (fun w => by go_simp; try with_reducible rfl)) hHeld ?_
      simp only [List.setIfInBounds_toArray, List.set_cons_zero, List.set_cons_succ]
      refine take_at (i := 4) 12 rfl rfl (by kernel_rfl) (by kernel_rfl) (by kernel_rfl) (fun _ _ _ h => h) (cell_yields (by rfl) 2 (.tmp 11) rfl w.heap.size 1 rfl .i64 q Tryz.underlying2 (fun w h => (World.cell?_of_block (h.block _ (World.block_lt_of_cell? _ _ C1.out))).trans C1.out)) hHeld ?_
      simp only [List.setIfInBounds_toArray, List.set_cons_zero, List.set_cons_succ]
      refine take_at (i := 6) 14 rfl rfl (by kernel_rfl) (by kernel_rfl) (by kernel_rfl) (fun _ _ _ h => h) (cell_yields (by rfl) 3 (.tmp 13) rfl w.heap.size 0 rfl .i64 (i : Int) Tryz.underlying3 (fun w h => (World.cell?_of_block (h.block _ (World.block_lt_of_cell? _ _ C0.out))).trans C0.out)) hHeld ?_
      simp only [List.setIfInBounds_toArray, List.set_cons_zero, List.set_cons_succ]
      refine take_at (i := 7) 15 rfl rfl (by kernel_rfl) (by kernel_rfl) (by kernel_rfl) (fun _ _ _ h => h) (sure_yes (by rfl) (fun w => by go_simp; try with_reducible rfl)) hHeld ?_
      simp only [List.setIfInBounds_toArray, List.set_cons_zero, List.set_cons_succ]
      refine take_at (i := 8) 16 rfl rfl (by kernel_rfl) (by kernel_rfl) (by kernel_rfl) (fun _ _ _ h => h) (cell_yields (by rfl) 2 (.tmp 15) rfl G i rfl .i64 m Tryz.underlying2 (fun w h => (World.cell?_of_block (h.block _ (World.block_lt_of_cell? _ _ CM.out))).trans CM.out)) hHeld ?_
      simp only [List.setIfInBounds_toArray, List.set_cons_zero, List.set_cons_succ]
      refine take_at (i := 9) 17 rfl rfl (by kernel_rfl) (by kernel_rfl) (by kernel_rfl) (fun _ _ _ h => h) (sure_yes (by rfl) (fun w => by go_simp; try with_reducible rfl)) hHeld ?_
      simp only [List.setIfInBounds_toArray, List.set_cons_zero, List.set_cons_succ]
      refine take_at (i := 10) 18 rfl rfl (by kernel_rfl) (by kernel_rfl) (by kernel_rfl) (fun _ _ _ h => h) (sure_yes (by rfl) (fun w => by go_simp; try with_reducible rfl)) hHeld ?_
      simp only [List.setIfInBounds_toArray, List.set_cons_zero, List.set_cons_succ]
      refine wpAnyH_done (by kernel_rfl) ?_ _
      have c0 := (World.cell?_of_block (hHeld.block _ (World.block_lt_of_cell? _ _ C0.out))).trans C0.out
      have c1 := (World.cell?_of_block (hHeld.block _ (World.block_lt_of_cell? _ _ C1.out))).trans C1.out
      have HG6 := Lib.hid (row_kept HG.out hHeld)
      have B6 := Lib.hid (below_next B2.out hHeld)
      clear hHeld C0 C1 CM HG
      go_wp2_with (first
        | (refine store_cell rfl 2 (.tmp 23) (.tmp 22) rfl rfl .i64 G i _ q 142 HG6.out rfl rfl (by rw [nums_size]; exact HI.out) (by kernel_rfl) ?_; intro w7 hg7 hs7; rw [HS.out] at hg7; have HG7 := Lib.hid hg7; have B7 := Lib.hid (solo_below B6.out hs7 (Nat.le_of_lt LG.out.1)); clear hg7 hs7)
        | (refine wpList_load_row rfl 142 (.tmp 5) rfl G rfl 142 _ (0, 0) _ HG7.out Tryz.underlying142 rfl (by rw [nums_size]; kernel_rfl) ?_)
        | (go_at_call 88; refine (O1.out _).mono ?_; rintro e w8 ⟨u, rfl, hu, hb⟩; have HU := Lib.hid hu; have B8 := Lib.hid (below_next B7.out hb); clear hu hb))
      go_ret
      exact ⟨_, rfl, HU.out, B8.out⟩
    · have d1 : decide (q > m) = false := decide_eq_false (by omega)
      have HS := Lib.hid (show nums 32 (allV l) = nums 32 (withN l (i : Int) q) from nums_congr _ _ _ fun j _ => by
        rw [withN, if_neg (fun h => by
          obtain rfl : j = i := by have := h.2.1; omega
          rw [← hme] at h; exact hgt h.2.2)])
      clear hm hb hgt hme hi32
      refine wp_region_held_drew (S := fun w' => Below w2.heap.size w2 w') (by kernel_rfl) (drawS (Below.refl _ _)) (fun hHeld => ?_)
      generalize w2.drew = wd at hHeld ⊢
      refine take_at (i := 0) 8 rfl rfl (by kernel_rfl) (by kernel_rfl) (by kernel_rfl) (fun _ _ _ h => h) (row_yields (by rfl) 29 (.tmp 3) rfl w.heap.size rfl 29 _ (0, 0) _ Tryz.underlying29 rfl (by kernel_rfl) (fun _ h => row_kept E2.out h)) hHeld ?_
      simp only [List.setIfInBounds_toArray, List.set_cons_zero, List.set_cons_succ]
      refine wpAnyH_ready (rs := [1]) (by kernel_rfl) (by simp) ?_
      refine AllReadyH.cons rfl (fun K hK => ?_) AllReadyH.nil
      go_simp
      go_at_call 89
      refine (MY.out _).mono ?_
      rintro e w6 ⟨rfl, hb⟩
      dsimp only
      refine hK.out _ _ (below_next hHeld hb) (fun hHeld => ?_)
      clear hK K hb
      refine take_at (i := 2) 10 rfl rfl (by kernel_rfl) (by kernel_rfl) (by kernel_rfl) (fun _ _ _ h => h) (sure_yes (by rfl) (fun w => by go_simp; try with_reducible rfl)) hHeld ?_
      simp only [List.setIfInBounds_toArray, List.set_cons_zero, List.set_cons_succ]
      refine take_at (i := 3) 11 rfl rfl (by kernel_rfl) (by kernel_rfl) (by kernel_rfl) (fun _ _ _ h => h) (sure_yes (by rfl) (fun w => by go_simp; try with_reducible rfl)) hHeld ?_
      simp only [List.setIfInBounds_toArray, List.set_cons_zero, List.set_cons_succ]
      refine take_at (i := 5) 13 rfl rfl (by kernel_rfl) (by kernel_rfl) (by kernel_rfl) (fun _ _ _ h => h) (sure_yes (by rfl) (fun w => by go_simp; try with_reducible rfl)) hHeld ?_
      simp only [List.setIfInBounds_toArray, List.set_cons_zero, List.set_cons_succ]
      refine take_at (i := 4) 12 rfl rfl (by kernel_rfl) (by kernel_rfl) (by kernel_rfl) (fun _ _ _ h => h) (cell_yields (by rfl) 2 (.tmp 11) rfl w.heap.size 1 rfl .i64 q Tryz.underlying2 (fun w h => (World.cell?_of_block (h.block _ (World.block_lt_of_cell? _ _ C1.out))).trans C1.out)) hHeld ?_
      simp only [List.setIfInBounds_toArray, List.set_cons_zero, List.set_cons_succ]
      refine take_at (i := 6) 14 rfl rfl (by kernel_rfl) (by kernel_rfl) (by kernel_rfl) (fun _ _ _ h => h) (cell_yields (by rfl) 3 (.tmp 13) rfl w.heap.size 0 rfl .i64 (i : Int) Tryz.underlying3 (fun w h => (World.cell?_of_block (h.block _ (World.block_lt_of_cell? _ _ C0.out))).trans C0.out)) hHeld ?_
      simp only [List.setIfInBounds_toArray, List.set_cons_zero, List.set_cons_succ]
      refine take_at (i := 7) 15 rfl rfl (by kernel_rfl) (by kernel_rfl) (by kernel_rfl) (fun _ _ _ h => h) (sure_yes (by rfl) (fun w => by go_simp; try with_reducible rfl)) hHeld ?_
      simp only [List.setIfInBounds_toArray, List.set_cons_zero, List.set_cons_succ]
      refine take_at (i := 8) 16 rfl rfl (by kernel_rfl) (by kernel_rfl) (by kernel_rfl) (fun _ _ _ h => h) (cell_yields (by rfl) 2 (.tmp 15) rfl G i rfl .i64 m Tryz.underlying2 (fun w h => (World.cell?_of_block (h.block _ (World.block_lt_of_cell? _ _ CM.out))).trans CM.out)) hHeld ?_
      simp only [List.setIfInBounds_toArray, List.set_cons_zero, List.set_cons_succ]
      refine take_at (i := 9) 17 rfl rfl (by kernel_rfl) (by kernel_rfl) (by kernel_rfl) (fun _ _ _ h => h) (sure_yes (by rfl) (fun w => by go_simp; try with_reducible rfl)) hHeld ?_
      simp only [List.setIfInBounds_toArray, List.set_cons_zero, List.set_cons_succ]
      refine take_at (i := 10) 18 rfl rfl (by kernel_rfl) (by kernel_rfl) (by kernel_rfl) (fun _ _ _ h => h) (sure_yes (by rfl) (fun w => by go_simp; try with_reducible rfl)) hHeld ?_
      simp only [List.setIfInBounds_toArray, List.set_cons_zero, List.set_cons_succ]
      refine wpAnyH_done (by kernel_rfl) ?_ _
      have HG6 := Lib.hid (show w6.heap[G]? = some (.cells (nums 32 (withN l (i : Int) q)) 142 (0, 0)) by rw [← HS.out]; exact row_kept HG.out hHeld)
      have B6 := Lib.hid (below_next B2.out hHeld)
      go_wp2_with (first
        | (refine wpList_load_row rfl 142 (.tmp 5) rfl G rfl 142 _ (0, 0) _ HG6.out Tryz.underlying142 rfl (by rw [nums_size]; kernel_rfl) ?_)
        | (go_at_call 88; refine (O1.out _).mono ?_; rintro e w8 ⟨u, rfl, hu, hb⟩; have HU := Lib.hid hu; have B8 := Lib.hid (below_next B6.out hb); clear hu hb))
      go_ret
      exact ⟨_, rfl, HU.out, B8.out⟩
end Go.Proofs.YtppmbdpfledejaaGreatDoor
namespace Go.Proofs.YtppmbdpfledejaaGreatDoor
open Go.RowKit
/-- The first k numbers are the new ones. -/
def mixN (f g : Nat → Int) (k i : Nat) : Int := if i < k then g i else f i
theorem mixN_zero (n : Nat) (f g : Nat → Int) : nums n (mixN f g 0) = nums n f := nums_congr _ _ _ fun _ _ => if_neg (by omega)
theorem mixN_full (n : Nat) (f g : Nat → Int) : nums n (mixN f g n) = nums n g := nums_congr _ _ _ fun _ hi => if_pos hi
theorem mixN_set (n : Nat) (f g : Nat → Int) (k : Nat) : (nums n (mixN f g k)).setIfInBounds k (.int .i64 (g k)) = nums n (mixN f g (k + 1)) := nums_set _ _ _ _ _ fun j _ => by
  unfold mixN
  by_cases h : j = k
  · subst h; rw [if_pos rfl, if_pos (by omega)]
  · rw [if_neg h]
    by_cases h2 : j < k
    · rw [if_pos h2, if_pos (by omega)]
    · rw [if_neg h2, if_neg (by omega)]
theorem mixN_at (f g : Nat → Int) (k : Nat) : mixN f g k k = f k := if_neg (Nat.lt_irrefl _)
theorem max_if (x y : Int) : (if x < y then y else x) = max x y := by split <;> omega
set_option maxRecDepth 100000 in
set_option maxHeartbeats 16000000 in
theorem refJoin_typ10 (a b : List D2) (ha : a.length < 2000000) (hb : b.length < 2000000) (v u : Value) (w : World) (hv : HasDots w v a) (hu : HasDots w u b) : Calls Tryz.prog 58 #[v, u] w fun e w' => ∃ x, e = .returned x ∧ TypDots w' x (joinV a b) ∧ Below w.heap.size w w' := by
  have HV := Lib.hid hv
  have HU := Lib.hid hu
  have A1 := Lib.hid (fun w v hv => refAll_V a ha v w hv)
  have A2 := Lib.hid (fun w v hv => refAll_V b hb v w hv)
  have O1 := Lib.hid (fun w => refOf_typ (joinN a b) w)
  obtain ⟨ao, cap, rfl⟩ := dots_shape hv a.length rfl
  obtain ⟨ao2, cap2, rfl⟩ := dots_shape hu b.length rfl
  obtain ⟨n, hn⟩ : ∃ n, n = a.length := ⟨_, rfl⟩
  obtain ⟨m, hm⟩ : ∃ m, m = b.length := ⟨_, rfl⟩
  rw [← hn] at HV ⊢
  rw [← hm] at HU ⊢
  clear hv hu ha hb hn hm
  go_enter Tryz.func58, Tryz.ntmps58
  go_upto_region 2 with (first
    | (go_at_call 87; refine (A1.out w _ HV.out).mono ?_; rintro e w1 ⟨rfl, hb⟩; have B1 := Lib.hid hb; clear hb)
    | (refine alloc_as rfl 142 rfl _ zero32 ?_)
    | (refine store_new rfl 142 (.tmp 5) (.tmp 9) rfl rfl w1 _ (nums 32 (allV a)) 142 rfl rfl rfl (by rw [nums_size]; kernel_rfl) (by rw [nums_size, nums_size]) (nums_one _ _) ?_; intro w2 hg2 hb2 hs2; have HG := Lib.hid hg2; have B2 := Lib.hid (below_next B1.out hb2); have LG := Lib.hid (And.intro B1.out.size hs2); clear hg2 hb2 hs2))
  generalize w1.heap.size = G at *
  go_upto_region 3 with (first
    | (go_at_call 87; refine (A2.out w2 _ (dots_below HU.out B2.out)).mono ?_; rintro e w3 ⟨rfl, hb⟩; have HG3 := Lib.hid (row_kept HG.out hb); have B3 := Lib.hid (below_next B2.out hb); have L3 := Lib.hid (show G < w3.heap.size from Nat.lt_of_lt_of_le LG.out.2 hb.size); clear hb)
    | (refine alloc_as rfl 142 rfl _ zero32 ?_)
    | (refine store_new rfl 142 (.tmp 6) (.tmp 11) rfl rfl w3 _ (nums 32 (allV b)) 142 rfl rfl rfl (by rw [nums_size]; kernel_rfl) (by rw [nums_size, nums_size]) (nums_one _ _) ?_; intro w4 hg4 hb4 hs4; have HH := Lib.hid hg4; have GG := Lib.hid (row_kept HG3.out hb4); have B4 := Lib.hid (below_next B3.out hb4); clear hg4 hb4 hs4))
  have HGH := Lib.hid (show G ≠ w3.heap.size ∧ w.heap.size ≤ G from ⟨Nat.ne_of_lt L3.out, LG.out.1⟩)
  generalize w3.heap.size = H at *
  go_wp2
  go_loopw [7] (fun c wr => ∃ k : Nat, k ≤ 32 ∧ c = .int .i64 (k : Int) ∧ wr.heap[G]? = some (.cells (nums 32 (mixN (allV a) (joinN a b) k)) 142 (0, 0)) ∧ wr.heap[H]? = some (.cells (nums 32 (allV b)) 142 (0, 0)) ∧ Below w.heap.size w wr) (fun c _ => 32 - (intOf c).toNat)
  case atStart => exact ⟨0, by omega, rfl, by rw [mixN_zero]; exact GG.out, HH.out, B4.out⟩
  case round =>
    clear GG HH B4
    obtain ⟨k, hk, rfl, hg, hh, hb⟩ := hrel
    by_cases hlt : k < 32
    · have q0 : (k : Int) < 32 := by omega
      have c0 := nums_cell hg k hlt
      have c1 := nums_cell hh k hlt
      rw [mixN_at] at c0
      have HG := Lib.hid hg
      have HH := Lib.hid hh
      have HB := Lib.hid hb
      have HK := Lib.hid hlt
      have KK := Lib.hid (show k + 1 ≤ 32 ∧ 32 - (k + 1) < 32 - k by omega)
      have HM := Lib.hid (mixN_set 32 (allV a) (joinN a b) k)
      obtain ⟨x, hx⟩ : ∃ x, x = allV a k := ⟨_, rfl⟩
      obtain ⟨y, hy⟩ : ∃ y, y = allV b k := ⟨_, rfl⟩
      have HXY := Lib.hid (show joinN a b k = max x y by rw [joinN, hx, hy])
      rw [← hx] at c0
      rw [← hy] at c1
      rw [HXY.out] at HM
      clear hg hh hb hlt hx hy
      go_wp2
      go_still_tail 9, (by kernel_rfl)
      try rw [max_if x y]
      change wpList _ _ _ _ _ wr.drew
      have hg : wr.drew.heap[G]? = _ := HG.out
      have hh : wr.drew.heap[H]? = _ := HH.out
      have hb := below_draws HB.out 1
      change Below _ _ wr.drew at hb
      clear HG HH HB c0 c1 HXY
      generalize wr.drew = w7 at *
      generalize max x y = z at *
      go_wp2_with (first
        | (refine store_cell rfl 2 (.tmp 24) (.tmp 23) rfl rfl .i64 G k _ z 142 hg rfl rfl (by rw [nums_size]; exact HK.out) (by kernel_rfl) ?_; intro w8 hg8 hs8; rw [HM.out] at hg8; have H8 := Lib.hid (And.intro hg8 (And.intro ((hs8.block H (Ne.symm HGH.out.1)).trans hh) (solo_below hb hs8 HGH.out.2))); clear hg8 hs8 hg hh hb))
      refine ⟨⟨k + 1, KK.out.1, by simp, H8.out.1, H8.out.2.1, H8.out.2.2⟩, ?_⟩
      have := KK.out.2; simp [intOf] <;> omega
    · have q0 : ¬ (k : Int) < 32 := by omega
      obtain rfl : k = 32 := by omega
      rw [mixN_full] at hg
      have HG := Lib.hid hg
      have HB := Lib.hid hb
      clear hg hh hb hlt
      go_wp2_with (first
        | (refine wpList_load_row rfl 142 (.tmp 5) rfl G rfl 142 _ (0, 0) _ HG.out Tryz.underlying142 rfl (by rw [nums_size]; kernel_rfl) ?_)
        | (go_at_call 88; refine (O1.out _).mono ?_; rintro e w8 ⟨x, rfl, hx, hb⟩; have HX := Lib.hid hx; have B8 := Lib.hid (below_next HB.out hb); clear hx hb))
      go_ret
      exact ⟨_, rfl, HX.out, B8.out⟩
end Go.Proofs.YtppmbdpfledejaaGreatDoor
namespace Go.Proofs.YtppmbdpfledejaaGreatDoor
open Go.RowKit
/-- What lies in memory while a history is made: the result's block, what is known, the paths. -/
def HistAt (w0 w : World) (h : Hist) (out : Value) : Prop :=
  ∃ (a : Nat → Value) (us : List (Ev × Value)), us.map (·.1) = h.out ∧ OwnEvs (w0.heap.size + 3) w out us ∧
    w.heap[w0.heap.size]? = some (.cells #[.slice none 0 0, .slice none 0 0, .slice none 0 0] 76 (0, 0)) ∧
    w.heap[w0.heap.size + 1]? = some (.cells #[a 0, a 1, a 2] 76 (0, 0)) ∧ (∀ j, j < 3 → TypDots w (a j) (h.know j)) ∧
    w.heap[w0.heap.size + 2]? = some (.cells #[.string ⟨#[97]⟩, .string ⟨#[97, 47, 98]⟩, .string ⟨#[99]⟩, .string ⟨#[100]⟩] 9 (0, 0)) ∧ w0.heap.size + 3 ≤ w.heap.size ∧ Below w0.heap.size w0 w
theorem know_cell {w : World} {B : Nat} {T : TypeId} {a : Nat → Value} (h : w.heap[B]? = some (.cells #[a 0, a 1, a 2] T (0, 0))) {i : Nat} (hi : i < 3) : w.cell? ⟨B, i, none⟩ = some (a i) := by
  rw [cell_of_row _ _ i _ _ _ h]
  match i, hi with
  | 0, _ => rfl
  | 1, _ => rfl
  | 2, _ => rfl
theorem know_set (a : Nat → Value) (x : Value) {i : Nat} (hi : i < 3) : (#[a 0, a 1, a 2] : Array Value).setIfInBounds i x = #[(fun j => if j = i then x else a j) 0, (fun j => if j = i then x else a j) 1, (fun j => if j = i then x else a j) 2] := by
  match i, hi with
  | 0, _ => rfl
  | 1, _ => rfl
  | 2, _ => rfl
theorem deed_nums (r K : Nat) (hr : r < 256) : wrap64 (r : Int) = (r : Int) ∧ (r : Int).tmod (K : Int) = ((r % K : Nat) : Int) ∧ (r : Int) % (K : Int) = ((r % K : Nat) : Int) := by
  refine ⟨by rw [wrap64]; omega, ?_, rfl⟩
  rw [Int.tmod_eq_emod_of_nonneg (by omega)]; rfl
theorem deed_wrap (r : Nat) (hr : r < 256) : IntKind.i64.wrap (r : Int) = (r : Int) := by rw [IntKind.wrap_i64]; omega
theorem deed_run {P : Program} {o : Oper} {a : Act} {w : World} (ty : TypeId) (x : Operand) (ho : o.op = .load ty x) (A : Addr) (hx : a.eval x = .pointer (some A)) {d : DeedT} {fs : Array Field} (hu : P.underlying ty = some (.struct fs))
    (hi : (P.info? ty).map (·.size) = some 6) (hc : ∀ j u, (deedC d)[j]? = some u → w.cell? (A.add j) = some u) : (execOp a.eval o).run P w = .ok (.value (.agg (deedC d).toArray)) w := by
  have hl : (loadCells A (deedC d).length).run P w = .ok (deedC d).toArray w := run_loadCells_list (P := P) w A _ hc
  rw [show (deedC d).length = 6 from rfl] at hl
  cases hq : P.info? ty with
  | none => simp [hq] at hi
  | some i =>
    have hs : i.size = 6 := by simpa [hq] using hi
    unfold execOp
    simp [ho, hx, Instr.loadAt, Instr.sureAddr, loadVar, isAgg, run_underlying hu, sizeOf, typeInfo, hq, hs, hl]
theorem load_deed {P : Program} {ops : Array Oper} {rest : List Oper} {o : Oper} {a : Act} {w : World} {Q : Exit → Act → World → Prop} (hw : Region.wanted o (yielded ops a.tmps) = true) (ty : TypeId) (x : Operand) (ho : o.op = .load ty x) (A : Addr) (hx : a.eval x = .pointer (some A)) {d : DeedT} {fs : Array Field}
    (hu : P.underlying ty = some (.struct fs)) (hi : (P.info? ty).map (·.size) = some 6) (hc : ∀ j u, (deedC d)[j]? = some u → w.cell? (A.add j) = some u)
    (h : wpList P ops Q rest (a.put o.dst (.agg #[.int .u8 (d.who : Int), .int .u8 (d.other : Int), .int .u8 (d.path : Int), .bool d.learns, .bool d.gone, .int .u8 (d.size : Int)])) w) : wpList P ops Q (o :: rest) a w := by
  refine wpList_step fun K hK => ?_
  rw [if_pos hw]
  unfold Oper.wp
  rw [deed_run ty x ho A hx hu hi hc]
  exact hK _ _ h
set_option maxRecDepth 100000 in
theorem deedSize : (Tryz.prog.info? 80).map (·.size) = some 6 := by kernel_rfl
theorem deeds_at {w : World} {v : Value} {l : List DeedT} (h : HasDeeds w v l) (n k : Nat) (hn : l.length = n) (d : DeedT) (hd : l[k]? = some d) : ∃ ad cap, v = .slice (some ad) n cap ∧ ∀ j u, (deedC d)[j]? = some u → w.cell? ((ad.add (k * 6)).add j) = some u := by
  obtain ⟨ao, cap, rfl, hnil, hc⟩ := h
  cases ao with
  | none => obtain ⟨rfl, _⟩ := hnil rfl; simp at hd
  | some ad => exact ⟨ad, cap, by rw [hn], fun j u hu => by rw [addr_add2]; exact (hc ad rfl).2 k d hd j u hu⟩
theorem hist_start (w : World) : HistAt w (((w.alloc (.cells #[.slice none 0 0, .slice none 0 0, .slice none 0 0] 76 (0, 0))).alloc (.cells #[.slice none 0 0, .slice none 0 0, .slice none 0 0] 76 (0, 0))).alloc (.cells #[.string ⟨#[97]⟩, .string ⟨#[97, 47, 98]⟩, .string ⟨#[99]⟩, .string ⟨#[100]⟩] 9 (0, 0))) hist0 (.slice none 0 0) := by
  have h0 := heap_last w (.cells #[.slice none 0 0, .slice none 0 0, .slice none 0 0] 76 (0, 0))
  have hb0 := (Below.refl w.heap.size w).alloc (Nat.le_refl _) (.cells #[.slice none 0 0, .slice none 0 0, .slice none 0 0] 76 (0, 0))
  have s0 : (w.alloc (.cells #[.slice none 0 0, .slice none 0 0, .slice none 0 0] 76 (0, 0))).heap.size = w.heap.size + 1 := by simp
  generalize w.alloc (.cells #[.slice none 0 0, .slice none 0 0, .slice none 0 0] 76 (0, 0)) = W0 at *
  have h1 := heap_last W0 (.cells #[.slice none 0 0, .slice none 0 0, .slice none 0 0] 76 (0, 0))
  have hb1 := (Below.refl W0.heap.size W0).alloc (Nat.le_refl _) (.cells #[.slice none 0 0, .slice none 0 0, .slice none 0 0] 76 (0, 0))
  have s1 : (W0.alloc (.cells #[.slice none 0 0, .slice none 0 0, .slice none 0 0] 76 (0, 0))).heap.size = w.heap.size + 2 := by simp [s0]
  generalize W0.alloc (.cells #[.slice none 0 0, .slice none 0 0, .slice none 0 0] 76 (0, 0)) = W1 at *
  have h2 := heap_last W1 (.cells #[.string ⟨#[97]⟩, .string ⟨#[97, 47, 98]⟩, .string ⟨#[99]⟩, .string ⟨#[100]⟩] 9 (0, 0))
  have hb2 := (Below.refl W1.heap.size W1).alloc (Nat.le_refl _) (.cells #[.string ⟨#[97]⟩, .string ⟨#[97, 47, 98]⟩, .string ⟨#[99]⟩, .string ⟨#[100]⟩] 9 (0, 0))
  have s2 : (W1.alloc (.cells #[.string ⟨#[97]⟩, .string ⟨#[97, 47, 98]⟩, .string ⟨#[99]⟩, .string ⟨#[100]⟩] 9 (0, 0))).heap.size = w.heap.size + 3 := by simp [s1]
  rw [s0] at h1
  rw [s1] at h2
  refine ⟨fun _ => .slice none 0 0, [], rfl, ownEvs_nil _ _, row_kept (row_kept h0 hb1) hb2, row_kept h1 hb2, fun j _ => typ_nil _, h2, by omega, below_next (below_next hb0 hb1) hb2⟩
/-- A slice loaded from a cell, within a region. -/
theorem load_cell_at {P : Program} {ops : Array Oper} {o : Oper} {ts : Array Value} {ds : List Deferred} {w : World} {K : Act → World → Prop} {Q : Exit → Act → World → Prop} {E : Prop} (d : Nat) (hd : o.dst = some d) (hw : Region.wanted o (yielded ops ts) = true) (ty : TypeId) (x : Operand) (ho : o.op = .load ty x)
    (A : Addr) (hx : Act.eval { tmps := ts, defers := ds } x = .pointer (some A)) (ao : Option Addr) (n c : Nat) {e : TypeId} (hu : P.underlying ty = some (.slice e)) (hc : w.cell? A = some (.slice ao n c))
    (h : K { tmps := ts.setIfInBounds d (.slice ao n c), defers := ds } w) : if Region.wanted o (yielded ops ts) = true then Oper.wp P o { tmps := ts, defers := ds } w K Q else E := by
  rw [if_pos hw]
  have hy : (execOp (Act.eval { tmps := ts, defers := ds }) o).run P w = .ok (.value (.slice ao n c)) w := by
    unfold execOp
    simp [ho, hx, Instr.loadAt, Instr.sureAddr, loadVar, isAgg, run_underlying hu, hc]
  unfold Oper.wp
  rw [hy]
  simpa [Oper.upon, hd, Act.put] using h
/-- A slice stored in a cell of a block that is known whole, within a region. -/
theorem store_slice_at {P : Program} {ops : Array Oper} {o : Oper} {a : Act} {w : World} {K : Act → World → Prop} {Q : Exit → Act → World → Prop} {E : Prop} (hd : o.dst = none) (hw : Region.wanted o (yielded ops a.tmps) = true) (ty : TypeId) (x y : Operand) (ho : o.op = .store ty x y)
    (g off : Nat) (cur : Array Value) (ao : Option Addr) (n c : Nat) (t : TypeId) (hg : w.heap[g]? = some (.cells cur t (0, 0))) (hx : a.eval x = .pointer (some ⟨g, off, none⟩)) (hy : a.eval y = .slice ao n c) (hfit : off < cur.size)
    (hi : (P.info? ty).map (·.size) = some 1) (h : ∀ w', w'.heap[g]? = some (.cells (cur.setIfInBounds off (.slice ao n c)) t (0, 0)) → Solo g w w' → K a w') : if Region.wanted o (yielded ops a.tmps) = true then Oper.wp P o a w K Q else E := by
  rw [if_pos hw]
  have hcell : w.cell? ⟨g, off, none⟩ = some cur[off] := by simp [World.cell?, hg, hfit]
  have hfro : w.frozen? ⟨g, off, none⟩ = false := by simp [World.frozen?, hg]
  have hadd : (⟨g, off, none⟩ : Addr).add 0 = ⟨g, off, none⟩ := by unfold Addr.add; split <;> simp_all
  have hst : (storeVar ty ⟨g, off, none⟩ (.slice ao n c)).run P w = .ok () (w.setRow g (cur.setIfInBounds off (.slice ao n c))) := by
    cases hq : P.info? ty with
    | none => simp [hq] at hi
    | some i =>
      have hs : i.size = 1 := by simpa [hq] using hi
      simp [storeVar, sizeOf, typeInfo, hq, Value.cells, hs, storeCells, hadd, run_store P w _ _ _ (show (Value.slice ao n c).oneCell' = true from rfl), hcell, hfro, setCell_eq_setRow w g off cur t (0, 0) _ hg]
  unfold Oper.wp execOp
  simp only [ho, hx, hy, Instr.storeAt, Instr.sureAddr, Sem.run_bind, Sem.run_pure, Result.andThen_ok, hst]
  have h' := h _ (setRow_heap w g cur _ t _ hg) (solo_setRow w g _)
  simpa [Oper.upon, hd, Act.put] using h'
theorem own_solo {w w' : World} {base g : Nat} {e : TypeId} {size : Nat} {v : Value} {n : Nat} {xs : List Value} (h : w.ownsRow base e size v n xs) (hs : Solo g w w') (hg : g < base) : w'.ownsRow base e size v n xs := by
  refine ⟨h.1, ?_⟩
  rcases h.2 with h0 | ⟨b, cap, cur, rfl, h1, h2, rest⟩
  · exact .inl h0
  · exact .inr ⟨b, cap, cur, rfl, h1, (hs.block b (by omega)).trans h2, rest⟩
set_option maxRecDepth 100000 in
theorem vecSize12 : (Tryz.prog.info? 75).map (·.size) = some 1 := by kernel_rfl
theorem hist_learn {w0 wz w9 : World} {h : Hist} {d : DeedT} {out : Value} {a : Nat → Value} {us : List (Ev × Value)} {i oo : Nat} {ao : Option Addr} {n c : Nat} (hL : d.learns = true) (hi : i = d.who % 3) (hoo : oo = d.other % 3) (hi3 : i < 3) (hus : us.map (·.1) = h.out)
    (r1 : wz.heap[w0.heap.size]? = some (.cells #[.slice none 0 0, .slice none 0 0, .slice none 0 0] 76 (0, 0))) (r2 : wz.heap[w0.heap.size + 1]? = some (.cells #[a 0, a 1, a 2] 76 (0, 0)))
    (r3 : wz.heap[w0.heap.size + 2]? = some (.cells #[.string ⟨#[97]⟩, .string ⟨#[97, 47, 98]⟩, .string ⟨#[99]⟩, .string ⟨#[100]⟩] 9 (0, 0))) (r4 : w0.heap.size + 3 ≤ wz.heap.size)
    (hy : ∀ j, j < 3 → TypDots wz (a j) (h.know j)) (ho : OwnEvs (w0.heap.size + 3) wz out us) (hu : TypDots wz (.slice ao n c) (joinV (h.know i) (h.know oo)))
    (hg : w9.heap[w0.heap.size + 1]? = some (.cells ((#[a 0, a 1, a 2] : Array Value).setIfInBounds i (.slice ao n c)) 76 (0, 0))) (hs : Solo (w0.heap.size + 1) wz w9) (hb : Below w0.heap.size w0 w9) : HistAt w0 w9 (stepH h d) out := by
  rw [know_set a _ hi3] at hg
  have hstep : stepH h d = ⟨putK h.know i (joinV (h.know i) (h.know oo)), h.out⟩ := by rw [stepH, if_pos hL, hi, hoo]
  rw [hstep]
  refine ⟨fun j => if j = i then .slice ao n c else a j, us, hus, ⟨own_solo ho.1 hs (by omega), fun x hx => typ_solo (ho.2 x hx) hs r2 (by decide)⟩, (hs.block _ (by omega)).trans r1, hg, fun j hj => ?_, (hs.block _ (by omega)).trans r3, by rw [hs.size]; exact r4, hb⟩
  by_cases hji : j = i
  · simp only [if_pos hji, putK]; exact typ_solo hu hs r2 (by decide)
  · simp only [if_neg hji, putK]; exact typ_solo (hy j hj) hs r2 (by decide)
theorem ready_allocH {P : Program} {md : Region.Mode} {ops : Array Oper} {Q : Exit → Act → World → Prop} {S : World → Prop} {fuel : Nat} {listed : Array Bool} {ts : Array Value} {ds : List Deferred} {w : World} (i d : Nat) (hr : Region.ready md ops listed = [i]) {o : Oper} (hoi : ops[i]? = some o) (hd : o.dst = some d) (hw : Region.wanted o (yielded ops ts) = true) (t : TypeId) (ho : o.op = .alloc t) (cs : Array Value)
    (hz : (P.info? t).map (fun i => i.zero) = some (some (.agg cs))) (hS : S (w.alloc (.cells cs t (0, 0))))
    (h : wpAnyH P md ops Q S fuel (listed.setIfInBounds i true) { tmps := ts.setIfInBounds d (.pointer (some ⟨w.heap.size, 0, none⟩)), defers := ds } (w.alloc (.cells cs t (0, 0)))) : wpAnyH P md ops Q S (fuel + 1) listed { tmps := ts, defers := ds } w :=
  wpAnyH_ready hr (by simp) (AllReadyH.cons hoi (fun K hK => alloc_at d hd hw t ho cs hz (hK.out _ _ hS (fun _ => h))) AllReadyH.nil)
set_option maxRecDepth 100000 in
theorem ev_zeroH : (Tryz.prog.info? 92).map (fun i => i.zero) = some (some (.agg (evC noEv (.slice none 0 0)))) := by kernel_rfl
theorem row_sizeF {n : Nat} (hn : n < 256) : row .u8 32 (sizeF n) = #[.int .u8 (n : Int), .int .u8 0, .int .u8 0, .int .u8 0, .int .u8 0, .int .u8 0, .int .u8 0, .int .u8 0, .int .u8 0, .int .u8 0, .int .u8 0, .int .u8 0, .int .u8 0, .int .u8 0, .int .u8 0, .int .u8 0, .int .u8 0, .int .u8 0, .int .u8 0, .int .u8 0, .int .u8 0, .int .u8 0, .int .u8 0, .int .u8 0, .int .u8 0, .int .u8 0, .int .u8 0, .int .u8 0, .int .u8 0, .int .u8 0, .int .u8 0, .int .u8 0] := by
  have h : u32 (sizeF n 0) = (n : Int) := by
    show u32 (BitVec.ofNat 32 n) = _
    unfold u32; rw [BitVec.toNat_ofNat]; omega
  rw [← h]; rfl
set_option maxRecDepth 100000 in
theorem dig_built {n : Nat} (hn : n < 256) : Tryz.prog.built 31 [(0, .int .u8 (n : Int))] = some (row .u8 32 (sizeF n)) := by
  rw [row_sizeF hn]; kernel_rfl
theorem path_cellH {w : World} {B : Nat} {T : TypeId} (h : w.heap[B]? = some (.cells #[.string ⟨#[97]⟩, .string ⟨#[97, 47, 98]⟩, .string ⟨#[99]⟩, .string ⟨#[100]⟩] T (0, 0))) {k : Nat} (hk : k < 4) : w.cell? ⟨B, k, none⟩ = some (.string (str (pathsH.getD k []))) := by
  rw [cell_of_row _ _ k _ _ _ h]
  match k, hk with
  | 0, _ => rfl
  | 1, _ => rfl
  | 2, _ => rfl
  | 3, _ => rfl
theorem slice_yields12H {P : Program} {ops : Array Oper} {S : World → Prop} {o : Oper} {a : Act} (hw : Region.wanted o (yielded ops a.tmps) = true) (ty : TypeId) (x : Operand) (ho : o.op = .load ty x)
    (A : Addr) (hx : a.eval x = .pointer (some A)) (ao : Option Addr) (n c : Nat) {e : TypeId} (hu : P.underlying ty = some (.slice e)) (hS : ∀ w, S w → w.cell? A = some (.slice ao n c)) : YieldsIf P ops S o (.slice ao n c) a :=
  .inl ⟨hw, fun w h => by
    have hc := hS w h
    unfold execOp
    simp [ho, hx, Instr.loadAt, Instr.sureAddr, loadVar, isAgg, run_underlying hu, hc]⟩
theorem take_step {l : List DeedT} {k : Nat} {d : DeedT} (hd : l[k]? = some d) (h : Hist) : (l.take (k + 1)).foldl stepH h = stepH ((l.take k).foldl stepH h) d := by
  rw [List.take_add_one, hd, List.foldl_append]; rfl
theorem inv_take (l : List DeedT) (hs : ∀ d ∈ l, d.size < 256) (k : Nat) (hk : k ≤ 40) : ∃ n, InvH ((l.take k).foldl stepH hist0) n := by
  have hl : (l.take k).length ≤ 40 := by rw [List.length_take]; omega
  exact ⟨_, inv_fold (l.take k) hist0 0 inv0 (by omega) (fun d hd => hs d (List.mem_of_mem_take hd))⟩
theorem know_len {h : Hist} {n : Nat} (H : InvH h n) {i : Nat} (hi : i < 3) : (h.know i).length < 2000000 := by
  have := rising_length (H.vec i hi); omega
theorem results_tmp_cell {fn : Func} {p u : Tmp} {ty : TypeId} (h : fn.results = #[.tmp u, .cell p ty]) (tmps : Array Value) (P : Program) (w : World) :
    (results fn tmps).run P w =
      ((asAddr (tmps.getD p undef)).run P w).andThen fun a w₁ => ((loadVar ty a).run P w₁).andThen fun v w₂ => .ok (.tuple #[tmps.getD u undef, v]) w₂ := by
  simp only [results, h]
  simp [Sem.run_bind, Result.andThen]
theorem results_2cell {P : Program} {fn : Func} {p u : Tmp} {ty : TypeId} (h : fn.results = #[.tmp u, .cell p ty]) (tmps : Array Value) (w : World) (g : Nat) (t : TypeId) (cs : Array Value) (fr : Nat × Nat) (d : TypeDesc) (x : Value)
    (hp : tmps.getD p undef = .pointer (some ⟨g, 0, none⟩)) (hx : tmps.getD u undef = x) (hg : w.heap[g]? = some (.cells cs t fr))
    (hu : P.underlying ty = some d) (hd : (match d with | .struct _ | .array _ _ => true | _ => false) = true) (hi : (P.info? ty).map (·.size) = some cs.size) :
    (results fn tmps).run P w = .ok (.tuple #[x, .agg cs]) w := by
  rw [results_tmp_cell h, hp, hx]
  simp [asAddr, run_loadVar_row w g t ty cs fr d hg hu hd hi]
theorem dots_grownH {w w' : World} {v : Value} {l : List D2} {row : Option Nat} (h : HasDots w v l) (hg : w.grownBy w' row) (hne : l = [] ∨ v.ownBlock ≠ row) : HasDots w' v l := by
  obtain ⟨ao, cap, rfl, hnil, hc⟩ := h
  refine ⟨ao, cap, rfl, hnil, fun ad had => ⟨(hc ad had).1, fun j u hu => ?_⟩⟩
  rcases hne with rfl | hne
  · simp [dotsC] at hu
  · have h1 := (hc ad had).2 j u hu
    refine hg.cell h1 fun e => hne ?_
    rw [had]
    show some ad.block = row
    rw [← e]; unfold Addr.add; split <;> rfl
theorem typ_grown {w w' : World} {v : Value} {l : List D2} {row : Option Nat} (h : TypDots w v l) (hg : w.grownBy w' row) (hrow : ∀ k, row = some k → ∃ cs T fr, T ≠ 29 ∧ w.heap[k]? = some (.cells cs T fr)) : TypDots w' v l := by
  have hne : l = [] ∨ v.ownBlock ≠ row := h.2.elim .inl fun ⟨k, cs', fr', h1, h2⟩ => .inr fun e => by
    obtain ⟨cs, T, fr, h3, h4⟩ := hrow k (by rw [← e, h1])
    rw [h2] at h4; cases h4; exact h3 rfl
  refine ⟨dots_grownH h.1 hg hne, h.2.elim .inl fun ⟨k, cs', fr', h1, h2⟩ => ?_⟩
  rcases hne with rfl | hne
  · exact .inl rfl
  · exact .inr ⟨k, cs', fr', h1, (hg.block k (Array.getElem?_eq_some_iff.1 h2).1 (fun e => hne (by rw [h1, e]))).trans h2⟩
theorem own_blockH {w : World} {base : Nat} {e : TypeId} {size : Nat} {v : Value} {n : Nat} {xs : List Value} (h : w.ownsRow base e size v n xs) : ∀ b, v.ownBlock = some b → base ≤ b ∧ b < w.heap.size ∧ ∃ cs, w.heap[b]? = some (.cells cs e (0, 0)) := by
  intro b hb
  rcases h.2 with ⟨rfl, -⟩ | ⟨g, cap, cur, rfl, h1, h2, -⟩
  · cases hb
  · cases hb; exact ⟨h1, (Array.getElem?_eq_some_iff.1 h2).1, cur, h2⟩
theorem own_solo2 {w w' : World} {base g : Nat} {e : TypeId} {size : Nat} {v : Value} {n : Nat} {xs : List Value} (h : w.ownsRow base e size v n xs) (hs : Solo g w w') (hg : ∀ b, v.ownBlock = some b → b ≠ g) : w'.ownsRow base e size v n xs := by
  refine ⟨h.1, ?_⟩
  rcases h.2 with h0 | ⟨b, cap, cur, rfl, h1, h2, rest⟩
  · exact .inl h0
  · exact .inr ⟨b, cap, cur, rfl, h1, (hs.block b (hg b rfl)).trans h2, rest⟩
/-- What lies in memory while an event is being made in block g. -/
structure HistMid (w0 w : World) (a : Nat → Value) (h : Hist) (out : Value) (us : List (Ev × Value)) (g : Nat) : Prop where
  r1 : w.heap[w0.heap.size]? = some (.cells #[.slice none 0 0, .slice none 0 0, .slice none 0 0] 76 (0, 0))
  r2 : w.heap[w0.heap.size + 1]? = some (.cells #[a 0, a 1, a 2] 76 (0, 0))
  r3 : w.heap[w0.heap.size + 2]? = some (.cells #[.string ⟨#[97]⟩, .string ⟨#[97, 47, 98]⟩, .string ⟨#[99]⟩, .string ⟨#[100]⟩] 9 (0, 0))
  typ : ∀ j, j < 3 → TypDots w (a j) (h.know j)
  own : OwnEvs (w0.heap.size + 3) w out us
  low : w0.heap.size + 3 ≤ g
  apart : ∀ b, out.ownBlock = some b → b < g
  top : g < w.heap.size
  bel : Below w0.heap.size w0 w
theorem histMid_below {w0 w w' : World} {a : Nat → Value} {h : Hist} {out : Value} {us : List (Ev × Value)} {g : Nat} (H : HistMid w0 w a h out us g) (hb : Below w.heap.size w w') : HistMid w0 w' a h out us g :=
  ⟨row_kept H.r1 hb, row_kept H.r2 hb, row_kept H.r3 hb, fun j hj => typ_below (H.typ j hj) hb, ⟨own_below H.own.1 hb, fun x hx => typ_below (H.own.2 x hx) hb⟩, H.low, H.apart, Nat.lt_of_lt_of_le H.top hb.size, below_next H.bel hb⟩
theorem histMid_solo {w0 w w' : World} {a : Nat → Value} {h : Hist} {out : Value} {us : List (Ev × Value)} {g : Nat} {e : Ev} {v : Value} (H : HistMid w0 w a h out us g) (he : EvAt w g 92 e v) (hs : Solo g w w') : HistMid w0 w' a h out us g := by
  have hl := H.low
  exact ⟨(hs.block _ (by omega)).trans H.r1, (hs.block _ (by omega)).trans H.r2, (hs.block _ (by omega)).trans H.r3, fun j hj => typ_solo (H.typ j hj) hs he (by decide),
    ⟨own_solo2 H.own.1 hs (fun b hb => by have := H.apart b hb; omega), fun x hx => typ_solo (H.own.2 x hx) hs he (by decide)⟩, H.low, H.apart, by rw [hs.size]; exact H.top, solo_below H.bel hs (by omega)⟩
theorem hist_event {w0 wz w9 wA w10 : World} {h : Hist} {d : DeedT} {out out' : Value} {a : Nat → Value} {us : List (Ev × Value)} {i g : Nat} {ao : Option Addr} {n c : Nat} {vd : Value} (hL : d.learns = false) (hi : i = d.who % 3) (hi3 : i < 3) (hus : us.map (·.1) = h.out)
    (H : HistMid w0 wz a h out us g) (hvd : vd = a i) (hu : TypDots wz (.slice ao n c) (withV (h.know i) (evH h d).r (evH h d).q))
    (hg : w9.heap[w0.heap.size + 1]? = some (.cells ((#[a 0, a 1, a 2] : Array Value).setIfInBounds i (.slice ao n c)) 76 (0, 0))) (hs : Solo (w0.heap.size + 1) wz w9) (hA : Below w9.heap.size w9 wA)
    (hown : w10.ownsRow (w0.heap.size + 3) 92 38 out' (us ++ [(evH h d, vd)]).length (evsC (us ++ [(evH h d, vd)]))) (hgr : wA.grownBy w10 out.ownBlock) : HistAt w0 w10 (stepH h d) out' := by
  have hl := H.low
  have htop := H.top
  rw [know_set a _ hi3] at hg
  have hstep : stepH h d = ⟨putK h.know i (withV (h.know i) (evH h d).r (evH h d).q), h.out ++ [evH h d]⟩ := by rw [stepH, hL, if_neg (by simp), hi]
  have hob := own_blockH H.own.1
  have h9 : w9.heap.size = wz.heap.size := hs.size
  have szA := hA.size
  have hold : ∀ b, out.ownBlock = some b → ∃ cs T fr, T ≠ 29 ∧ wA.heap[b]? = some (.cells cs T fr) := fun b hb => by
    obtain ⟨h1, h2, cs, h3⟩ := hob b hb
    exact ⟨cs, 92, (0, 0), by decide, row_kept ((hs.block b (by omega)).trans h3) hA⟩
  have low : ∀ {B : Nat} {o : Obj}, B < w0.heap.size + 3 → w9.heap[B]? = some o → w10.heap[B]? = some o := fun {B o} hB ho => by
    have hlt : B < w9.heap.size := (Array.getElem?_eq_some_iff.1 ho).1
    exact (hgr.block B (by omega) (fun e => by have := (hob B e.symm).1; omega)).trans ((hA.block B hlt).trans ho)
  have ty : ∀ {v : Value} {l : List D2}, TypDots wz v l → TypDots w10 v l := fun {v l} ht => typ_grown (typ_below (typ_solo ht hs H.r2 (by decide)) hA) hgr hold
  rw [hstep]
  refine ⟨fun j => if j = i then .slice ao n c else a j, us ++ [(evH h d, vd)], by rw [List.map_append, hus]; rfl, ⟨hown, fun x hx => ?_⟩, low (by omega) ((hs.block _ (by omega)).trans H.r1), low (by omega) hg, fun j hj => ?_, low (by omega) ((hs.block _ (by omega)).trans H.r3), ?_, ?_⟩
  · rcases List.mem_append.1 hx with hx | hx
    · exact ty (H.own.2 x hx)
    · rw [List.mem_singleton.1 hx, hvd]
      have := H.typ i hi3
      exact ty (show TypDots wz (a i) (evH h d).deps by unfold evH; rw [← hi]; exact this)
  · by_cases hji : j = i
    · simp only [if_pos hji, putK]; exact ty hu
    · simp only [if_neg hji, putK]; exact ty (H.typ j hj)
  · have := hgr.size; omega
  · refine below_grown (below_next (solo_below H.bel hs (by omega)) hA) hgr (by have := H.bel.size; omega) (fun b hb => ?_)
    have := (hob b hb).1; omega
set_option maxRecDepth 100000 in
theorem ev_slice1 (e : Ev) (ao : Option Addr) (n c : Nat) : Tryz.prog.builtSlice 92 1 [(0, .agg (evC e (.slice ao n c)))] = some (evC e (.slice ao n c)) := by kernel_rfl
/-- A slice of one event, made. -/
theorem build_ev1 {ops : Array Oper} {rest : List Oper} {o : Oper} {a : Act} {w : World} {Q : Exit → Act → World → Prop} (hg : o.guard = none) (d : Nat) (hd : o.dst = some d) (x : Operand) (ho : o.op = .buildSlice 22 1 #[(0, x)])
    (N : Nat) (hN : w.heap.size = N) (e : Ev) (ao : Option Addr) (n c : Nat) (hx : a.eval x = .agg (evC e (.slice ao n c)))
    (h : ∀ w', EvAt w' N 92 e (.slice ao n c) → Below w.heap.size w w' → N < w'.heap.size → wpList Tryz.prog ops Q rest (a.put (some d) (.slice (some ⟨N, 0, none⟩) 1 1)) w') : wpList Tryz.prog ops Q (o :: rest) a w := by
  refine Go.Great.wpList_buildSliceTo hg 22 92 1 #[(0, x)] ho N hN (some d) hd Tryz.underlying22 (evC e (.slice ao n c)) ?_ (h _ ?_ ((Below.refl _ _).alloc (Nat.le_refl _) _) ?_)
  · have hp : ((#[(0, x)] : Array (Nat × Operand)).map fun (i, x) => (i, a.eval x)).toList = [(0, .agg (evC e (.slice ao n c)))] := by simp [hx]
    rw [hp]; exact ev_slice1 e ao n c
  · rw [← hN]; exact heap_last _ _
  · rw [size_of_alloc, hN]; omega
theorem hist_len (l : List DeedT) : ∀ k, ((l.take k).foldl stepH hist0).out.length ≤ k
  | 0 => by simp [hist0]
  | k + 1 => by
    have ih := hist_len l k
    cases hd : l[k]? with
    | none => rw [List.take_add_one, hd]; simpa using Nat.le_succ_of_le ih
    | some d =>
      rw [take_step hd]
      generalize (l.take k).foldl stepH hist0 = h at *
      unfold stepH
      split
      · exact Nat.le_succ_of_le ih
      · simp only [List.length_append, List.length_cons, List.length_nil]; omega
set_option maxRecDepth 100000 in
theorem intSizeH : (Tryz.prog.info? 3).map (·.size) = some 1 := by kernel_rfl
set_option maxRecDepth 100000 in
theorem ev_kindH (e : Ev) (v : Value) (k : Int) : (evC e v).setIfInBounds 3 (.int .i64 k) = evC ⟨e.r, e.q, e.deps, k, e.path, e.sum, e.size⟩ v := by kernel_rfl
set_option maxRecDepth 100000 in
theorem ev_sizeH (e : Ev) (v : Value) (k : Int) : (evC e v).setIfInBounds 37 (.int .i64 k) = evC ⟨e.r, e.q, e.deps, e.kind, e.path, e.sum, k⟩ v := by kernel_rfl
set_option maxRecDepth 100000 in
theorem ev_sumH (e : Ev) (v : Value) (f : Nat → BitVec 32) : (splice (evC e v).toList 5 (row .u8 32 f).toList).toArray = evC ⟨e.r, e.q, e.deps, e.kind, e.path, f, e.size⟩ v := by kernel_rfl
theorem row_onesH (f : Nat → BitVec 32) : ∀ u ∈ (row .u8 32 f).toList, u.oneCell' = true := fun u hu => (Array.all_eq_true_iff_forall_mem.1 (row_one .u8 32 f)) u (by simpa using hu)
set_option maxRecDepth 100000 in
theorem dig_built0 : Tryz.prog.built 31 [] = some (row .u8 32 zeroF) := by kernel_rfl
theorem load_cell_on {P : Program} {ops : Array Oper} {rest : List Oper} {o : Oper} {a : Act} {w : World} {Q : Exit → Act → World → Prop} (hw : Region.wanted o (yielded ops a.tmps) = true) (ty : TypeId) (x : Operand) (ho : o.op = .load ty x)
    (A : Addr) (hx : a.eval x = .pointer (some A)) (b : Bool) (hu : P.underlying ty = some .bool) (hc : w.cell? A = some (.bool b)) (h : wpList P ops Q rest (a.put o.dst (.bool b)) w) : wpList P ops Q (o :: rest) a w := by
  have hy : (execOp a.eval o).run P w = .ok (.value (.bool b)) w := by
    unfold execOp
    simp [ho, hx, Instr.loadAt, Instr.sureAddr, loadVar, isAgg, run_underlying hu, hc]
  refine wpList_step fun K hK => ?_
  rw [if_pos hw]
  unfold Oper.wp
  rw [hy]
  exact hK _ _ h
end Go.Proofs.YtppmbdpfledejaaGreatDoor
