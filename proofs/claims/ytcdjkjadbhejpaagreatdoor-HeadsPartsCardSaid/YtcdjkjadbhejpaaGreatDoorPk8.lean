/-
Texts that all claims of this seat share, part 8: Ref10With, Ref10Leq, HistMem, RefJoin13, Law13Small, HexaCode, Marks, PathSeq.
-/
import Derived.Deep.QuietTactic
import Derived.BigQuiet
import Derived.Laws.AppendOwn
import Derived.Laws.OwnMore
import Derived.Great.Walk
import Derived.Test.YtcdjkjadbhejpaaGreatDoorShelf
import Derived.Shelf.Strings.SplitCore
import Derived.Laws.CopyOwn
import Derived.WalkMore
import Derived.ScopeJumps
import Derived.Lib.Join
import Derived.RangeFuncNested
import Derived.RangeFuncBound
import Derived.RangeFuncCalls
import Derived.RangeFuncLeaves
import Derived.RangeFuncFrom
import Derived.Shelf.Abstract
import Derived.Shelf.RegionOpen
import Derived.WalkKit
import Derived.OwnWalkIn
import Derived.TacticsInMore
import Derived.LoopNIn
import Derived.LoopIn
import Derived.Lib.IndexLaws
import Derived.OneCell
import Derived.Test.YtcdjkjadbhejpaaGreatDoorPk7
namespace Go.Proofs.YtcdjkjadbhejpaaGreatDoor
open Go.RowKit
theorem refOf_VT (f : Nat → Int) (w : World) : Calls Tryz.prog 93 #[numsV 32 f] w fun e w' => ∃ v, e = .returned v ∧ TypDots w' v (ofV f) ∧ Below w.heap.size w w' := refOf_typ f w
set_option maxRecDepth 100000 in
set_option maxHeartbeats 16000000 in
theorem refWith_typ10 (l : List D2) (hl : l.length < 2000000) (r q : Int) (v : Value) (w : World) (hv : HasDots w v l) : Calls Tryz.prog 54 #[v, .agg #[.int .i64 r, .int .i64 q]] w fun e w' => ∃ u, e = .returned u ∧ TypDots w' u (withV l r q) ∧ Below w.heap.size w w' := by
  have HV := Lib.hid hv
  have MY := Lib.hid (fun w => refMay_any9 r q w)
  have A1 := Lib.hid (fun w v hv => refAll_V l hl v w hv)
  have O1 := Lib.hid (fun w => refOf_VT (withN l r q) w)
  have E0 := Lib.hid (show (w.alloc (.cells #[.int .i64 r, .int .i64 q] 24 (0, 0))).heap[w.heap.size]? = some (.cells #[.int .i64 r, .int .i64 q] 24 (0, 0)) from one_box w r q)
  have B0 := Lib.hid ((Below.refl w.heap.size w).alloc (Nat.le_refl _) (.cells #[.int .i64 r, .int .i64 q] 24 (0, 0)))
  have L0 := Lib.hid (show w.heap.size < (w.alloc (.cells #[.int .i64 r, .int .i64 q] 24 (0, 0))).heap.size by simp)
  obtain ⟨ao, cap, rfl⟩ := dots_shape hv l.length rfl
  obtain ⟨n, hn⟩ : ∃ n, n = l.length := ⟨_, rfl⟩
  rw [← hn] at HV ⊢
  clear hv hl hn
  go_enter Tryz.func54, Tryz.ntmps54
  go_upto_region 1 with fail
  generalize w.alloc (.cells #[.int .i64 r, .int .i64 q] 24 (0, 0)) = W0 at *
  go_upto_region 2 with (first
    | (go_at_call 92; refine (A1.out W0 _ (dots_below HV.out B0.out)).mono ?_; rintro e w1 ⟨rfl, hb⟩; have E1 := Lib.hid (row_kept E0.out hb); have B1 := Lib.hid (below_next B0.out hb); have L1 := Lib.hid (show w.heap.size < w1.heap.size from Nat.lt_of_lt_of_le L0.out hb.size); clear hb)
    | (refine alloc_as rfl 123 rfl _ zero32 ?_)
    | (refine store_new rfl 123 (.tmp 5) (.tmp 7) rfl rfl w1 _ (nums 32 (allV l)) 123 rfl rfl rfl (by rw [nums_size]; kernel_rfl) (by rw [nums_size, nums_size]) (nums_one _ _) ?_; intro w2 hg2 hb2 hs2; have HG := Lib.hid hg2; have E2 := Lib.hid (row_kept E1.out hb2); have B2 := Lib.hid (below_next B1.out hb2); have LG := Lib.hid (And.intro L1.out hs2); clear hg2 hb2 hs2))
  obtain ⟨c0, c1⟩ := dot_cells (show _ = some (dotO r q) from E2.out)
  have C0 := Lib.hid c0
  have C1 := Lib.hid c1
  clear c0 c1 E0 E1 B0 B1 L0 L1
  generalize w1.heap.size = G at *
  cases hm : mayD r q with
  | false =>
    rw [hm] at MY
    have HS := Lib.hid (show nums 32 (allV l) = nums 32 (withN l r q) from nums_congr _ _ _ fun i _ => by
      rw [withN, if_neg (fun h => by rw [hm] at h; exact absurd h.1 (by decide))])
    rw [HS.out] at HG
    clear hm HS
    refine wp_region_held_drew (S := fun w' => Below w2.heap.size w2 w') (by kernel_rfl) (drawS (Below.refl _ _)) (fun hHeld => ?_)
    generalize w2.drew = wd at hHeld ⊢
    refine take_at (i := 0) 8 rfl rfl (by kernel_rfl) (by kernel_rfl) (by kernel_rfl) (fun _ _ _ h => h) (row_yields (by rfl) 24 (.tmp 3) rfl w.heap.size rfl 24 _ (0, 0) _ Tryz.underlying24 rfl (by kernel_rfl) (fun _ h => row_kept E2.out h)) hHeld ?_
    simp only [List.setIfInBounds_toArray, List.set_cons_zero, List.set_cons_succ]
    refine wpAnyH_ready (rs := [1]) (by kernel_rfl) (by simp) ?_
    refine AllReadyH.cons rfl (fun K hK => ?_) AllReadyH.nil
    go_simp
    go_at_call 74
    refine (MY.out _).mono ?_
    rintro e w6 ⟨rfl, hb⟩
    dsimp only
    refine hK.out _ _ (below_next hHeld hb) (fun hHeld => ?_)
    clear hK K hb
    refine take_at (i := 2) 10 rfl rfl (by kernel_rfl) (by kernel_rfl) (by kernel_rfl) (fun _ _ _ h => h) (sure_yes (by rfl) (fun w => by go_simp; try with_reducible rfl)) hHeld ?_
    simp only [List.setIfInBounds_toArray, List.set_cons_zero, List.set_cons_succ]
    refine take_at (i := 3) 11 rfl rfl (by kernel_rfl) (by kernel_rfl) (by kernel_rfl) (fun _ _ _ h => h) (.inr ⟨by rfl, rfl⟩) hHeld ?_
    simp only [List.setIfInBounds_toArray, List.set_cons_zero, List.set_cons_succ]
    refine take_at (i := 4) 12 rfl rfl (by kernel_rfl) (by kernel_rfl) (by kernel_rfl) (fun _ _ _ h => h) (.inr ⟨by rfl, rfl⟩) hHeld ?_
    simp only [List.setIfInBounds_toArray, List.set_cons_zero, List.set_cons_succ]
    refine take_at (i := 5) 13 rfl rfl (by kernel_rfl) (by kernel_rfl) (by kernel_rfl) (fun _ _ _ h => h) (.inr ⟨by rfl, rfl⟩) hHeld ?_
    simp only [List.setIfInBounds_toArray, List.set_cons_zero, List.set_cons_succ]
    refine take_at (i := 6) 14 rfl rfl (by kernel_rfl) (by kernel_rfl) (by kernel_rfl) (fun _ _ _ h => h) (.inr ⟨by rfl, rfl⟩) hHeld ?_
    simp only [List.setIfInBounds_toArray, List.set_cons_zero, List.set_cons_succ]
    refine take_at (i := 7) 15 rfl rfl (by kernel_rfl) (by kernel_rfl) (by kernel_rfl) (fun _ _ _ h => h) (.inr ⟨by rfl, rfl⟩) hHeld ?_
    simp only [List.setIfInBounds_toArray, List.set_cons_zero, List.set_cons_succ]
    refine take_at (i := 8) 16 rfl rfl (by kernel_rfl) (by kernel_rfl) (by kernel_rfl) (fun _ _ _ h => h) (.inr ⟨by rfl, rfl⟩) hHeld ?_
    simp only [List.setIfInBounds_toArray, List.set_cons_zero, List.set_cons_succ]
    refine take_at (i := 9) 17 rfl rfl (by kernel_rfl) (by kernel_rfl) (by kernel_rfl) (fun _ _ _ h => h) (.inr ⟨by rfl, rfl⟩) hHeld ?_
    simp only [List.setIfInBounds_toArray, List.set_cons_zero, List.set_cons_succ]
    refine take_at (i := 10) 18 rfl rfl (by kernel_rfl) (by kernel_rfl) (by kernel_rfl) (fun _ _ _ h => h) (sure_yes (by rfl) (fun w => by go_simp; try with_reducible rfl)) hHeld ?_
    simp only [List.setIfInBounds_toArray, List.set_cons_zero, List.set_cons_succ]
    refine wpAnyH_done (by kernel_rfl) ?_ _
    have HG6 := Lib.hid (row_kept HG.out hHeld)
    have B6 := Lib.hid (below_next B2.out hHeld)
    go_wp2_with (first
      | (refine wpList_load_row rfl 123 (.tmp 5) rfl G rfl 123 _ (0, 0) _ HG6.out Tryz.underlying123 rfl (by rw [nums_size]; kernel_rfl) ?_)
      | (go_at_call 93; refine (O1.out _).mono ?_; rintro e w8 ⟨u, rfl, hu, hb⟩; have HU := Lib.hid hu; have B8 := Lib.hid (below_next B6.out hb); clear hu hb))
    go_ret
    exact ⟨_, rfl, HU.out, B8.out⟩
  | true =>
    rw [hm] at MY
    have hb := mayT_bd (d := (r, q)) hm
    simp only at hb
    obtain ⟨i, hi⟩ : ∃ i : Nat, r = (i : Int) := ⟨r.toNat, by omega⟩
    subst hi
    have hi32 : i < 32 := by omega
    have qi : (i : Int) < 32 := by omega
    obtain ⟨m, hme⟩ : ∃ m, m = allV l i := ⟨_, rfl⟩
    have CM := Lib.hid (show w2.cell? ⟨G, i, none⟩ = some (.int .i64 m) by rw [hme]; exact nums_cell HG.out i hi32)
    by_cases hgt : m < q
    · have d1 : decide (q > m) = true := decide_eq_true hgt
      have HS := Lib.hid (show (nums 32 (allV l)).setIfInBounds i (.int .i64 q) = nums 32 (withN l (i : Int) q) from nums_set _ _ _ _ _ fun j _ => by
        rw [withN]
        by_cases hj : j = i
        · subst hj; rw [if_pos rfl, if_pos ⟨hm, rfl, by rw [← hme]; exact hgt⟩]
        · rw [if_neg hj, if_neg (fun h => hj (by have := h.2.1; omega))])
      have HI := Lib.hid hi32
      clear hm hb hgt hme hi32
      refine wp_region_held_drew (S := fun w' => Below w2.heap.size w2 w') (by kernel_rfl) (drawS (Below.refl _ _)) (fun hHeld => ?_)
      generalize w2.drew = wd at hHeld ⊢
      refine take_at (i := 0) 8 rfl rfl (by kernel_rfl) (by kernel_rfl) (by kernel_rfl) (fun _ _ _ h => h) (row_yields (by rfl) 24 (.tmp 3) rfl w.heap.size rfl 24 _ (0, 0) _ Tryz.underlying24 rfl (by kernel_rfl) (fun _ h => row_kept E2.out h)) hHeld ?_
      simp only [List.setIfInBounds_toArray, List.set_cons_zero, List.set_cons_succ]
      refine wpAnyH_ready (rs := [1]) (by kernel_rfl) (by simp) ?_
      refine AllReadyH.cons rfl (fun K hK => ?_) AllReadyH.nil
      go_simp
      go_at_call 74
      refine (MY.out _).mono ?_
      rintro e w6 ⟨rfl, hb⟩
      dsimp only
      refine hK.out _ _ (below_next hHeld hb) (fun hHeld => ?_)
      clear hK K hb
      refine take_at (i := 2) 10 rfl rfl (by kernel_rfl) (by kernel_rfl) (by kernel_rfl) (fun _ _ _ h => h) (sure_yes (by rfl) (fun w => by go_simp; try with_reducible rfl)) hHeld ?_
      simp only [List.setIfInBounds_toArray, List.set_cons_zero, List.set_cons_succ]
      refine take_at (i := 3) 11 rfl rfl (by kernel_rfl) (by kernel_rfl) (by kernel_rfl) (fun _ _ _ h => h) (sure_yes (by rfl) (fun w => by go_simp; try with_reducible rfl)) hHeld ?_
      simp only [List.setIfInBounds_toArray, List.set_cons_zero, List.set_cons_succ]
      refine take_at (i := 5) 13 rfl rfl (by kernel_rfl) (by kernel_rfl) (by kernel_rfl) (fun _ _ _ h => h) (sure_yes (by rfl) (fun w => by go_simp; try with_reducible rfl)) hHeld ?_
      simp only [List.setIfInBounds_toArray, List.set_cons_zero, List.set_cons_succ]
      refine take_at (i := 4) 12 rfl rfl (by kernel_rfl) (by kernel_rfl) (by kernel_rfl) (fun _ _ _ h => h) (cell_yields (by rfl) 2 (.tmp 11) rfl w.heap.size 1 rfl .i64 q Tryz.underlying2 (fun w h => (World.cell?_of_block (h.block _ (World.block_lt_of_cell? _ _ C1.out))).trans C1.out)) hHeld ?_
      simp only [List.setIfInBounds_toArray, List.set_cons_zero, List.set_cons_succ]
      refine take_at (i := 6) 14 rfl rfl (by kernel_rfl) (by kernel_rfl) (by kernel_rfl) (fun _ _ _ h => h) (cell_yields (by rfl) 3 (.tmp 13) rfl w.heap.size 0 rfl .i64 (i : Int) Tryz.underlying3 (fun w h => (World.cell?_of_block (h.block _ (World.block_lt_of_cell? _ _ C0.out))).trans C0.out)) hHeld ?_
      simp only [List.setIfInBounds_toArray, List.set_cons_zero, List.set_cons_succ]
      refine take_at (i := 7) 15 rfl rfl (by kernel_rfl) (by kernel_rfl) (by kernel_rfl) (fun _ _ _ h => h) (sure_yes (by rfl) (fun w => by go_simp; try with_reducible rfl)) hHeld ?_
      simp only [List.setIfInBounds_toArray, List.set_cons_zero, List.set_cons_succ]
      refine take_at (i := 8) 16 rfl rfl (by kernel_rfl) (by kernel_rfl) (by kernel_rfl) (fun _ _ _ h => h) (cell_yields (by rfl) 2 (.tmp 15) rfl G i rfl .i64 m Tryz.underlying2 (fun w h => (World.cell?_of_block (h.block _ (World.block_lt_of_cell? _ _ CM.out))).trans CM.out)) hHeld ?_
      simp only [List.setIfInBounds_toArray, List.set_cons_zero, List.set_cons_succ]
      refine take_at (i := 9) 17 rfl rfl (by kernel_rfl) (by kernel_rfl) (by kernel_rfl) (fun _ _ _ h => h) (sure_yes (by rfl) (fun w => by go_simp; try with_reducible rfl)) hHeld ?_
      simp only [List.setIfInBounds_toArray, List.set_cons_zero, List.set_cons_succ]
      refine take_at (i := 10) 18 rfl rfl (by kernel_rfl) (by kernel_rfl) (by kernel_rfl) (fun _ _ _ h => h) (sure_yes (by rfl) (fun w => by go_simp; try with_reducible rfl)) hHeld ?_
      simp only [List.setIfInBounds_toArray, List.set_cons_zero, List.set_cons_succ]
      refine wpAnyH_done (by kernel_rfl) ?_ _
      have c0 := (World.cell?_of_block (hHeld.block _ (World.block_lt_of_cell? _ _ C0.out))).trans C0.out
      have c1 := (World.cell?_of_block (hHeld.block _ (World.block_lt_of_cell? _ _ C1.out))).trans C1.out
      have HG6 := Lib.hid (row_kept HG.out hHeld)
      have B6 := Lib.hid (below_next B2.out hHeld)
      clear hHeld C0 C1 CM HG
      go_wp2_with (first
        | (refine store_cell rfl 2 (.tmp 23) (.tmp 22) rfl rfl .i64 G i _ q 123 HG6.out rfl rfl (by rw [nums_size]; exact HI.out) (by kernel_rfl) ?_; intro w7 hg7 hs7; rw [HS.out] at hg7; have HG7 := Lib.hid hg7; have B7 := Lib.hid (solo_below B6.out hs7 (Nat.le_of_lt LG.out.1)); clear hg7 hs7)
        | (refine wpList_load_row rfl 123 (.tmp 5) rfl G rfl 123 _ (0, 0) _ HG7.out Tryz.underlying123 rfl (by rw [nums_size]; kernel_rfl) ?_)
        | (go_at_call 93; refine (O1.out _).mono ?_; rintro e w8 ⟨u, rfl, hu, hb⟩; have HU := Lib.hid hu; have B8 := Lib.hid (below_next B7.out hb); clear hu hb))
      go_ret
      exact ⟨_, rfl, HU.out, B8.out⟩
    · have d1 : decide (q > m) = false := decide_eq_false (by omega)
      have HS := Lib.hid (show nums 32 (allV l) = nums 32 (withN l (i : Int) q) from nums_congr _ _ _ fun j _ => by
        rw [withN, if_neg (fun h => by
          obtain rfl : j = i := by have := h.2.1; omega
          rw [← hme] at h; exact hgt h.2.2)])
      clear hm hb hgt hme hi32
      refine wp_region_held_drew (S := fun w' => Below w2.heap.size w2 w') (by kernel_rfl) (drawS (Below.refl _ _)) (fun hHeld => ?_)
      generalize w2.drew = wd at hHeld ⊢
      refine take_at (i := 0) 8 rfl rfl (by kernel_rfl) (by kernel_rfl) (by kernel_rfl) (fun _ _ _ h => h) (row_yields (by rfl) 24 (.tmp 3) rfl w.heap.size rfl 24 _ (0, 0) _ Tryz.underlying24 rfl (by kernel_rfl) (fun _ h => row_kept E2.out h)) hHeld ?_
      simp only [List.setIfInBounds_toArray, List.set_cons_zero, List.set_cons_succ]
      refine wpAnyH_ready (rs := [1]) (by kernel_rfl) (by simp) ?_
      refine AllReadyH.cons rfl (fun K hK => ?_) AllReadyH.nil
      go_simp
      go_at_call 74
      refine (MY.out _).mono ?_
      rintro e w6 ⟨rfl, hb⟩
      dsimp only
      refine hK.out _ _ (below_next hHeld hb) (fun hHeld => ?_)
      clear hK K hb
      refine take_at (i := 2) 10 rfl rfl (by kernel_rfl) (by kernel_rfl) (by kernel_rfl) (fun _ _ _ h => h) (sure_yes (by rfl) (fun w => by go_simp; try with_reducible rfl)) hHeld ?_
      simp only [List.setIfInBounds_toArray, List.set_cons_zero, List.set_cons_succ]
      refine take_at (i := 3) 11 rfl rfl (by kernel_rfl) (by kernel_rfl) (by kernel_rfl) (fun _ _ _ h => h) (sure_yes (by rfl) (fun w => by go_simp; try with_reducible rfl)) hHeld ?_
      simp only [List.setIfInBounds_toArray, List.set_cons_zero, List.set_cons_succ]
      refine take_at (i := 5) 13 rfl rfl (by kernel_rfl) (by kernel_rfl) (by kernel_rfl) (fun _ _ _ h => h) (sure_yes (by rfl) (fun w => by go_simp; try with_reducible rfl)) hHeld ?_
      simp only [List.setIfInBounds_toArray, List.set_cons_zero, List.set_cons_succ]
      refine take_at (i := 4) 12 rfl rfl (by kernel_rfl) (by kernel_rfl) (by kernel_rfl) (fun _ _ _ h => h) (cell_yields (by rfl) 2 (.tmp 11) rfl w.heap.size 1 rfl .i64 q Tryz.underlying2 (fun w h => (World.cell?_of_block (h.block _ (World.block_lt_of_cell? _ _ C1.out))).trans C1.out)) hHeld ?_
      simp only [List.setIfInBounds_toArray, List.set_cons_zero, List.set_cons_succ]
      refine take_at (i := 6) 14 rfl rfl (by kernel_rfl) (by kernel_rfl) (by kernel_rfl) (fun _ _ _ h => h) (cell_yields (by rfl) 3 (.tmp 13) rfl w.heap.size 0 rfl .i64 (i : Int) Tryz.underlying3 (fun w h => (World.cell?_of_block (h.block _ (World.block_lt_of_cell? _ _ C0.out))).trans C0.out)) hHeld ?_
      simp only [List.setIfInBounds_toArray, List.set_cons_zero, List.set_cons_succ]
      refine take_at (i := 7) 15 rfl rfl (by kernel_rfl) (by kernel_rfl) (by kernel_rfl) (fun _ _ _ h => h) (sure_yes (by rfl) (fun w => by go_simp; try with_reducible rfl)) hHeld ?_
      simp only [List.setIfInBounds_toArray, List.set_cons_zero, List.set_cons_succ]
      refine take_at (i := 8) 16 rfl rfl (by kernel_rfl) (by kernel_rfl) (by kernel_rfl) (fun _ _ _ h => h) (cell_yields (by rfl) 2 (.tmp 15) rfl G i rfl .i64 m Tryz.underlying2 (fun w h => (World.cell?_of_block (h.block _ (World.block_lt_of_cell? _ _ CM.out))).trans CM.out)) hHeld ?_
      simp only [List.setIfInBounds_toArray, List.set_cons_zero, List.set_cons_succ]
      refine take_at (i := 9) 17 rfl rfl (by kernel_rfl) (by kernel_rfl) (by kernel_rfl) (fun _ _ _ h => h) (sure_yes (by rfl) (fun w => by go_simp; try with_reducible rfl)) hHeld ?_
      simp only [List.setIfInBounds_toArray, List.set_cons_zero, List.set_cons_succ]
      refine take_at (i := 10) 18 rfl rfl (by kernel_rfl) (by kernel_rfl) (by kernel_rfl) (fun _ _ _ h => h) (sure_yes (by rfl) (fun w => by go_simp; try with_reducible rfl)) hHeld ?_
      simp only [List.setIfInBounds_toArray, List.set_cons_zero, List.set_cons_succ]
      refine wpAnyH_done (by kernel_rfl) ?_ _
      have HG6 := Lib.hid (show w6.heap[G]? = some (.cells (nums 32 (withN l (i : Int) q)) 123 (0, 0)) by rw [← HS.out]; exact row_kept HG.out hHeld)
      have B6 := Lib.hid (below_next B2.out hHeld)
      go_wp2_with (first
        | (refine wpList_load_row rfl 123 (.tmp 5) rfl G rfl 123 _ (0, 0) _ HG6.out Tryz.underlying123 rfl (by rw [nums_size]; kernel_rfl) ?_)
        | (go_at_call 93; refine (O1.out _).mono ?_; rintro e w8 ⟨u, rfl, hu, hb⟩; have HU := Lib.hid hu; have B8 := Lib.hid (below_next B6.out hb); clear hu hb))
      go_ret
      exact ⟨_, rfl, HU.out, B8.out⟩
end Go.Proofs.YtcdjkjadbhejpaaGreatDoor
namespace Go.Proofs.YtcdjkjadbhejpaaGreatDoor
open Go.RowKit
/-- The first k numbers are the new ones. -/
def mixN (f g : Nat → Int) (k i : Nat) : Int := if i < k then g i else f i
theorem mixN_zero (n : Nat) (f g : Nat → Int) : nums n (mixN f g 0) = nums n f := nums_congr _ _ _ fun _ _ => if_neg (by omega)
theorem mixN_full (n : Nat) (f g : Nat → Int) : nums n (mixN f g n) = nums n g := nums_congr _ _ _ fun _ hi => if_pos hi
theorem mixN_set (n : Nat) (f g : Nat → Int) (k : Nat) : (nums n (mixN f g k)).setIfInBounds k (.int .i64 (g k)) = nums n (mixN f g (k + 1)) := nums_set _ _ _ _ _ fun j _ => by
  unfold mixN
  by_cases h : j = k
  · subst h; rw [if_pos rfl, if_pos (by omega)]
  · rw [if_neg h]
    by_cases h2 : j < k
    · rw [if_pos h2, if_pos (by omega)]
    · rw [if_neg h2, if_neg (by omega)]
theorem mixN_at (f g : Nat → Int) (k : Nat) : mixN f g k k = f k := if_neg (Nat.lt_irrefl _)
theorem max_if (x y : Int) : (if x < y then y else x) = max x y := by split <;> omega
set_option maxRecDepth 100000 in
set_option maxHeartbeats 16000000 in
theorem refJoin_typ10 (a b : List D2) (ha : a.length < 2000000) (hb : b.length < 2000000) (v u : Value) (w : World) (hv : HasDots w v a) (hu : HasDots w u b) : Calls Tryz.prog 52 #[v, u] w fun e w' => ∃ x, e = .returned x ∧ TypDots w' x (joinV a b) ∧ Below w.heap.size w w' := by
  have HV := Lib.hid hv
  have HU := Lib.hid hu
  have A1 := Lib.hid (fun w v hv => refAll_V a ha v w hv)
  have A2 := Lib.hid (fun w v hv => refAll_V b hb v w hv)
  have O1 := Lib.hid (fun w => refOf_typ (joinN a b) w)
  obtain ⟨ao, cap, rfl⟩ := dots_shape hv a.length rfl
  obtain ⟨ao2, cap2, rfl⟩ := dots_shape hu b.length rfl
  obtain ⟨n, hn⟩ : ∃ n, n = a.length := ⟨_, rfl⟩
  obtain ⟨m, hm⟩ : ∃ m, m = b.length := ⟨_, rfl⟩
  rw [← hn] at HV ⊢
  rw [← hm] at HU ⊢
  clear hv hu ha hb hn hm
  go_enter Tryz.func52, Tryz.ntmps52
  go_upto_region 2 with (first
    | (go_at_call 92; refine (A1.out w _ HV.out).mono ?_; rintro e w1 ⟨rfl, hb⟩; have B1 := Lib.hid hb; clear hb)
    | (refine alloc_as rfl 123 rfl _ zero32 ?_)
    | (refine store_new rfl 123 (.tmp 5) (.tmp 9) rfl rfl w1 _ (nums 32 (allV a)) 123 rfl rfl rfl (by rw [nums_size]; kernel_rfl) (by rw [nums_size, nums_size]) (nums_one _ _) ?_; intro w2 hg2 hb2 hs2; have HG := Lib.hid hg2; have B2 := Lib.hid (below_next B1.out hb2); have LG := Lib.hid (And.intro B1.out.size hs2); clear hg2 hb2 hs2))
  generalize w1.heap.size = G at *
  go_upto_region 3 with (first
    | (go_at_call 92; refine (A2.out w2 _ (dots_below HU.out B2.out)).mono ?_; rintro e w3 ⟨rfl, hb⟩; have HG3 := Lib.hid (row_kept HG.out hb); have B3 := Lib.hid (below_next B2.out hb); have L3 := Lib.hid (show G < w3.heap.size from Nat.lt_of_lt_of_le LG.out.2 hb.size); clear hb)
    | (refine alloc_as rfl 123 rfl _ zero32 ?_)
    | (refine store_new rfl 123 (.tmp 6) (.tmp 11) rfl rfl w3 _ (nums 32 (allV b)) 123 rfl rfl rfl (by rw [nums_size]; kernel_rfl) (by rw [nums_size, nums_size]) (nums_one _ _) ?_; intro w4 hg4 hb4 hs4; have HH := Lib.hid hg4; have GG := Lib.hid (row_kept HG3.out hb4); have B4 := Lib.hid (below_next B3.out hb4); clear hg4 hb4 hs4))
  have HGH := Lib.hid (show G ≠ w3.heap.size ∧ w.heap.size ≤ G from ⟨Nat.ne_of_lt L3.out, LG.out.1⟩)
  generalize w3.heap.size = H at *
  go_wp2
  go_loopw [7] (fun c wr => ∃ k : Nat, k ≤ 32 ∧ c = .int .i64 (k : Int) ∧ wr.heap[G]? = some (.cells (nums 32 (mixN (allV a) (joinN a b) k)) 123 (0, 0)) ∧ wr.heap[H]? = some (.cells (nums 32 (allV b)) 123 (0, 0)) ∧ Below w.heap.size w wr) (fun c _ => 32 - (intOf c).toNat)
  case atStart => exact ⟨0, by omega, rfl, by rw [mixN_zero]; exact GG.out, HH.out, B4.out⟩
  case round =>
    clear GG HH B4
    obtain ⟨k, hk, rfl, hg, hh, hb⟩ := hrel
    by_cases hlt : k < 32
    · have q0 : (k : Int) < 32 := by omega
      have c0 := nums_cell hg k hlt
      have c1 := nums_cell hh k hlt
      rw [mixN_at] at c0
      have HG := Lib.hid hg
      have HH := Lib.hid hh
      have HB := Lib.hid hb
      have HK := Lib.hid hlt
      have KK := Lib.hid (show k + 1 ≤ 32 ∧ 32 - (k + 1) < 32 - k by omega)
      have HM := Lib.hid (mixN_set 32 (allV a) (joinN a b) k)
      obtain ⟨x, hx⟩ : ∃ x, x = allV a k := ⟨_, rfl⟩
      obtain ⟨y, hy⟩ : ∃ y, y = allV b k := ⟨_, rfl⟩
      have HXY := Lib.hid (show joinN a b k = max x y by rw [joinN, hx, hy])
      rw [← hx] at c0
      rw [← hy] at c1
      rw [HXY.out] at HM
      clear hg hh hb hlt hx hy
      go_wp2
      go_still_tail 9, (by kernel_rfl)
      try rw [max_if x y]
      change wpList _ _ _ _ _ wr.drew
      have hg : wr.drew.heap[G]? = _ := HG.out
      have hh : wr.drew.heap[H]? = _ := HH.out
      have hb := below_draws HB.out 1
      change Below _ _ wr.drew at hb
      clear HG HH HB c0 c1 HXY
      generalize wr.drew = w7 at *
      generalize max x y = z at *
      go_wp2_with (first
        | (refine store_cell rfl 2 (.tmp 24) (.tmp 23) rfl rfl .i64 G k _ z 123 hg rfl rfl (by rw [nums_size]; exact HK.out) (by kernel_rfl) ?_; intro w8 hg8 hs8; rw [HM.out] at hg8; have H8 := Lib.hid (And.intro hg8 (And.intro ((hs8.block H (Ne.symm HGH.out.1)).trans hh) (solo_below hb hs8 HGH.out.2))); clear hg8 hs8 hg hh hb))
      refine ⟨⟨k + 1, KK.out.1, by simp, H8.out.1, H8.out.2.1, H8.out.2.2⟩, ?_⟩
      have := KK.out.2; simp [intOf] <;> omega
    · have q0 : ¬ (k : Int) < 32 := by omega
      obtain rfl : k = 32 := by omega
      rw [mixN_full] at hg
      have HG := Lib.hid hg
      have HB := Lib.hid hb
      clear hg hh hb hlt
      go_wp2_with (first
        | (refine wpList_load_row rfl 123 (.tmp 5) rfl G rfl 123 _ (0, 0) _ HG.out Tryz.underlying123 rfl (by rw [nums_size]; kernel_rfl) ?_)
        | (go_at_call 93; refine (O1.out _).mono ?_; rintro e w8 ⟨x, rfl, hx, hb⟩; have HX := Lib.hid hx; have B8 := Lib.hid (below_next HB.out hb); clear hx hb))
      go_ret
      exact ⟨_, rfl, HX.out, B8.out⟩
end Go.Proofs.YtcdjkjadbhejpaaGreatDoor
namespace Go.Proofs.YtcdjkjadbhejpaaGreatDoor
open Go.RowKit
/-- What lies in memory while a history is made: the result's block, what is known, the paths. -/
def HistAt (w0 w : World) (h : Hist) (out : Value) : Prop :=
  ∃ (a : Nat → Value) (us : List (Ev × Value)), us.map (·.1) = h.out ∧ OwnEvs (w0.heap.size + 3) w out us ∧
    w.heap[w0.heap.size]? = some (.cells #[.slice none 0 0, .slice none 0 0, .slice none 0 0] 39 (0, 0)) ∧
    w.heap[w0.heap.size + 1]? = some (.cells #[a 0, a 1, a 2] 39 (0, 0)) ∧ (∀ j, j < 3 → TypDots w (a j) (h.know j)) ∧
    w.heap[w0.heap.size + 2]? = some (.cells #[.string ⟨#[97]⟩, .string ⟨#[97, 47, 98]⟩, .string ⟨#[99]⟩, .string ⟨#[100]⟩] 9 (0, 0)) ∧ w0.heap.size + 3 ≤ w.heap.size ∧ Below w0.heap.size w0 w
theorem know_cell {w : World} {B : Nat} {T : TypeId} {a : Nat → Value} (h : w.heap[B]? = some (.cells #[a 0, a 1, a 2] T (0, 0))) {i : Nat} (hi : i < 3) : w.cell? ⟨B, i, none⟩ = some (a i) := by
  rw [cell_of_row _ _ i _ _ _ h]
  match i, hi with
  | 0, _ => rfl
  | 1, _ => rfl
  | 2, _ => rfl
theorem know_set (a : Nat → Value) (x : Value) {i : Nat} (hi : i < 3) : (#[a 0, a 1, a 2] : Array Value).setIfInBounds i x = #[(fun j => if j = i then x else a j) 0, (fun j => if j = i then x else a j) 1, (fun j => if j = i then x else a j) 2] := by
  match i, hi with
  | 0, _ => rfl
  | 1, _ => rfl
  | 2, _ => rfl
theorem deed_nums (r K : Nat) (hr : r < 256) : wrap64 (r : Int) = (r : Int) ∧ (r : Int).tmod (K : Int) = ((r % K : Nat) : Int) ∧ (r : Int) % (K : Int) = ((r % K : Nat) : Int) := by
  refine ⟨by rw [wrap64]; omega, ?_, rfl⟩
  rw [Int.tmod_eq_emod_of_nonneg (by omega)]; rfl
theorem deed_wrap (r : Nat) (hr : r < 256) : IntKind.i64.wrap (r : Int) = (r : Int) := by rw [IntKind.wrap_i64]; omega
theorem deed_run {P : Program} {o : Oper} {a : Act} {w : World} (ty : TypeId) (x : Operand) (ho : o.op = .load ty x) (A : Addr) (hx : a.eval x = .pointer (some A)) {d : DeedT} {fs : Array Field} (hu : P.underlying ty = some (.struct fs))
    (hi : (P.info? ty).map (·.size) = some 6) (hc : ∀ j u, (deedC d)[j]? = some u → w.cell? (A.add j) = some u) : (execOp a.eval o).run P w = .ok (.value (.agg (deedC d).toArray)) w := by
  have hl : (loadCells A (deedC d).length).run P w = .ok (deedC d).toArray w := run_loadCells_list (P := P) w A _ hc
  rw [show (deedC d).length = 6 from rfl] at hl
  cases hq : P.info? ty with
  | none => simp [hq] at hi
  | some i =>
    have hs : i.size = 6 := by simpa [hq] using hi
    unfold execOp
    simp [ho, hx, Instr.loadAt, Instr.sureAddr, loadVar, isAgg, run_underlying hu, sizeOf, typeInfo, hq, hs, hl]
theorem load_deed {P : Program} {ops : Array Oper} {rest : List Oper} {o : Oper} {a : Act} {w : World} {Q : Exit → Act → World → Prop} (hw : Region.wanted o (yielded ops a.tmps) = true) (ty : TypeId) (x : Operand) (ho : o.op = .load ty x) (A : Addr) (hx : a.eval x = .pointer (some A)) {d : DeedT} {fs : Array Field}
    (hu : P.underlying ty = some (.struct fs)) (hi : (P.info? ty).map (·.size) = some 6) (hc : ∀ j u, (deedC d)[j]? = some u → w.cell? (A.add j) = some u)
    (h : wpList P ops Q rest (a.put o.dst (.agg #[.int .u8 (d.who : Int), .int .u8 (d.other : Int), .int .u8 (d.path : Int), .bool d.learns, .bool d.gone, .int .u8 (d.size : Int)])) w) : wpList P ops Q (o :: rest) a w := by
  refine wpList_step fun K hK => ?_
  rw [if_pos hw]
  unfold Oper.wp
  rw [deed_run ty x ho A hx hu hi hc]
  exact hK _ _ h
set_option maxRecDepth 100000 in
theorem deedSize : (Tryz.prog.info? 76).map (·.size) = some 6 := by kernel_rfl
theorem deeds_at {w : World} {v : Value} {l : List DeedT} (h : HasDeeds w v l) (n k : Nat) (hn : l.length = n) (d : DeedT) (hd : l[k]? = some d) : ∃ ad cap, v = .slice (some ad) n cap ∧ ∀ j u, (deedC d)[j]? = some u → w.cell? ((ad.add (k * 6)).add j) = some u := by
  obtain ⟨ao, cap, rfl, hnil, hc⟩ := h
  cases ao with
  | none => obtain ⟨rfl, _⟩ := hnil rfl; simp at hd
  | some ad => exact ⟨ad, cap, by rw [hn], fun j u hu => by rw [addr_add2]; exact (hc ad rfl).2 k d hd j u hu⟩
theorem hist_start (w : World) : HistAt w (((w.alloc (.cells #[.slice none 0 0, .slice none 0 0, .slice none 0 0] 39 (0, 0))).alloc (.cells #[.slice none 0 0, .slice none 0 0, .slice none 0 0] 39 (0, 0))).alloc (.cells #[.string ⟨#[97]⟩, .string ⟨#[97, 47, 98]⟩, .string ⟨#[99]⟩, .string ⟨#[100]⟩] 9 (0, 0))) hist0 (.slice none 0 0) := by
  have h0 := heap_last w (.cells #[.slice none 0 0, .slice none 0 0, .slice none 0 0] 39 (0, 0))
  have hb0 := (Below.refl w.heap.size w).alloc (Nat.le_refl _) (.cells #[.slice none 0 0, .slice none 0 0, .slice none 0 0] 39 (0, 0))
  have s0 : (w.alloc (.cells #[.slice none 0 0, .slice none 0 0, .slice none 0 0] 39 (0, 0))).heap.size = w.heap.size + 1 := by simp
  generalize w.alloc (.cells #[.slice none 0 0, .slice none 0 0, .slice none 0 0] 39 (0, 0)) = W0 at *
  have h1 := heap_last W0 (.cells #[.slice none 0 0, .slice none 0 0, .slice none 0 0] 39 (0, 0))
  have hb1 := (Below.refl W0.heap.size W0).alloc (Nat.le_refl _) (.cells #[.slice none 0 0, .slice none 0 0, .slice none 0 0] 39 (0, 0))
  have s1 : (W0.alloc (.cells #[.slice none 0 0, .slice none 0 0, .slice none 0 0] 39 (0, 0))).heap.size = w.heap.size + 2 := by simp [s0]
  generalize W0.alloc (.cells #[.slice none 0 0, .slice none 0 0, .slice none 0 0] 39 (0, 0)) = W1 at *
  have h2 := heap_last W1 (.cells #[.string ⟨#[97]⟩, .string ⟨#[97, 47, 98]⟩, .string ⟨#[99]⟩, .string ⟨#[100]⟩] 9 (0, 0))
  have hb2 := (Below.refl W1.heap.size W1).alloc (Nat.le_refl _) (.cells #[.string ⟨#[97]⟩, .string ⟨#[97, 47, 98]⟩, .string ⟨#[99]⟩, .string ⟨#[100]⟩] 9 (0, 0))
  have s2 : (W1.alloc (.cells #[.string ⟨#[97]⟩, .string ⟨#[97, 47, 98]⟩, .string ⟨#[99]⟩, .string ⟨#[100]⟩] 9 (0, 0))).heap.size = w.heap.size + 3 := by simp [s1]
  rw [s0] at h1
  rw [s1] at h2
  refine ⟨fun _ => .slice none 0 0, [], rfl, ownEvs_nil _ _, row_kept (row_kept h0 hb1) hb2, row_kept h1 hb2, fun j _ => typ_nil _, h2, by omega, below_next (below_next hb0 hb1) hb2⟩
/-- A slice loaded from a cell, within a region. -/
theorem load_cell_at {P : Program} {ops : Array Oper} {o : Oper} {ts : Array Value} {ds : List Deferred} {w : World} {K : Act → World → Prop} {Q : Exit → Act → World → Prop} {E : Prop} (d : Nat) (hd : o.dst = some d) (hw : Region.wanted o (yielded ops ts) = true) (ty : TypeId) (x : Operand) (ho : o.op = .load ty x)
    (A : Addr) (hx : Act.eval { tmps := ts, defers := ds } x = .pointer (some A)) (ao : Option Addr) (n c : Nat) {e : TypeId} (hu : P.underlying ty = some (.slice e)) (hc : w.cell? A = some (.slice ao n c))
    (h : K { tmps := ts.setIfInBounds d (.slice ao n c), defers := ds } w) : if Region.wanted o (yielded ops ts) = true then Oper.wp P o { tmps := ts, defers := ds } w K Q else E := by
  rw [if_pos hw]
  have hy : (execOp (Act.eval { tmps := ts, defers := ds }) o).run P w = .ok (.value (.slice ao n c)) w := by
    unfold execOp
    simp [ho, hx, Instr.loadAt, Instr.sureAddr, loadVar, isAgg, run_underlying hu, hc]
  unfold Oper.wp
  rw [hy]
  simpa [Oper.upon, hd, Act.put] using h
/-- A slice stored in a cell of a block that is known whole, within a region. -/
theorem store_slice_at {P : Program} {ops : Array Oper} {o : Oper} {a : Act} {w : World} {K : Act → World → Prop} {Q : Exit → Act → World → Prop} {E : Prop} (hd : o.dst = none) (hw : Region.wanted o (yielded ops a.tmps) = true) (ty : TypeId) (x y : Operand) (ho : o.op = .store ty x y)
    (g off : Nat) (cur : Array Value) (ao : Option Addr) (n c : Nat) (t : TypeId) (hg : w.heap[g]? = some (.cells cur t (0, 0))) (hx : a.eval x = .pointer (some ⟨g, off, none⟩)) (hy : a.eval y = .slice ao n c) (hfit : off < cur.size)
    (hi : (P.info? ty).map (·.size) = some 1) (h : ∀ w', w'.heap[g]? = some (.cells (cur.setIfInBounds off (.slice ao n c)) t (0, 0)) → Solo g w w' → K a w') : if Region.wanted o (yielded ops a.tmps) = true then Oper.wp P o a w K Q else E := by
  rw [if_pos hw]
  have hcell : w.cell? ⟨g, off, none⟩ = some cur[off] := by simp [World.cell?, hg, hfit]
  have hfro : w.frozen? ⟨g, off, none⟩ = false := by simp [World.frozen?, hg]
  have hadd : (⟨g, off, none⟩ : Addr).add 0 = ⟨g, off, none⟩ := by unfold Addr.add; split <;> simp_all
  have hst : (storeVar ty ⟨g, off, none⟩ (.slice ao n c)).run P w = .ok () (w.setRow g (cur.setIfInBounds off (.slice ao n c))) := by
    cases hq : P.info? ty with
    | none => simp [hq] at hi
    | some i =>
      have hs : i.size = 1 := by simpa [hq] using hi
      simp [storeVar, sizeOf, typeInfo, hq, Value.cells, hs, storeCells, hadd, run_store P w _ _ _ (show (Value.slice ao n c).oneCell' = true from rfl), hcell, hfro, setCell_eq_setRow w g off cur t (0, 0) _ hg]
  unfold Oper.wp execOp
  simp only [ho, hx, hy, Instr.storeAt, Instr.sureAddr, Sem.run_bind, Sem.run_pure, Result.andThen_ok, hst]
  have h' := h _ (setRow_heap w g cur _ t _ hg) (solo_setRow w g _)
  simpa [Oper.upon, hd, Act.put] using h'
theorem own_solo {w w' : World} {base g : Nat} {e : TypeId} {size : Nat} {v : Value} {n : Nat} {xs : List Value} (h : w.ownsRow base e size v n xs) (hs : Solo g w w') (hg : g < base) : w'.ownsRow base e size v n xs := by
  refine ⟨h.1, ?_⟩
  rcases h.2 with h0 | ⟨b, cap, cur, rfl, h1, h2, rest⟩
  · exact .inl h0
  · exact .inr ⟨b, cap, cur, rfl, h1, (hs.block b (by omega)).trans h2, rest⟩
set_option maxRecDepth 100000 in
theorem vecSize12 : (Tryz.prog.info? 26).map (·.size) = some 1 := by kernel_rfl
theorem hist_learn {w0 wz w9 : World} {h : Hist} {d : DeedT} {out : Value} {a : Nat → Value} {us : List (Ev × Value)} {i oo : Nat} {ao : Option Addr} {n c : Nat} (hL : d.learns = true) (hi : i = d.who % 3) (hoo : oo = d.other % 3) (hi3 : i < 3) (hus : us.map (·.1) = h.out)
    (r1 : wz.heap[w0.heap.size]? = some (.cells #[.slice none 0 0, .slice none 0 0, .slice none 0 0] 39 (0, 0))) (r2 : wz.heap[w0.heap.size + 1]? = some (.cells #[a 0, a 1, a 2] 39 (0, 0)))
    (r3 : wz.heap[w0.heap.size + 2]? = some (.cells #[.string ⟨#[97]⟩, .string ⟨#[97, 47, 98]⟩, .string ⟨#[99]⟩, .string ⟨#[100]⟩] 9 (0, 0))) (r4 : w0.heap.size + 3 ≤ wz.heap.size)
    (hy : ∀ j, j < 3 → TypDots wz (a j) (h.know j)) (ho : OwnEvs (w0.heap.size + 3) wz out us) (hu : TypDots wz (.slice ao n c) (joinV (h.know i) (h.know oo)))
    (hg : w9.heap[w0.heap.size + 1]? = some (.cells ((#[a 0, a 1, a 2] : Array Value).setIfInBounds i (.slice ao n c)) 39 (0, 0))) (hs : Solo (w0.heap.size + 1) wz w9) (hb : Below w0.heap.size w0 w9) : HistAt w0 w9 (stepH h d) out := by
  rw [know_set a _ hi3] at hg
  have hstep : stepH h d = ⟨putK h.know i (joinV (h.know i) (h.know oo)), h.out⟩ := by rw [stepH, if_pos hL, hi, hoo]
  rw [hstep]
  refine ⟨fun j => if j = i then .slice ao n c else a j, us, hus, ⟨own_solo ho.1 hs (by omega), fun x hx => typ_solo (ho.2 x hx) hs r2 (by decide)⟩, (hs.block _ (by omega)).trans r1, hg, fun j hj => ?_, (hs.block _ (by omega)).trans r3, by rw [hs.size]; exact r4, hb⟩
  by_cases hji : j = i
  · simp only [if_pos hji, putK]; exact typ_solo hu hs r2 (by decide)
  · simp only [if_neg hji, putK]; exact typ_solo (hy j hj) hs r2 (by decide)
theorem ready_allocH {P : Program} {md : Region.Mode} {ops : Array Oper} {Q : Exit → Act → World → Prop} {S : World → Prop} {fuel : Nat} {listed : Array Bool} {ts : Array Value} {ds : List Deferred} {w : World} (i d : Nat) (hr : Region.ready md ops listed = [i]) {o : Oper} (hoi : ops[i]? = some o) (hd : o.dst = some d) (hw : Region.wanted o (yielded ops ts) = true) (t : TypeId) (ho : o.op = .alloc t) (cs : Array Value)
    (hz : (P.info? t).map (fun i => i.zero) = some (some (.agg cs))) (hS : S (w.alloc (.cells cs t (0, 0))))
    (h : wpAnyH P md ops Q S fuel (listed.setIfInBounds i true) { tmps := ts.setIfInBounds d (.pointer (some ⟨w.heap.size, 0, none⟩)), defers := ds } (w.alloc (.cells cs t (0, 0)))) : wpAnyH P md ops Q S (fuel + 1) listed { tmps := ts, defers := ds } w :=
  wpAnyH_ready hr (by simp) (AllReadyH.cons hoi (fun K hK => alloc_at d hd hw t ho cs hz (hK.out _ _ hS (fun _ => h))) AllReadyH.nil)
set_option maxRecDepth 100000 in
theorem ev_zeroH : (Tryz.prog.info? 30).map (fun i => i.zero) = some (some (.agg (evC noEv (.slice none 0 0)))) := by kernel_rfl
theorem row_sizeF {n : Nat} (hn : n < 256) : row .u8 32 (sizeF n) = #[.int .u8 (n : Int), .int .u8 0, .int .u8 0, .int .u8 0, .int .u8 0, .int .u8 0, .int .u8 0, .int .u8 0, .int .u8 0, .int .u8 0, .int .u8 0, .int .u8 0, .int .u8 0, .int .u8 0, .int .u8 0, .int .u8 0, .int .u8 0, .int .u8 0, .int .u8 0, .int .u8 0, .int .u8 0, .int .u8 0, .int .u8 0, .int .u8 0, .int .u8 0, .int .u8 0, .int .u8 0, .int .u8 0, .int .u8 0, .int .u8 0, .int .u8 0, .int .u8 0] := by
  have h : u32 (sizeF n 0) = (n : Int) := by
    show u32 (BitVec.ofNat 32 n) = _
    unfold u32; rw [BitVec.toNat_ofNat]; omega
  rw [← h]; rfl
set_option maxRecDepth 100000 in
theorem dig_built {n : Nat} (hn : n < 256) : Tryz.prog.built 28 [(0, .int .u8 (n : Int))] = some (row .u8 32 (sizeF n)) := by
  rw [row_sizeF hn]; kernel_rfl
theorem path_cellH {w : World} {B : Nat} {T : TypeId} (h : w.heap[B]? = some (.cells #[.string ⟨#[97]⟩, .string ⟨#[97, 47, 98]⟩, .string ⟨#[99]⟩, .string ⟨#[100]⟩] T (0, 0))) {k : Nat} (hk : k < 4) : w.cell? ⟨B, k, none⟩ = some (.string (str (pathsH.getD k []))) := by
  rw [cell_of_row _ _ k _ _ _ h]
  match k, hk with
  | 0, _ => rfl
  | 1, _ => rfl
  | 2, _ => rfl
  | 3, _ => rfl
theorem slice_yields12H {P : Program} {ops : Array Oper} {S : World → Prop} {o : Oper} {a : Act} (hw : Region.wanted o (yielded ops a.tmps) = true) (ty : TypeId) (x : Operand) (ho : o.op = .load ty x)
    (A : Addr) (hx : a.eval x = .pointer (some A)) (ao : Option Addr) (n c : Nat) {e : TypeId} (hu : P.underlying ty = some (.slice e)) (hS : ∀ w, S w → w.cell? A = some (.slice ao n c)) : YieldsIf P ops S o (.slice ao n c) a :=
  .inl ⟨hw, fun w h => by
    have hc := hS w h
    unfold execOp
    simp [ho, hx, Instr.loadAt, Instr.sureAddr, loadVar, isAgg, run_underlying hu, hc]⟩
theorem take_step {l : List DeedT} {k : Nat} {d : DeedT} (hd : l[k]? = some d) (h : Hist) : (l.take (k + 1)).foldl stepH h = stepH ((l.take k).foldl stepH h) d := by
  rw [List.take_add_one, hd, List.foldl_append]; rfl
theorem inv_take (l : List DeedT) (hs : ∀ d ∈ l, d.size < 256) (k : Nat) (hk : k ≤ 40) : ∃ n, InvH ((l.take k).foldl stepH hist0) n := by
  have hl : (l.take k).length ≤ 40 := by rw [List.length_take]; omega
  exact ⟨_, inv_fold (l.take k) hist0 0 inv0 (by omega) (fun d hd => hs d (List.mem_of_mem_take hd))⟩
theorem know_len {h : Hist} {n : Nat} (H : InvH h n) {i : Nat} (hi : i < 3) : (h.know i).length < 2000000 := by
  have := rising_length (H.vec i hi); omega
theorem results_tmp_cell {fn : Func} {p u : Tmp} {ty : TypeId} (h : fn.results = #[.tmp u, .cell p ty]) (tmps : Array Value) (P : Program) (w : World) :
    (results fn tmps).run P w =
      ((asAddr (tmps.getD p undef)).run P w).andThen fun a w₁ => ((loadVar ty a).run P w₁).andThen fun v w₂ => .ok (.tuple #[tmps.getD u undef, v]) w₂ := by
  simp only [results, h]
  simp [Sem.run_bind, Result.andThen]
theorem results_2cell {P : Program} {fn : Func} {p u : Tmp} {ty : TypeId} (h : fn.results = #[.tmp u, .cell p ty]) (tmps : Array Value) (w : World) (g : Nat) (t : TypeId) (cs : Array Value) (fr : Nat × Nat) (d : TypeDesc) (x : Value)
    (hp : tmps.getD p undef = .pointer (some ⟨g, 0, none⟩)) (hx : tmps.getD u undef = x) (hg : w.heap[g]? = some (.cells cs t fr))
    (hu : P.underlying ty = some d) (hd : (match d with | .struct _ | .array _ _ => true | _ => false) = true) (hi : (P.info? ty).map (·.size) = some cs.size) :
    (results fn tmps).run P w = .ok (.tuple #[x, .agg cs]) w := by
  rw [results_tmp_cell h, hp, hx]
  simp [asAddr, run_loadVar_row w g t ty cs fr d hg hu hd hi]
theorem dots_grownH {w w' : World} {v : Value} {l : List D2} {row : Option Nat} (h : HasDots w v l) (hg : w.grownBy w' row) (hne : l = [] ∨ v.ownBlock ≠ row) : HasDots w' v l := by
  obtain ⟨ao, cap, rfl, hnil, hc⟩ := h
  refine ⟨ao, cap, rfl, hnil, fun ad had => ⟨(hc ad had).1, fun j u hu => ?_⟩⟩
  rcases hne with rfl | hne
  · simp [dotsC] at hu
  · have h1 := (hc ad had).2 j u hu
    refine hg.cell h1 fun e => hne ?_
    rw [had]
    show some ad.block = row
    rw [← e]; unfold Addr.add; split <;> rfl
theorem typ_grown {w w' : World} {v : Value} {l : List D2} {row : Option Nat} (h : TypDots w v l) (hg : w.grownBy w' row) (hrow : ∀ k, row = some k → ∃ cs T fr, T ≠ 24 ∧ w.heap[k]? = some (.cells cs T fr)) : TypDots w' v l := by
  have hne : l = [] ∨ v.ownBlock ≠ row := h.2.elim .inl fun ⟨k, cs', fr', h1, h2⟩ => .inr fun e => by
    obtain ⟨cs, T, fr, h3, h4⟩ := hrow k (by rw [← e, h1])
    rw [h2] at h4; cases h4; exact h3 rfl
  refine ⟨dots_grownH h.1 hg hne, h.2.elim .inl fun ⟨k, cs', fr', h1, h2⟩ => ?_⟩
  rcases hne with rfl | hne
  · exact .inl rfl
  · exact .inr ⟨k, cs', fr', h1, (hg.block k (Array.getElem?_eq_some_iff.1 h2).1 (fun e => hne (by rw [h1, e]))).trans h2⟩
theorem own_blockH {w : World} {base : Nat} {e : TypeId} {size : Nat} {v : Value} {n : Nat} {xs : List Value} (h : w.ownsRow base e size v n xs) : ∀ b, v.ownBlock = some b → base ≤ b ∧ b < w.heap.size ∧ ∃ cs, w.heap[b]? = some (.cells cs e (0, 0)) := by
  intro b hb
  rcases h.2 with ⟨rfl, -⟩ | ⟨g, cap, cur, rfl, h1, h2, -⟩
  · cases hb
  · cases hb; exact ⟨h1, (Array.getElem?_eq_some_iff.1 h2).1, cur, h2⟩
theorem own_solo2 {w w' : World} {base g : Nat} {e : TypeId} {size : Nat} {v : Value} {n : Nat} {xs : List Value} (h : w.ownsRow base e size v n xs) (hs : Solo g w w') (hg : ∀ b, v.ownBlock = some b → b ≠ g) : w'.ownsRow base e size v n xs := by
  refine ⟨h.1, ?_⟩
  rcases h.2 with h0 | ⟨b, cap, cur, rfl, h1, h2, rest⟩
  · exact .inl h0
  · exact .inr ⟨b, cap, cur, rfl, h1, (hs.block b (hg b rfl)).trans h2, rest⟩
/-- What lies in memory while an event is being made in block g. -/
structure HistMid (w0 w : World) (a : Nat → Value) (h : Hist) (out : Value) (us : List (Ev × Value)) (g : Nat) : Prop where
  r1 : w.heap[w0.heap.size]? = some (.cells #[.slice none 0 0, .slice none 0 0, .slice none 0 0] 39 (0, 0))
  r2 : w.heap[w0.heap.size + 1]? = some (.cells #[a 0, a 1, a 2] 39 (0, 0))
  r3 : w.heap[w0.heap.size + 2]? = some (.cells #[.string ⟨#[97]⟩, .string ⟨#[97, 47, 98]⟩, .string ⟨#[99]⟩, .string ⟨#[100]⟩] 9 (0, 0))
  typ : ∀ j, j < 3 → TypDots w (a j) (h.know j)
  own : OwnEvs (w0.heap.size + 3) w out us
  low : w0.heap.size + 3 ≤ g
  apart : ∀ b, out.ownBlock = some b → b < g
  top : g < w.heap.size
  bel : Below w0.heap.size w0 w
theorem histMid_below {w0 w w' : World} {a : Nat → Value} {h : Hist} {out : Value} {us : List (Ev × Value)} {g : Nat} (H : HistMid w0 w a h out us g) (hb : Below w.heap.size w w') : HistMid w0 w' a h out us g :=
  ⟨row_kept H.r1 hb, row_kept H.r2 hb, row_kept H.r3 hb, fun j hj => typ_below (H.typ j hj) hb, ⟨own_below H.own.1 hb, fun x hx => typ_below (H.own.2 x hx) hb⟩, H.low, H.apart, Nat.lt_of_lt_of_le H.top hb.size, below_next H.bel hb⟩
theorem histMid_solo {w0 w w' : World} {a : Nat → Value} {h : Hist} {out : Value} {us : List (Ev × Value)} {g : Nat} {e : Ev} {v : Value} (H : HistMid w0 w a h out us g) (he : EvAt w g 30 e v) (hs : Solo g w w') : HistMid w0 w' a h out us g := by
  have hl := H.low
  exact ⟨(hs.block _ (by omega)).trans H.r1, (hs.block _ (by omega)).trans H.r2, (hs.block _ (by omega)).trans H.r3, fun j hj => typ_solo (H.typ j hj) hs he (by decide),
    ⟨own_solo2 H.own.1 hs (fun b hb => by have := H.apart b hb; omega), fun x hx => typ_solo (H.own.2 x hx) hs he (by decide)⟩, H.low, H.apart, by rw [hs.size]; exact H.top, solo_below H.bel hs (by omega)⟩
theorem hist_event {w0 wz w9 wA w10 : World} {h : Hist} {d : DeedT} {out out' : Value} {a : Nat → Value} {us : List (Ev × Value)} {i g : Nat} {ao : Option Addr} {n c : Nat} {vd : Value} (hL : d.learns = false) (hi : i = d.who % 3) (hi3 : i < 3) (hus : us.map (·.1) = h.out)
    (H : HistMid w0 wz a h out us g) (hvd : vd = a i) (hu : TypDots wz (.slice ao n c) (withV (h.know i) (evH h d).r (evH h d).q))
    (hg : w9.heap[w0.heap.size + 1]? = some (.cells ((#[a 0, a 1, a 2] : Array Value).setIfInBounds i (.slice ao n c)) 39 (0, 0))) (hs : Solo (w0.heap.size + 1) wz w9) (hA : Below w9.heap.size w9 wA)
    (hown : w10.ownsRow (w0.heap.size + 3) 30 38 out' (us ++ [(evH h d, vd)]).length (evsC (us ++ [(evH h d, vd)]))) (hgr : wA.grownBy w10 out.ownBlock) : HistAt w0 w10 (stepH h d) out' := by
  have hl := H.low
  have htop := H.top
  rw [know_set a _ hi3] at hg
  have hstep : stepH h d = ⟨putK h.know i (withV (h.know i) (evH h d).r (evH h d).q), h.out ++ [evH h d]⟩ := by rw [stepH, hL, if_neg (by simp), hi]
  have hob := own_blockH H.own.1
  have h9 : w9.heap.size = wz.heap.size := hs.size
  have szA := hA.size
  have hold : ∀ b, out.ownBlock = some b → ∃ cs T fr, T ≠ 24 ∧ wA.heap[b]? = some (.cells cs T fr) := fun b hb => by
    obtain ⟨h1, h2, cs, h3⟩ := hob b hb
    exact ⟨cs, 30, (0, 0), by decide, row_kept ((hs.block b (by omega)).trans h3) hA⟩
  have low : ∀ {B : Nat} {o : Obj}, B < w0.heap.size + 3 → w9.heap[B]? = some o → w10.heap[B]? = some o := fun {B o} hB ho => by
    have hlt : B < w9.heap.size := (Array.getElem?_eq_some_iff.1 ho).1
    exact (hgr.block B (by omega) (fun e => by have := (hob B e.symm).1; omega)).trans ((hA.block B hlt).trans ho)
  have ty : ∀ {v : Value} {l : List D2}, TypDots wz v l → TypDots w10 v l := fun {v l} ht => typ_grown (typ_below (typ_solo ht hs H.r2 (by decide)) hA) hgr hold
  rw [hstep]
  refine ⟨fun j => if j = i then .slice ao n c else a j, us ++ [(evH h d, vd)], by rw [List.map_append, hus]; rfl, ⟨hown, fun x hx => ?_⟩, low (by omega) ((hs.block _ (by omega)).trans H.r1), low (by omega) hg, fun j hj => ?_, low (by omega) ((hs.block _ (by omega)).trans H.r3), ?_, ?_⟩
  · rcases List.mem_append.1 hx with hx | hx
    · exact ty (H.own.2 x hx)
    · rw [List.mem_singleton.1 hx, hvd]
      have := H.typ i hi3
      exact ty (show TypDots wz (a i) (evH h d).deps by unfold evH; rw [← hi]; exact this)
  · by_cases hji : j = i
    · simp only [if_pos hji, putK]; exact ty hu
    · simp only [if_neg hji, putK]; exact ty (H.typ j hj)
  · have := hgr.size; omega
  · refine below_grown (below_next (solo_below H.bel hs (by omega)) hA) hgr (by have := H.bel.size; omega) (fun b hb => ?_)
    have := (hob b hb).1; omega
set_option maxRecDepth 100000 in
theorem ev_slice1 (e : Ev) (ao : Option Addr) (n c : Nat) : Tryz.prog.builtSlice 30 1 [(0, .agg (evC e (.slice ao n c)))] = some (evC e (.slice ao n c)) := by kernel_rfl
/-- A slice of one event, made. -/
theorem build_ev1 {ops : Array Oper} {rest : List Oper} {o : Oper} {a : Act} {w : World} {Q : Exit → Act → World → Prop} (hg : o.guard = none) (d : Nat) (hd : o.dst = some d) (x : Operand) (ho : o.op = .buildSlice 22 1 #[(0, x)])
    (N : Nat) (hN : w.heap.size = N) (e : Ev) (ao : Option Addr) (n c : Nat) (hx : a.eval x = .agg (evC e (.slice ao n c)))
    (h : ∀ w', EvAt w' N 30 e (.slice ao n c) → Below w.heap.size w w' → N < w'.heap.size → wpList Tryz.prog ops Q rest (a.put (some d) (.slice (some ⟨N, 0, none⟩) 1 1)) w') : wpList Tryz.prog ops Q (o :: rest) a w := by
  refine Go.Great.wpList_buildSliceTo hg 22 30 1 #[(0, x)] ho N hN (some d) hd Tryz.underlying22 (evC e (.slice ao n c)) ?_ (h _ ?_ ((Below.refl _ _).alloc (Nat.le_refl _) _) ?_)
  · have hp : ((#[(0, x)] : Array (Nat × Operand)).map fun (i, x) => (i, a.eval x)).toList = [(0, .agg (evC e (.slice ao n c)))] := by simp [hx]
    rw [hp]; exact ev_slice1 e ao n c
  · rw [← hN]; exact heap_last _ _
  · rw [size_of_alloc, hN]; omega
theorem hist_len (l : List DeedT) : ∀ k, ((l.take k).foldl stepH hist0).out.length ≤ k
  | 0 => by simp [hist0]
  | k + 1 => by
    have ih := hist_len l k
    cases hd : l[k]? with
    | none => rw [List.take_add_one, hd]; simpa using Nat.le_succ_of_le ih
    | some d =>
      rw [take_step hd]
      generalize (l.take k).foldl stepH hist0 = h at *
      unfold stepH
      split
      · exact Nat.le_succ_of_le ih
      · simp only [List.length_append, List.length_cons, List.length_nil]; omega
set_option maxRecDepth 100000 in
theorem intSizeH : (Tryz.prog.info? 3).map (·.size) = some 1 := by kernel_rfl
set_option maxRecDepth 100000 in
theorem ev_kindH (e : Ev) (v : Value) (k : Int) : (evC e v).setIfInBounds 3 (.int .i64 k) = evC ⟨e.r, e.q, e.deps, k, e.path, e.sum, e.size⟩ v := by kernel_rfl
set_option maxRecDepth 100000 in
theorem ev_sizeH (e : Ev) (v : Value) (k : Int) : (evC e v).setIfInBounds 37 (.int .i64 k) = evC ⟨e.r, e.q, e.deps, e.kind, e.path, e.sum, k⟩ v := by kernel_rfl
set_option maxRecDepth 100000 in
theorem ev_sumH (e : Ev) (v : Value) (f : Nat → BitVec 32) : (splice (evC e v).toList 5 (row .u8 32 f).toList).toArray = evC ⟨e.r, e.q, e.deps, e.kind, e.path, f, e.size⟩ v := by kernel_rfl
theorem row_onesH (f : Nat → BitVec 32) : ∀ u ∈ (row .u8 32 f).toList, u.oneCell' = true := fun u hu => (Array.all_eq_true_iff_forall_mem.1 (row_one .u8 32 f)) u (by simpa using hu)
set_option maxRecDepth 100000 in
theorem dig_built0 : Tryz.prog.built 28 [] = some (row .u8 32 zeroF) := by kernel_rfl
theorem load_cell_on {P : Program} {ops : Array Oper} {rest : List Oper} {o : Oper} {a : Act} {w : World} {Q : Exit → Act → World → Prop} (hw : Region.wanted o (yielded ops a.tmps) = true) (ty : TypeId) (x : Operand) (ho : o.op = .load ty x)
    (A : Addr) (hx : a.eval x = .pointer (some A)) (b : Bool) (hu : P.underlying ty = some .bool) (hc : w.cell? A = some (.bool b)) (h : wpList P ops Q rest (a.put o.dst (.bool b)) w) : wpList P ops Q (o :: rest) a w := by
  have hy : (execOp a.eval o).run P w = .ok (.value (.bool b)) w := by
    unfold execOp
    simp [ho, hx, Instr.loadAt, Instr.sureAddr, loadVar, isAgg, run_underlying hu, hc]
  refine wpList_step fun K hK => ?_
  rw [if_pos hw]
  unfold Oper.wp
  rw [hy]
  exact hK _ _ h
end Go.Proofs.YtcdjkjadbhejpaaGreatDoor
namespace Go.Proofs.YtcdjkjadbhejpaaGreatDoor
open Go.RowKit
/-- One is taken out of what is left. -/
theorem perm_take {α : Type} {l : List α} {i : Nat} {x : α} (h : l[i]? = some x) : l.Perm (x :: (l.take i ++ l.drop (i + 1))) := by
  obtain ⟨hi, rfl⟩ := List.getElem?_eq_some_iff.1 h
  have e : l = l.take i ++ l[i] :: l.drop (i + 1) := by rw [List.getElem_cons_drop, List.take_append_drop]
  exact (List.Perm.of_eq e).trans List.perm_middle
theorem shuf_step {α : Type} {us os ls : List α} {i : Nat} {x : α} (h : us.Perm (os ++ ls)) (hx : ls[i]? = some x) : us.Perm ((os ++ [x]) ++ (ls.take i ++ ls.drop (i + 1))) := by
  refine h.trans ?_
  rw [List.append_assoc]
  exact List.Perm.append_left os (perm_take hx)
theorem byte_at {w : World} {v : Value} {bs : List (BitVec 32)} (h : HasBytes w v bs) (hb : ∀ x ∈ bs, u32 x < 256) (n i : Nat) (hn : bs.length = n) (hi : i < n) : ∃ (ad : Addr) (cap c : Nat), v = .slice (some ad) n cap ∧ w.cell? (ad.add i) = some (.int .u8 (c : Int)) ∧ c < 256 := by
  obtain ⟨ao, cap, rfl, hnil, hc⟩ := h
  have hil : i < bs.length := by omega
  cases ao with
  | none => have := (hnil rfl).1; rw [this] at hil; simp at hil
  | some ad =>
    have h1 := hb _ (List.getElem_mem hil)
    refine ⟨ad, cap, (bs[i]).toNat, by rw [hn], ?_, by unfold u32 at h1; omega⟩
    have h2 := (hc ad rfl).2 i _ (bytesL_get bs i hil)
    rw [h2]
    unfold u32
    simp [List.getD, List.getElem?_eq_getElem hil]
theorem apart_own {w : World} {B : Nat} {e : TypeId} {v u : Value} {n : Nat} {xs : List Value} (h : w.ownsRow B e 38 v n xs) (hu : ∀ b, u.ownBlock = some b → b < B) : v.ownBlock = none ∨ v.ownBlock ≠ u.ownBlock := by
  cases hv : v.ownBlock with
  | none => exact .inl rfl
  | some b => exact .inr fun e => by have := hu b e.symm; have := (h.lt b hv).1; omega
set_option maxRecDepth 100000 in
set_option maxHeartbeats 16000000 in
theorem shuffled_any13 (us : List (Ev × Value)) (hl : us.length ≤ 40000) (bs : List (BitVec 32)) (hbs : ∀ x ∈ bs, u32 x < 256) (v u : Value) (w : World) (hv : HoldsU w v us) (hd : DepsU w us) (hu : HasBytes w u bs) : Calls Tryz.prog 21 #[v, u] w fun x w' => ∃ y vs, x = .returned y ∧ HoldsU w' y vs ∧ us.Perm vs ∧ Below w.heap.size w w' := by
  obtain ⟨n, hn⟩ : ∃ n, n = us.length := ⟨_, rfl⟩
  have HN := Lib.hid hn
  have hn5 : n ≤ 40000 := by omega
  obtain ⟨qn, hqn⟩ : ∃ q, q = bs.length := ⟨_, rfl⟩
  have HQN := Lib.hid hqn
  obtain ⟨ao, cap, hvs⟩ := holdsU_shape hv n hn
  obtain ⟨qo, qc, hus⟩ : ∃ ao cap, u = .slice ao qn cap := by obtain ⟨ao, cap, rfl, -⟩ := hu; exact ⟨ao, cap, by rw [hqn]⟩
  subst hvs
  subst hus
  have HV := Lib.hid hv
  have HD := Lib.hid hd
  have HU := Lib.hid hu
  have HBS := Lib.hid hbs
  have HON0 := Lib.hid (show ∀ y ∈ us, y.2.oneCell' = true from fun y hy => dots_oneH (hd y hy))
  obtain ⟨ie, hie, hiz⟩ := infoEv
  have HIZ := Lib.hid hiz
  have BN0 := Lib.hid ((Below.refl w.heap.size w).alloc (Nat.le_refl _) (.cells #[] 30 (0, 0)))
  clear hl hv hd hu hbs hn hqn hiz
  go_enter Tryz.func21, Tryz.ntmps21
  go_upto_region 1 with fail
  go_upto_region 2 with (first
    | (at_builtin; refine append_us rfl (.tmp 10) (.tmp 11) 22 rfl w.heap.size 30 ie Tryz.underlying22 hie HIZ.out _ [] us rfl (own_empty (heap_last _ _) (Nat.le_refl _)) HON0.out _ rfl (holdsU_below HV.out BN0.out) (by have := HN.out; simp; omega) (by simp) ?_; rintro v2 W6 ho hg; have O6 := Lib.hid ho; have B6 := Lib.hid (below_grown BN0.out hg (by simp) (fun b hb => by cases hb; exact Nat.le_refl _)); clear ho hg))
  go_wp2
  go_loopw [5, 6, 7, 8, 9] (fun lv ov c _ _ wr => ∃ (i : Nat) (ls os : List (Ev × Value)) (B : Nat), i + ls.length = n ∧ c = .int .i64 (i : Int) ∧ wr.ownsRow B 30 38 lv ls.length (evsC ls) ∧ wr.ownsRow w.heap.size 30 38 ov os.length (evsC os) ∧ (∀ b, ov.ownBlock = some b → b < B) ∧ us.Perm (os ++ ls) ∧ B ≤ wr.heap.size ∧ Below w.heap.size w wr) (fun _ _ c _ _ _ => n - (intOf c).toNat)
  case atStart => exact ⟨0, us, [], w.heap.size, by have := HN.out; omega, rfl, O6.out, World.ownsRow_nil _ _ _ _, (fun b hb => by cases hb), List.Perm.refl _, B6.out.size, B6.out⟩
  case round =>
    obtain ⟨i, ls, os, B, hsum, rfl, hlo, hoo, hap, hpm, hB, hb⟩ := hrel
    obtain ⟨k, hk⟩ : ∃ m, m = ls.length := ⟨_, rfl⟩
    obtain ⟨lo, lc, rfl⟩ := holdsU_shape (own_holds hlo) k hk
    obtain ⟨on, hon⟩ : ∃ m, m = os.length := ⟨_, rfl⟩
    obtain ⟨oo, oc, rfl⟩ := holdsU_shape (own_holds hoo) on hon
    have HLN := Lib.hid hk.symm
    have hsum2 : i + k = n := by omega
    have HSUM := Lib.hid hsum2
    have HLO := Lib.hid hlo
    have HOO := Lib.hid hoo
    have HAP := Lib.hid hap
    have HPM := Lib.hid hpm
    have HMM := Lib.hid (show ∀ y ∈ ls, y ∈ us from fun y hy => hpm.symm.subset (by simp [hy]))
    have HB := Lib.hid hb
    clear hlo hoo hap hpm hb hk hsum hB hon
    by_cases hk0 : 0 < k
    · have q0 : (k : Int) > 0 := by omega
      have q0b : (0 : Int) < (k : Int) := by omega
      have q0c : ((k : Int) == 0) = false := by simp; omega
      have q0d : ¬ (k : Int) = 0 := by omega
      have q0e : ¬ k = 0 := by omega
      by_cases hiq : i < qn
      · have q1 : (i : Int) < (qn : Int) := by omega
        obtain ⟨qa, qc', c, e1, hcc, hc⟩ := byte_at (has_below HU.out HB.out) HBS.out qn i HQN.out.symm hiq
        cases e1
        obtain ⟨a, ha⟩ : ∃ a, a = c % k := ⟨_, rfl⟩
        have hak : a < k := by rw [ha]; exact Nat.mod_lt _ hk0
        obtain ⟨wa, ta, ea⟩ := deed_nums c k hc
        rw [← ha] at ta ea
        have wb := deed_wrap c hc
        have qa1 : (a : Int) < (k : Int) := by omega
        clear ea ha hc
        obtain ⟨x, hx⟩ : ∃ x, ls[a]? = some x := ⟨_, List.getElem?_eq_getElem (by have := HLN.out; omega)⟩
        obtain ⟨la, lc', e1, hcx⟩ := holdsU_at (own_holds HLO.out) k a HLN.out x hx
        cases e1
        have hmx := HMM.out x (List.mem_of_getElem? hx)
        have hux := HD.out x hmx
        obtain ⟨f, fv⟩ := x
        dsimp only at hcx hux
        obtain ⟨fo, fc, rfl⟩ := dots_shape hux f.deps.length rfl
        obtain ⟨fn, hfn⟩ : ∃ m, m = f.deps.length := ⟨_, rfl⟩
        rw [← hfn] at hcx hx
        clear hfn hux hmx
        have CF := Lib.hid hcx
        have HPM2 := Lib.hid (shuf_step HPM.out hx)
        have HON := Lib.hid (show ∀ y ∈ ls, y.2.oneCell' = true from fun y hy => dots_oneH (HD.out y (HMM.out y hy)))
        clear hcx hx
        have HL5 := Lib.hid (show ls.length ≤ 40000 by have := HSUM.out; have := HLN.out; omega)
        have HO5 := Lib.hid (show os.length ≤ 40000 by have h1 := HPM.out.length_eq; rw [List.length_append] at h1; have := HN.out; omega)
        go_upto_region 9 with fail
        go_upto_region 10 with (first
          | (refine load_evA_on (by rfl) 30 (.tmp 33) rfl (la.add (a * 38)) rfl Tryz.underlying30 evSize CF.out ?_)
          | (refine build_evM rfl 35 rfl (.tmp 34) rfl wr.heap.size rfl f fo fn fc rfl ?_; rintro Wb hEA hBA hNA; have EA := Lib.hid hEA; have BB := Lib.hid (below_next HB.out hBA); have LB := Lib.hid (own_belowM HLO.out hBA); have OB := Lib.hid (own_belowM HOO.out hBA); clear hEA hBA hNA)
          | (at_builtin; refine append_evs rfl (.tmp 30) (.tmp 35) 22 rfl w.heap.size 30 ie Tryz.underlying22 hie HIZ.out _ _ [(f, .slice fo fn fc)] rfl OB.out (fun q hq => by rw [List.mem_singleton.1 hq]; rfl) ⟨wr.heap.size, 0, none⟩ 1 1 rfl rfl (evAt_one EA.out) (by have := HO5.out; simp <;> omega) BB.out.size ?_; rintro v3 Wc ho hg; have BC := Lib.hid (below_grown BB.out hg BB.out.size (fun b hb => (OB.out.lt b hb).1)); have LC := Lib.hid (LB.out.kept hg (apart_own LB.out HAP.out)); have OC := Lib.hid ho; clear ho hg))
        generalize Value.agg (evC f (Value.slice fo fn fc)) = evv
        have LH := Lib.hid (own_holds LC.out)
        have BN := Lib.hid ((Below.refl Wc.heap.size Wc).alloc (Nat.le_refl _) (.cells #[] 30 (0, 0)))
        go_upto_region 11 with (first
          | (refine wpList_slice_lo rfl (.tmp 38) (.tmp 39) 22 rfl Tryz.underlying22 (fun w => by kernel_rfl) _ ls rfl a rfl (holdsU_below LH.out BN.out) (by have := HLN.out; omega) ?_; intro v1 hv1; have V1 := Lib.hid hv1; clear hv1)
          | (at_builtin; refine append_us rfl (.tmp 37) (.tmp 40) 22 rfl Wc.heap.size 30 ie Tryz.underlying22 hie HIZ.out _ [] (ls.take a) rfl (own_empty (heap_last _ _) (Nat.le_refl _)) (fun y hy => HON.out y (List.mem_of_mem_take hy)) v1 rfl V1.out (by have := HL5.out; simp <;> omega) (by simp) ?_; rintro v2 W6 ho hg; have O6 := Lib.hid ho; have B6 := Lib.hid (below_grown BN.out hg (by simp) (fun b hb => by cases hb; exact Nat.le_refl _)); clear ho hg))
        go_upto_region 12 with (first
          | (refine wpList_slice_hi rfl (.tmp 43) (.tmp 45) 22 rfl Tryz.underlying22 (fun w => by kernel_rfl) _ ls rfl (a + 1) (by rfl) (holdsU_below LH.out B6.out) (by have := HLN.out; omega) ?_; intro v4 hv4; have V4 := Lib.hid hv4; clear hv4)
          | (at_builtin; refine append_us rfl (.tmp 42) (.tmp 46) 22 rfl Wc.heap.size 30 ie Tryz.underlying22 hie HIZ.out _ _ (ls.drop (a + 1)) rfl O6.out (fun y hy => HON.out y (List.mem_of_mem_drop hy)) v4 rfl V4.out (by have := HL5.out; simp <;> omega) B6.out.size ?_; rintro v5 W9 ho hg; have B9 := Lib.hid (below_grown B6.out hg B6.out.size (fun b hb => (O6.out.lt b hb).1)); have O9 := Lib.hid ho; clear ho hg))
        go_wp2
        go_roundw
        case rel => exact ⟨i + 1, _, _, Wc.heap.size, by have := HLN.out; simp; omega, by go_num, O9.out, own_belowM OC.out B9.out, (fun b hb => (OC.out.lt b hb).2), HPM2.out, B9.out.size, below_next BC.out B9.out⟩
        case measure => simp [intOf] <;> omega
      · have q1 : ¬ (i : Int) < (qn : Int) := by omega
        obtain ⟨x, hx⟩ : ∃ x, ls[0]? = some x := ⟨_, List.getElem?_eq_getElem (by have := HLN.out; omega)⟩
        obtain ⟨la, lc', e1, hcx⟩ := holdsU_at (own_holds HLO.out) k 0 HLN.out x hx
        cases e1
        have hmx := HMM.out x (List.mem_of_getElem? hx)
        have hux := HD.out x hmx
        obtain ⟨f, fv⟩ := x
        dsimp only at hcx hux
        obtain ⟨fo, fc, rfl⟩ := dots_shape hux f.deps.length rfl
        obtain ⟨fn, hfn⟩ : ∃ m, m = f.deps.length := ⟨_, rfl⟩
        rw [← hfn] at hcx hx
        clear hfn hux hmx
        have CF := Lib.hid (show ∀ j u, (evC f (.slice fo fn fc))[j]? = some u → wr.cell? (la.add j) = some u from fun j u hu => by have h := hcx j u hu; rwa [Nat.zero_mul, addr_zeroP] at h)
        have HPM2 := Lib.hid (shuf_step HPM.out hx)
        have HON := Lib.hid (show ∀ y ∈ ls, y.2.oneCell' = true from fun y hy => dots_oneH (HD.out y (HMM.out y hy)))
        clear hcx hx
        have HL5 := Lib.hid (show ls.length ≤ 40000 by have := HSUM.out; have := HLN.out; omega)
        have HO5 := Lib.hid (show os.length ≤ 40000 by have h1 := HPM.out.length_eq; rw [List.length_append] at h1; have := HN.out; omega)
        go_upto_region 9 with fail
        go_upto_region 10 with (first
          | (refine load_evA_on (by rfl) 30 (.tmp 33) rfl la rfl Tryz.underlying30 evSize CF.out ?_)
          | (refine build_evM rfl 35 rfl (.tmp 34) rfl wr.heap.size rfl f fo fn fc rfl ?_; rintro Wb hEA hBA hNA; have EA := Lib.hid hEA; have BB := Lib.hid (below_next HB.out hBA); have LB := Lib.hid (own_belowM HLO.out hBA); have OB := Lib.hid (own_belowM HOO.out hBA); clear hEA hBA hNA)
          | (at_builtin; refine append_evs rfl (.tmp 30) (.tmp 35) 22 rfl w.heap.size 30 ie Tryz.underlying22 hie HIZ.out _ _ [(f, .slice fo fn fc)] rfl OB.out (fun q hq => by rw [List.mem_singleton.1 hq]; rfl) ⟨wr.heap.size, 0, none⟩ 1 1 rfl rfl (evAt_one EA.out) (by have := HO5.out; simp <;> omega) BB.out.size ?_; rintro v3 Wc ho hg; have BC := Lib.hid (below_grown BB.out hg BB.out.size (fun b hb => (OB.out.lt b hb).1)); have LC := Lib.hid (LB.out.kept hg (apart_own LB.out HAP.out)); have OC := Lib.hid ho; clear ho hg))
        generalize Value.agg (evC f (Value.slice fo fn fc)) = evv
        have LH := Lib.hid (own_holds LC.out)
        have BN := Lib.hid ((Below.refl Wc.heap.size Wc).alloc (Nat.le_refl _) (.cells #[] 30 (0, 0)))
        go_upto_region 11 with (first
          | (refine wpList_slice_lo rfl (.tmp 38) (.tmp 39) 22 rfl Tryz.underlying22 (fun w => by kernel_rfl) _ ls rfl 0 rfl (holdsU_below LH.out BN.out) (by have := HLN.out; omega) ?_; intro v1 hv1; have V1 := Lib.hid hv1; clear hv1)
          | (at_builtin; refine append_us rfl (.tmp 37) (.tmp 40) 22 rfl Wc.heap.size 30 ie Tryz.underlying22 hie HIZ.out _ [] (ls.take 0) rfl (own_empty (heap_last _ _) (Nat.le_refl _)) (fun y hy => HON.out y (List.mem_of_mem_take hy)) v1 rfl V1.out (by have := HL5.out; simp <;> omega) (by simp) ?_; rintro v2 W6 ho hg; have O6 := Lib.hid ho; have B6 := Lib.hid (below_grown BN.out hg (by simp) (fun b hb => by cases hb; exact Nat.le_refl _)); clear ho hg))
        go_upto_region 12 with (first
          | (refine wpList_slice_hi rfl (.tmp 43) (.tmp 45) 22 rfl Tryz.underlying22 (fun w => by kernel_rfl) _ ls rfl (0 + 1) (by rfl) (holdsU_below LH.out B6.out) (by have := HLN.out; omega) ?_; intro v4 hv4; have V4 := Lib.hid hv4; clear hv4)
          | (at_builtin; refine append_us rfl (.tmp 42) (.tmp 46) 22 rfl Wc.heap.size 30 ie Tryz.underlying22 hie HIZ.out _ _ (ls.drop (0 + 1)) rfl O6.out (fun y hy => HON.out y (List.mem_of_mem_drop hy)) v4 rfl V4.out (by have := HL5.out; simp <;> omega) B6.out.size ?_; rintro v5 W9 ho hg; have B9 := Lib.hid (below_grown B6.out hg B6.out.size (fun b hb => (O6.out.lt b hb).1)); have O9 := Lib.hid ho; clear ho hg))
        go_wp2
        go_roundw
        case rel => exact ⟨i + 1, _, _, Wc.heap.size, by have := HLN.out; simp; omega, by go_num, O9.out, own_belowM OC.out B9.out, (fun b hb => (OC.out.lt b hb).2), HPM2.out, B9.out.size, below_next BC.out B9.out⟩
        case measure => simp [intOf] <;> omega
    · obtain rfl : k = 0 := by omega
      have hls : ls = [] := List.eq_nil_of_length_eq_zero HLN.out
      go_wp2
      go_ret
      exact ⟨_, os, rfl, own_holds HOO.out, by have := HPM.out; rw [hls, List.append_nil] at this; exact this, HB.out⟩
end Go.Proofs.YtcdjkjadbhejpaaGreatDoor
namespace Go.Proofs.YtcdjkjadbhejpaaGreatDoor
open Go.RowKit
theorem sameEv_self (e : Ev) : sameEv e e = true := (sameEv_iff e e).2 (by unfold SameE; simp [sameRow])
set_option maxRecDepth 100000 in
set_option maxHeartbeats 16000000 in
theorem list_true13 (us vs : List (Ev × Value)) (hl : us.length ≤ 50000) (hf : ∀ x ∈ us, x.1.deps.length < 2000000) (he : us.map (·.1) = vs.map (·.1)) (v u : Value) (w : World) (hv : HoldsU w v us) (hd : DepsU w us) (hu : HoldsU w u vs) (hdu : DepsU w vs) : Calls Tryz.prog 15 #[v, u] w fun x w' => x = .returned (.bool true) ∧ Below w.heap.size w w' := by
  obtain ⟨n, hn⟩ : ∃ n, n = us.length := ⟨_, rfl⟩
  have hm : n = vs.length := by
    have := congrArg List.length he
    simp only [List.length_map] at this
    omega
  have hn5 : n ≤ 50000 := by omega
  have HN := Lib.hid hn
  have HM := Lib.hid hm
  obtain ⟨ao, cap, hvs⟩ := holdsU_shape hv n hn
  obtain ⟨bo, cup, hus⟩ := holdsU_shape hu n hm
  subst hvs
  subst hus
  have HV := Lib.hid hv
  have HU := Lib.hid hu
  have HD := Lib.hid hd
  have HDU := Lib.hid hdu
  have HF := Lib.hid hf
  have HE := Lib.hid he
  clear hl hf hv hd hu hdu hn hm he
  go_enter Tryz.func15, Tryz.ntmps15
  go_wp2
  go_loopw [5] (fun c wr => ∃ i : Nat, i ≤ n ∧ c = .int .i64 (i : Int) ∧ Below w.heap.size w wr) (fun c _ => n - (intOf c).toNat)
  case atStart => exact ⟨0, Nat.zero_le _, rfl, Below.refl _ _⟩
  case round =>
    obtain ⟨i, hi, rfl, hb⟩ := hrel
    by_cases hin : i < n
    · obtain ⟨x, hx⟩ : ∃ x, us[i]? = some x := ⟨_, List.getElem?_eq_getElem (by have := HN.out; omega)⟩
      obtain ⟨y, hy⟩ : ∃ y, vs[i]? = some y := ⟨_, List.getElem?_eq_getElem (by have := HM.out; omega)⟩
      obtain ⟨ad, cap', e1, hcx⟩ := holdsU_at HV.out n i HN.out.symm x hx
      cases e1
      obtain ⟨bd, cup', e1, hcy⟩ := holdsU_at HU.out n i HM.out.symm y hy
      cases e1
      have hxy : x.1 = y.1 := by
        have h1 := fst_atM hx
        have h2 := fst_atM hy
        rw [HE.out, h2] at h1
        exact (Option.some.inj h1).symm
      have hdx := HD.out x (List.mem_of_getElem? hx)
      have hdy := HDU.out y (List.mem_of_getElem? hy)
      have hlx := HF.out x (List.mem_of_getElem? hx)
      obtain ⟨e, xv⟩ := x
      obtain ⟨e', yv⟩ := y
      dsimp only at hcx hcy hdx hdy hlx hxy
      subst hxy
      have CX := Lib.hid hcx
      have CY := Lib.hid hcy
      have HB := Lib.hid hb
      have HX1 := Lib.hid hdx
      have HY1 := Lib.hid hdy
      have SM := Lib.hid (fun w hv hu => refSame_any12 e e hlx xv yv w hv hu)
      rw [sameEv_self] at SM
      have q0 : (i : Int) < (n : Int) := by omega
      clear hx hy hcx hcy hdx hdy hlx hb
      go_upto_region 6 with fail
      refine wp_region_held_drew (S := fun w' => Below w.heap.size w w') (by kernel_rfl) (drawS HB.out) (fun hHeld => ?_)
      generalize wr.drew = wd at hHeld ⊢
      refine take_at (i := 0) 17 rfl rfl (by kernel_rfl) (by kernel_rfl) (by kernel_rfl) (fun _ _ _ h => h) (sure_yes (by rfl) (fun w => by go_simp; try with_reducible rfl)) hHeld ?_
      simp only [List.setIfInBounds_toArray, List.set_cons_zero, List.set_cons_succ]
      refine take_at (i := 1) 18 rfl rfl (by kernel_rfl) (by kernel_rfl) (by kernel_rfl) (fun _ _ _ h => h) (sure_yes (by rfl) (fun w => by go_simp; try with_reducible rfl)) hHeld ?_
      simp only [List.setIfInBounds_toArray, List.set_cons_zero, List.set_cons_succ]
      refine take_at (i := 2) 19 rfl rfl (by kernel_rfl) (by kernel_rfl) (by kernel_rfl) (fun _ _ _ h => h) (sure_yes (by rfl) (fun w => by go_simp; try with_reducible rfl)) hHeld ?_
      simp only [List.setIfInBounds_toArray, List.set_cons_zero, List.set_cons_succ]
      refine take_at (i := 4) 21 rfl rfl (by kernel_rfl) (by kernel_rfl) (by kernel_rfl) (fun _ _ _ h => h) (sure_yes (by rfl) (fun w => by go_simp; try with_reducible rfl)) hHeld ?_
      simp only [List.setIfInBounds_toArray, List.set_cons_zero, List.set_cons_succ]
      refine take_at (i := 5) 22 rfl rfl (by kernel_rfl) (by kernel_rfl) (by kernel_rfl) (fun _ _ _ h => h) (sure_yes (by rfl) (fun w => by go_simp; try with_reducible rfl)) hHeld ?_
      simp only [List.setIfInBounds_toArray, List.set_cons_zero, List.set_cons_succ]
      refine take_at (i := 6) 23 rfl rfl (by kernel_rfl) (by kernel_rfl) (by kernel_rfl) (fun _ _ _ h => h) (sure_yes (by rfl) (fun w => by go_simp; try with_reducible rfl)) hHeld ?_
      simp only [List.setIfInBounds_toArray, List.set_cons_zero, List.set_cons_succ]
      refine take_at (i := 3) 20 rfl rfl (by kernel_rfl) (by kernel_rfl) (by kernel_rfl) (fun _ _ _ h => h) (evA_yields (by rfl) 30 (.tmp 19) rfl (ad.add (i * 38)) rfl Tryz.underlying30 evSize (fun w h j u hu => cell_under12 (CX.out j u hu) h)) hHeld ?_
      simp only [List.setIfInBounds_toArray, List.set_cons_zero, List.set_cons_succ]
      refine take_at (i := 7) 24 rfl rfl (by kernel_rfl) (by kernel_rfl) (by kernel_rfl) (fun _ _ _ h => h) (evA_yields (by rfl) 30 (.tmp 23) rfl (bd.add (i * 38)) rfl Tryz.underlying30 evSize (fun w h j u hu => cell_under12 (CY.out j u hu) h)) hHeld ?_
      simp only [List.setIfInBounds_toArray, List.set_cons_zero, List.set_cons_succ]
      refine ready_call2 8 25 (by kernel_rfl) rfl rfl (by rfl) 42 (.tmp 20) (.tmp 24) 30 30 rfl (.agg (evC e xv)) (.agg (evC e yv)) rfl rfl (enters_of Tryz.func42 (by kernel_rfl) rfl) _ (SM.out _ (dots_below HX1.out hHeld) (dots_below HY1.out hHeld)) (fun x wz hp => ?_)
      obtain ⟨rfl, hb⟩ := hp
      refine ⟨_, rfl, below_next hHeld hb, ?_⟩
      replace hHeld := below_next hHeld hb
      clear hb
      simp only [List.setIfInBounds_toArray, List.set_cons_zero, List.set_cons_succ]
      refine take_at (i := 9) 26 rfl rfl (by kernel_rfl) (by kernel_rfl) (by kernel_rfl) (fun _ _ _ h => h) (sure_yes (by rfl) (fun w => by go_simp; try with_reducible rfl)) hHeld ?_
      simp only [List.setIfInBounds_toArray, List.set_cons_zero, List.set_cons_succ]
      refine wpAnyH_done (by kernel_rfl) ?_ _
      have HZ := Lib.hid hHeld
      clear hHeld
      go_wp2
      go_roundw
      case rel => exact ⟨i + 1, hin, by go_num, HZ.out⟩
      case measure => simp [intOf]; omega
    · obtain rfl : i = n := by omega
      have HB := Lib.hid hb
      clear hb
      go_wp2
      go_ret
      exact ⟨rfl, HB.out⟩
end Go.Proofs.YtcdjkjadbhejpaaGreatDoor
namespace Go.Proofs.YtcdjkjadbhejpaaGreatDoor
open Go.RowKit
theorem dec_digs (m : Nat) : Lib.decDigits m = digs m := by
  induction m using Nat.strongRecOn with
  | _ m ih =>
    by_cases h : m < 10
    · rw [digs_lo m h, Lib.decDigits, dif_pos h]
    · rw [digs_hi m (by omega), Lib.decDigits, dif_neg h, ih _ (by omega)]
theorem itoa_num (n : Int) : Lib.itoa n = numL n := by
  unfold Lib.itoa numL
  by_cases h : n < 0
  · rw [if_pos h, if_pos h, dec_digs]
  · rw [if_neg h, if_neg h, dec_digs]; congr 1; omega
theorem number_any (w : World) (n : Int) (h0 : -9223372036854775808 ≤ n) (h1 : n < 9223372036854775808) (hT : PowTab w) :
    Calls Tryz.prog 100 #[.int .i64 n] w fun e w' => e = .returned (.string (str (numL n))) ∧ Below w.heap.size w w' := by
  have HC := Lib.hid (Tryz.strconv_FormatInt_10 n h0 (by omega) w hT)
  go_enter Tryz.func100, Tryz.ntmps100
  go_wp2_with (first | (go_at_call 126; refine HC.out.mono ?_; rintro e w' ⟨rfl, k, os, rfl⟩))
  go_ret
  exact ⟨by rw [itoa_num]; rfl, ⟨rfl, rfl, rfl, by simp [Sort.grow, World.drewN], fun i hi => Array.getElem?_append_left hi⟩⟩
end Go.Proofs.YtcdjkjadbhejpaaGreatDoor
namespace Go.Proofs.YtcdjkjadbhejpaaGreatDoor
open Go.RowKit
/-- Pieces, each with the place where it begins. -/
def marksAt (f : Nat) : List (List UInt8) → List (Nat × List UInt8)
  | [] => []
  | p :: ps => (f, p) :: marksAt (f + p.length + 1) ps
def marks (s : List UInt8) : List (Nat × List UInt8) := marksAt 0 (pieces s)
theorem marksAt_snd (f : Nat) (ps : List (List UInt8)) : (marksAt f ps).map (·.2) = ps := by
  induction ps generalizing f with
  | nil => rfl
  | cons p ps ih => rw [marksAt, List.map_cons, ih]
theorem marks_snd (s : List UInt8) : (marks s).map (·.2) = pieces s := marksAt_snd 0 _
/-- The places of the bytes /. -/
def slashes (f : Nat) : List UInt8 → List Nat
  | [] => []
  | c :: t => if c = 47 then f :: slashes (f + 1) t else slashes (f + 1) t
theorem marksAt_fst (f : Nat) (s : List UInt8) : (marksAt f (pieces s)).map (·.1) = f :: (slashes f s).map (· + 1) := by
  induction s generalizing f with
  | nil => rfl
  | cons c t ih =>
    rw [pieces, slashes]
    by_cases h : c = 47
    · rw [if_pos h, if_pos h, marksAt, List.map_cons, List.length_nil, Nat.add_zero, ih (f + 1), List.map_cons]
    · rw [if_neg h, if_neg h]
      have ih := ih (f + 1)
      cases hp : pieces t with
      | nil => exact absurd hp (pieces_ne t)
      | cons p ps =>
        rw [hp, marksAt, List.map_cons, List.cons.injEq] at ih
        simp only [marksAt, List.map_cons, List.length_cons, List.cons.injEq, true_and]
        rw [show f + (p.length + 1) + 1 = f + 1 + p.length + 1 from by omega, ih.2]
theorem marks_fst (s : List UInt8) : (marks s).map (·.1) = 0 :: (slashes 0 s).map (· + 1) := marksAt_fst 0 s
theorem slashes_ge (s : List UInt8) : ∀ f, ∀ j ∈ slashes f s, f ≤ j := by
  induction s with
  | nil => intro f j hj; cases hj
  | cons c t ih =>
    intro f j hj
    rw [slashes] at hj
    by_cases h : c = 47
    · rw [if_pos h] at hj
      rcases List.mem_cons.1 hj with rfl | hj
      · exact Nat.le_refl _
      · have := ih _ _ hj; omega
    · rw [if_neg h] at hj; have := ih _ _ hj; omega
theorem slashes_sorted (s : List UInt8) : ∀ f, (slashes f s).Pairwise (· < ·) := by
  induction s with
  | nil => intro f; exact List.Pairwise.nil
  | cons c t ih =>
    intro f
    rw [slashes]
    by_cases h : c = 47
    · rw [if_pos h]; exact List.Pairwise.cons (fun j hj => by have := slashes_ge t _ _ hj; omega) (ih _)
    · rw [if_neg h]; exact ih _
theorem slashes_mem (s : List UInt8) : ∀ f j, j < s.length → s.getD j 0 = 47 → f + j ∈ slashes f s := by
  induction s with
  | nil => intro f j hj; simp at hj
  | cons c t ih =>
    intro f j hj hs
    rw [slashes]
    cases j with
    | zero => rw [if_pos (by simpa using hs)]; simp
    | succ j =>
      have := ih (f + 1) j (by simpa using hj) (by simpa using hs)
      rw [show f + 1 + j = f + (j + 1) from by omega] at this
      by_cases h : c = 47
      · rw [if_pos h]; exact List.mem_cons.2 (.inr this)
      · rw [if_neg h]; exact this
/-- A place ahead of which all are too far from the end: the first that isn't. -/
theorem cut_at {s : List UInt8} {pre rest : List Nat} {x : Nat} (h : (marks s).map (·.1) = pre ++ x :: rest) (hx : 0 < x) (hxs : x ≤ s.length) (hsl : s.getD (x - 1) 0 = 47) (hall : ∀ y ∈ pre, 100 < s.length - y) (hn : s.length - x ≤ 100) : cutI s = some (x - 1) := by
  refine cut_of (by omega) hsl (by omega) fun j hj h47 => ?_
  have hm : j + 1 ∈ pre ++ x :: rest := by
    rw [← h, marks_fst]
    exact List.mem_cons.2 (.inr (List.mem_map.2 ⟨j, by have := slashes_mem s 0 j (by omega) h47; rwa [Nat.zero_add] at this, rfl⟩))
  have hp : (pre ++ x :: rest).Pairwise (· < ·) := by
    rw [← h, marks_fst]
    refine List.Pairwise.cons (fun j hj => ?_) ?_
    · obtain ⟨i, _, rfl⟩ := List.mem_map.1 hj; omega
    · exact List.pairwise_map.2 ((slashes_sorted s 0).imp fun h => by omega)
  rcases List.mem_append.1 hm with h1 | h1
  · have := hall _ h1; omega
  · rcases List.mem_cons.1 h1 with h1 | h1
    · omega
    · have := (List.pairwise_cons.1 (List.pairwise_append.1 hp).2.1).1 _ h1
      omega
theorem cut_nowhere {s : List UInt8} (hall : ∀ y ∈ (marks s).map (·.1), 100 < s.length - y) : cutI s = none := cut_no fun j hj h47 => by
  have := hall (j + 1) (by
    rw [marks_fst]
    exact List.mem_cons.2 (.inr (List.mem_map.2 ⟨j, by have := slashes_mem s 0 j hj h47; rwa [Nat.zero_add] at this, rfl⟩)))
  omega
/-- A piece with its place, as a function that goes through them hands it on. -/
abbrev Pm (s : List UInt8) := { x : Nat × List UInt8 // x.1 ≤ s.length ∧ (0 < x.1 → s.getD (x.1 - 1) 0 = 47) ∧ x.2.length ≤ s.length }
/-- What a search for / in the rest of a text finds. -/
theorem index_cut (s : List UInt8) (f : Nat) (hf : f ≤ s.length) :
    (Lib.indexByte (str (s.drop f)).data.toList ((47 : Int).toNat.toUInt8) = -1 ∧ marksAt f (pieces (s.drop f)) = [(f, s.drop f)]) ∨
    ∃ o : Nat, Lib.indexByte (str (s.drop f)).data.toList ((47 : Int).toNat.toUInt8) = (o : Int) ∧ f + o < s.length ∧ s.getD (f + o) 0 = 47 ∧
      marksAt f (pieces (s.drop f)) = (f, (s.take (f + o)).drop f) :: marksAt (f + o + 1) (pieces (s.drop (f + o + 1))) := by
  rw [show (str (s.drop f)).data.toList = s.drop f from by simp [str], show (47 : Int).toNat.toUInt8 = 47 from rfl]
  have hge := Lib.indexByte_ge (s.drop f) 47
  by_cases h : Lib.indexByte (s.drop f) 47 = -1
  · refine .inl ⟨h, ?_⟩
    rw [pieces_end _ fun c hc e => ?_]
    · rfl
    · subst e
      obtain ⟨k, hk, e⟩ := List.mem_iff_getElem.1 hc
      exact absurd (by rw [List.getElem?_eq_getElem hk, e]) (Lib.indexByte_none h k)
  · obtain ⟨o, ho⟩ : ∃ o : Nat, Lib.indexByte (s.drop f) 47 = (o : Int) := ⟨(Lib.indexByte (s.drop f) 47).toNat, by omega⟩
    obtain ⟨h1, h2⟩ := Lib.indexByte_some ho
    have hol : o < (s.drop f).length := (List.getElem?_eq_some_iff.1 h1).1
    have hd : (s.drop f).getD o 0 = 47 := by rw [List.getD_eq_getElem?_getD, h1]; rfl
    refine .inr ⟨o, ho, by rw [List.length_drop] at hol; omega, ?_, ?_⟩
    · rw [List.getElem?_drop] at h1
      rw [List.getD_eq_getElem?_getD, h1]; rfl
    · have e : s.drop f = (s.drop f).take o ++ 47 :: (s.drop f).drop (o + 1) := take_slash hol hd
      have e2 : (s.drop f).take o = (s.take (f + o)).drop f := by rw [List.drop_take]; congr 1; omega
      have e3 : (s.drop f).drop (o + 1) = s.drop (f + o + 1) := by rw [List.drop_drop]; congr 1
      have hno : ∀ c ∈ (s.drop f).take o, c ≠ 47 := fun c hc e => by
        subst e
        obtain ⟨k, hk, e⟩ := List.mem_iff_getElem.1 hc
        have hko : k < o := by rw [List.length_take] at hk; omega
        refine h2 k hko ?_
        have := List.getElem?_eq_getElem hk
        rw [e, List.getElem?_take, if_pos hko] at this
        exact this
      have hlen : ((s.take (f + o)).drop f).length = o := by rw [← e2, List.length_take]; omega
      rw [e2] at hno
      conv => lhs; rw [e, e2, e3, pieces_slash _ _ hno, marksAt, hlen]
end Go.Proofs.YtcdjkjadbhejpaaGreatDoor
namespace Go.Proofs.YtcdjkjadbhejpaaGreatDoor
open Go.RowKit Go.Shelf
attribute [local go_sem] Oper.semAt_some
theorem seq_wraps (f o m K O G : Nat) (h : f + o < m) (hm : m < 4611686018427387904) (hK : K = f + o) (hO : O = o + 1) (hG : G = f + o + 1) : wrap64 ((f : Int) + (o : Int)) = (K : Int) ∧ wrap64 ((o : Int) + 1) = (O : Int) ∧ wrap64 ((f : Int) + (O : Int)) = (G : Int) ∧ decide ((o : Int) < 0) = false := by
  refine ⟨?_, ?_, ?_, decide_eq_false (by omega)⟩ <;> rw [wrap64] <;> omega
/-- The rest of a text from a place on. -/
theorem slice_from {P : Program} (w : World) (t : TypeId) (s : List UInt8) (f : Nat) (hf : f ≤ s.length) (ht : P.underlying t = some .string) :
    (Instr.slice t (.string (str s)) (some (.int .i64 (f : Int))) none none).run P w = .ok (.string (str (s.drop f))) w := by
  have h := run_slice_string_l w t (str s) ht .i64 f (by omega) (by rw [str_size]; omega)
  have e : (str s).extract (f : Int).toNat (str s).size = str (s.drop f) := by
    rw [str_size]; unfold str; rw [ByteArray.extract_mk, List.take_of_length_le (by simp)]; simp
  rw [e] at h; exact h
theorem mid_le (s : List UInt8) (a b : Nat) : ((s.take a).drop b).length ≤ s.length := by rw [List.length_drop, List.length_take]; omega
theorem slash_ahead {s : List UInt8} {x : Nat} (h : s.getD x 0 = 47) : 0 < x + 1 → s.getD (x + 1 - 1) 0 = 47 := fun _ => h
theorem measure_up7 (m f g : Nat) (h : f < g) (h' : g ≤ m) : m - (intOf (.int .i64 (g : Int))).toNat < m - (intOf (.int .i64 (f : Int))).toNat := by
  simp only [intOf, Int.toNat_natCast]; omega
/-- What a round must leave to the function that is ranged over: the cell of its text. -/
def KeepBox (B : Nat) (W W' : World) : Prop := W'.cell? ⟨B, 0, none⟩ = W.cell? ⟨B, 0, none⟩
theorem keepBox_t {B : Nat} {X Y Z : World} (h : KeepBox B X Y) (k : KeepBox B Y Z) : KeepBox B X Z := Eq.trans k h
theorem keepBox_b {B n : Nat} (hB : B < n) (W : World) (l : Nat) (o o' : Obj) (hl : n ≤ l) (h : W.heap[l]? = some o) (_ : o.isCells = false) (_ : o.isWalk = false) : KeepBox B W (W.putObj l o') :=
  ((Below.refl (B + 1) W).grown (grownBy_putObj' W l o') (by have := (Array.getElem?_eq_some_iff.1 h).1; omega) (fun k e => by cases e; omega)).cell (p := ⟨B, 0, none⟩) (by show B < B + 1; omega)
set_option maxRecDepth 100000 in
set_option maxHeartbeats 4000000 in
theorem seq_in (n : Nat) (hn : 1 ≤ n) (l Bn : Nat) (s : List UInt8) (hs : s.length < 4611686018427387904) (J Jx : List (Pm s) → World → Prop)
    (hY : ∀ pre x W, J pre W → pre.length < s.length + 1 → YieldAt Fence.wide (n - 1) Tryz.prog l #[.int .i64 (x.1.1 : Int), .string (str x.1.2)] W fun e W' =>
      (e = .returned (.bool true) ∧ J (pre ++ [x]) W' ∧ KeepBox Bn W W') ∨ (e = .returned (.bool false) ∧ Jx (pre ++ [x]) W'))
    (W : World) (hBn : W.cell? ⟨Bn, 0, none⟩ = some (.string (str s))) (h0 : J [] W) :
    CallsIn Fence.wide n Tryz.prog 189 #[.func (.yield l) #[] #[], .pointer (some ⟨Bn, 0, none⟩)] W fun e W' => (∃ v, e = .returned v) ∧
      ((∃ ys : List (Pm s), ys.map (·.1) = marks s ∧ J ys W') ∨ (∃ pre : List (Pm s), pre.map (·.1) <+: marks s ∧ Jx pre W')) := by
  obtain ⟨m, hm⟩ : ∃ m, m = s.length := ⟨_, rfl⟩
  have HM := Lib.hid hm
  rw [← hm] at hs
  have HMS := Lib.hid hs
  clear hm hs
  refine callsIn_of_wp Tryz.func189 rfl trivial ?_ rfl
  simp only [Tryz.ntmps189, List.size_toArray, List.length_cons, List.length_nil, Nat.reduceAdd, Nat.reduceSub, Array.replicate_succ, Array.replicate_zero, List.push_toArray, List.append_toArray, List.nil_append, List.cons_append]
  gi_wp2
  gi_loopw [3] (fun x wr => ∃ (f : Nat) (pre : List (Pm s)), f ≤ m ∧ x = .int .i64 f ∧ (0 < f → s.getD (f - 1) 0 = 47) ∧ pre.map (·.1) ++ marksAt f (pieces (s.drop f)) = marks s ∧ pre.length ≤ f ∧ J pre wr ∧ wr.cell? ⟨Bn, 0, none⟩ = some (.string (str s)))
    (fun x _ => m - (intOf x).toNat)
  case atStart => exact ⟨0, [], by omega, rfl, fun h => absurd h (by omega), rfl, Nat.le_refl _, h0, hBn⟩
  case round =>
    obtain ⟨f, pre, hfm, rfl, hsl, hpc, hpl, hJ, hc⟩ := hrel
    have HPC := Lib.hid (And.intro hpc (And.intro hpl hsl))
    clear hpc hsl
    have sl : ∀ w, (Instr.slice 9 (.string (str s)) (some (.int .i64 (f : Int))) none none).run Tryz.prog w = .ok (.string (str (s.drop f))) w := fun w => slice_from w 9 s f (by rw [← HM.out]; exact hfm) Tryz.underlying9
    rcases index_cut s f (by rw [← HM.out]; exact hfm) with ⟨hix, hmk⟩ | ⟨o, hix, hlt, h47, hmk⟩
    · have IX := Lib.hid (show ∀ w, Calls Tryz.prog 190 #[.string (str (s.drop f)), .int .u8 47] w fun e w' => e = .returned (.int .i64 (-1)) ∧ w = w' from fun w => by
        refine (Tryz.strings_IndexByte (str (s.drop f)) 47 w).mono fun e w' h => ?_
        rw [hix] at h; exact ⟨h.1, h.2.symm⟩)
      obtain ⟨p, hp⟩ : ∃ p : Pm s, p.1 = (f, s.drop f) := ⟨⟨(f, s.drop f), by rw [← HM.out]; exact hfm, HPC.out.2.2, by simp⟩, rfl⟩
      have HE := Lib.hid (show (pre ++ [p]).map (·.1) = marks s by
        rw [← HPC.out.1, List.map_append, List.map_cons, List.map_nil, hp, hmk])
      obtain ⟨fn, tmps, assign, body, hy, hR⟩ := hY pre p wr hJ (by have := HM.out; omega)
      rw [hp] at hy
      dsimp only at hy
      clear hp hpl hix hmk
      gi_wp2_with (refine ⟨trivial, ?_⟩; gi_at_call 190; refine (callsIn_wide.2 (IX.out _)).mono ?_; rintro e w' ⟨rfl, rfl⟩)
      refine hR.mono ?_
      rintro e W3 (⟨rfl, hJ3, hk3⟩ | ⟨rfl, hJx3⟩)
      · gi_wp2
        refine bodyPost_ret (results_none rfl _ _ _) rfl ?_
        exact ⟨⟨_, rfl⟩, .inl ⟨pre ++ [p], HE.out, hJ3⟩⟩
      · gi_wp2
        refine bodyPost_ret (results_none rfl _ _ _) rfl ?_
        exact ⟨⟨_, rfl⟩, .inr ⟨pre ++ [p], by rw [HE.out]; exact List.prefix_refl _, hJx3⟩⟩
    · have IX := Lib.hid (show ∀ w, Calls Tryz.prog 190 #[.string (str (s.drop f)), .int .u8 47] w fun e w' => e = .returned (.int .i64 (o : Int)) ∧ w = w' from fun w => by
        refine (Tryz.strings_IndexByte (str (s.drop f)) 47 w).mono fun e w' h => ?_
        rw [hix] at h; exact ⟨h.1, h.2.symm⟩)
      obtain ⟨p, hp⟩ : ∃ p : Pm s, p.1 = (f, (s.take (f + o)).drop f) := ⟨⟨(f, (s.take (f + o)).drop f), by rw [← HM.out]; exact hfm, HPC.out.2.2, mid_le s _ _⟩, rfl⟩
      rw [← HM.out] at hlt
      have sm : ∀ w, (Instr.slice 9 (.string (str s)) (some (.int .i64 (f : Int))) (some (.int .i64 ((f + o : Nat) : Int))) none).run Tryz.prog w = .ok (.string (str ((s.take (f + o)).drop f))) w := fun w => slice_mid w 9 s f (f + o) (Nat.le_add_right _ _) (by rw [← HM.out]; omega) Tryz.underlying9
      have HE := Lib.hid (show (pre ++ [p]).map (·.1) ++ marksAt (f + o + 1) (pieces (s.drop (f + o + 1))) = marks s by
        rw [← HPC.out.1, List.map_append, List.map_cons, List.map_nil, hp, hmk, List.append_assoc]; rfl)
      have H47 := Lib.hid (And.intro h47 hlt)
      obtain ⟨fn, tmps, assign, body, hy, hR⟩ := hY pre p wr hJ (by have := HM.out; omega)
      rw [hp] at hy
      dsimp only at hy
      obtain ⟨K, hK⟩ : ∃ K : Nat, K = f + o := ⟨_, rfl⟩
      obtain ⟨O, hO⟩ : ∃ O : Nat, O = o + 1 := ⟨_, rfl⟩
      obtain ⟨G, hG⟩ : ∃ G : Nat, G = f + o + 1 := ⟨_, rfl⟩
      rw [← hK] at sm hy
      rw [← hG] at HE
      obtain ⟨Q, hQ⟩ : ∃ Q, Q = (s.take K).drop f := ⟨_, rfl⟩
      rw [← hQ] at sm hy
      have HG := Lib.hid (And.intro hG hK)
      obtain ⟨w1, w2, w3, d0⟩ := seq_wraps f o m K O G hlt HMS.out hK hO hG
      clear hp hpl hix hmk hlt h47 hK hO hG hQ
      gi_wp2_with (refine ⟨trivial, ?_⟩; gi_at_call 190; refine (callsIn_wide.2 (IX.out _)).mono ?_; rintro e w' ⟨rfl, rfl⟩)
      refine hR.mono ?_
      rintro e W3 (⟨rfl, hJ3, hk3⟩ | ⟨rfl, hJx3⟩)
      · have hc3 : W3.cell? ⟨Bn, 0, none⟩ = some (.string (str s)) := hk3.trans hc
        gi_wp2
        go_roundw
        case rel => have HW := Lib.hid w3; clear w1 w2 w3; exact ⟨G, pre ++ [p], by have := HG.out; have := H47.out.2; omega, by rw [HW.out], by have := H47.out.1; rw [HG.out.1]; exact slash_ahead this, HE.out, by rw [List.length_append, List.length_singleton]; have := HPC.out.2.1; have := HG.out; omega, hJ3, hc3⟩
        case measure => rw [w3]; clear w1 w2 w3; exact measure_up7 m f G (by have := HG.out; omega) (by have := HG.out; have := H47.out.2; omega)
      · gi_wp2
        refine bodyPost_ret (results_none rfl _ _ _) rfl ?_
        exact ⟨⟨_, rfl⟩, .inr ⟨pre ++ [p], ⟨_, HE.out⟩, hJx3⟩⟩
theorem seq_stops (n : Nat) (hn : 1 ≤ n) (Bn : Nat) (s : List UInt8) (hs : s.length < 4611686018427387904) (w : World) (hw : Bn < w.heap.size) (hc : w.cell? ⟨Bn, 0, none⟩ = some (.string (str s))) :
    SeqStopsK Fence.wide n Tryz.prog 189 #[.pointer (some ⟨Bn, 0, none⟩)] (fun x : Pm s => #[.int .i64 (x.1.1 : Int), .string (str x.1.2)]) (KeepBox Bn) (fun xs => xs.map (·.1) = marks s) (fun pre => pre.map (·.1) <+: marks s) (s.length + 1) w := fun l J Jx W hW _ _ hY h0 =>
  seq_in n hn l Bn s hs J Jx hY W ((hW.cell (p := ⟨Bn, 0, none⟩) hw).trans hc) h0
/-- The function that goes through the parts: it has laid its text into a cell of its own. -/
theorem parts_any (s : List UInt8) (w : World) : Calls Tryz.prog 163 #[.string (str s)] w fun e w' => e = .returned (.func (.func 189) #[] #[.pointer (some ⟨w.heap.size, 0, none⟩)]) ∧ w' = w.alloc (.cells #[.string (str s)] 9) := by
  go_enter Tryz.func163, Tryz.ntmps163
  go_wp2
  go_ret
  exact ⟨rfl, rfl⟩
end Go.Proofs.YtcdjkjadbhejpaaGreatDoor
