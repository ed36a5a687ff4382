/-
Texts that all claims of this seat share, part 4: VecMay, EventMay, EventSmall, EventSplit, HexaCode, HexaRead.
-/
import Derived.Test.YthkojphgjlojgaaDoorShelf
import Derived.Shelf.Strings.SplitCore
import Derived.Laws.CopyOwn
import Derived.WalkMore
import Derived.ScopeJumps
import Derived.Test.YthkojphgjlojgaaDoorPk3
namespace Go.Proofs.YthkojphgjlojgaaDoor
open Go.RowKit
theorem dots_part {w : World} {ad : Addr} {n cap : Nat} {l : List D2} (h : HasDots w (.slice (some ad) n cap) l) (k : Nat) (hk : k ≤ n) (hn : n = l.length) : HasDots w (.slice (some ad) k cap) (l.take k) := by
  obtain ⟨ao, cap', e, hnil, hc⟩ := h
  injection e with e1 e2 e3
  subst e1 e3
  have hl : (l.take k).length = k := by rw [List.length_take]; omega
  refine ⟨some ad, cap, by rw [hl], (fun h => by cases h), fun ad' had => ?_⟩
  cases had
  refine ⟨by rw [hl]; have := (hc ad rfl).1; omega, fun j u hj => (hc ad rfl).2 j u ?_⟩
  obtain ⟨i, d, h1, h2⟩ := dotsC_inv _ j u hj
  have h3 : l[i]? = some d := by
    rw [List.getElem?_take] at h1
    split at h1
    · exact h1
    · cases h1
  obtain ⟨p1, p2⟩ := dotsC_at l i d h3
  rcases h2 with ⟨rfl, rfl⟩ | ⟨rfl, rfl⟩
  · exact p1
  · exact p2
theorem fol_no {l : List D2} {r q : Int} (h : mayD r q = false) : fol l (r, q) = false := by
  rw [fol, show mayT (r, q) = false from h]; rfl
theorem fol_nil {r q : Int} (h : mayD r q = true) : fol [] (r, q) = true := by
  rw [fol, show mayT (r, q) = true from h]; rfl
theorem fol_last {l : List D2} {r q r0 q0 : Int} {j : Nat} (h : mayD r q = true) (hj : l.length = j + 1) (hd : l[j]? = some (r0, q0)) : fol l (r, q) = decide (r0 < r) := by
  obtain ⟨a, b, rfl⟩ := list_snoc l (fun e => by rw [e] at hj; simp at hj)
  have ha : a.length = j := by simpa using hj
  subst ha
  obtain rfl : b = (r0, q0) := by simpa using hd
  rw [fol, show mayT (r, q) = true from h, List.getLastD_concat]
  simp
set_option maxRecDepth 100000 in
set_option maxHeartbeats 16000000 in
theorem mayFollow_any (l : List D2) (hl : l.length < 2000000) (r q : Int) (v : Value) (w : World) (hv : HasDots w v l) : Calls Tryd.prog 78 #[v, .agg #[.int .i64 r, .int .i64 q]] w fun e w' => e = .returned (.bool (fol l (r, q))) ∧ Below w.heap.size w w' := by
  have HV := Lib.hid hv
  have MY := Lib.hid (fun w => may_any9 r q w)
  have E0 := Lib.hid (show (w.alloc (.cells #[.int .i64 r, .int .i64 q] 32 (0, 0))).heap[w.heap.size]? = some (.cells #[.int .i64 r, .int .i64 q] 32 (0, 0)) from one_box w r q)
  have B0 := Lib.hid ((Below.refl w.heap.size w).alloc (Nat.le_refl _) (.cells #[.int .i64 r, .int .i64 q] 32 (0, 0)))
  cases hm : mayD r q with
  | false =>
    rw [hm] at MY
    have HR := Lib.hid (fol_no (l := l) hm)
    obtain ⟨ao, cap, rfl⟩ := dots_shape hv l.length rfl
    obtain ⟨n, hn⟩ : ∃ n, n = l.length := ⟨_, rfl⟩
    rw [← hn] at HV ⊢
    clear hv hl hn hm
    go_enter Tryd.func78, Tryd.ntmps78
    go_upto_region 1 with fail
    generalize w.alloc (.cells #[.int .i64 r, .int .i64 q] 32 (0, 0)) = W0 at *
    refine wp_region_held_drew (S := fun w' => Below W0.heap.size W0 w') (by kernel_rfl) (drawS (Below.refl _ _)) (fun hHeld => ?_)
    generalize W0.drew = wd at hHeld ⊢
    refine take_at (i := 0) 5 rfl rfl (by kernel_rfl) (by kernel_rfl) (by kernel_rfl) (fun _ _ _ h => h) (row_yields (by rfl) 32 (.tmp 3) rfl w.heap.size rfl 32 _ (0, 0) _ Tryd.underlying32 rfl (by kernel_rfl) (fun _ h => row_kept E0.out h)) hHeld ?_
    simp only [List.setIfInBounds_toArray, List.set_cons_zero, List.set_cons_succ]
    refine wpAnyH_ready (rs := [1]) (by kernel_rfl) (by simp) ?_
    refine AllReadyH.cons rfl (fun K hK => ?_) AllReadyH.nil
    go_simp
    go_at_call 27
    refine (MY.out _).mono ?_
    rintro e w6 ⟨rfl, hb⟩
    dsimp only
    refine hK.out _ _ (below_next hHeld hb) (fun hHeld => ?_)
    clear hK K hb
    refine take_at (i := 2) 7 rfl rfl (by kernel_rfl) (by kernel_rfl) (by kernel_rfl) (fun _ _ _ h => h) (sure_yes (by rfl) (fun w => by go_simp; try with_reducible rfl)) hHeld ?_
    simp only [List.setIfInBounds_toArray, List.set_cons_zero, List.set_cons_succ]
    refine take_at (i := 3) 8 rfl rfl (by kernel_rfl) (by kernel_rfl) (by kernel_rfl) (fun _ _ _ h => h) (.inr ⟨by rfl, rfl⟩) hHeld ?_
    simp only [List.setIfInBounds_toArray, List.set_cons_zero, List.set_cons_succ]
    refine take_at (i := 4) 9 rfl rfl (by kernel_rfl) (by kernel_rfl) (by kernel_rfl) (fun _ _ _ h => h) (.inr ⟨by rfl, rfl⟩) hHeld ?_
    simp only [List.setIfInBounds_toArray, List.set_cons_zero, List.set_cons_succ]
    refine take_at (i := 5) 10 rfl rfl (by kernel_rfl) (by kernel_rfl) (by kernel_rfl) (fun _ _ _ h => h) (.inr ⟨by rfl, rfl⟩) hHeld ?_
    simp only [List.setIfInBounds_toArray, List.set_cons_zero, List.set_cons_succ]
    refine take_at (i := 6) 11 rfl rfl (by kernel_rfl) (by kernel_rfl) (by kernel_rfl) (fun _ _ _ h => h) (.inr ⟨by rfl, rfl⟩) hHeld ?_
    simp only [List.setIfInBounds_toArray, List.set_cons_zero, List.set_cons_succ]
    refine take_at (i := 7) 12 rfl rfl (by kernel_rfl) (by kernel_rfl) (by kernel_rfl) (fun _ _ _ h => h) (.inr ⟨by rfl, rfl⟩) hHeld ?_
    simp only [List.setIfInBounds_toArray, List.set_cons_zero, List.set_cons_succ]
    refine take_at (i := 8) 13 rfl rfl (by kernel_rfl) (by kernel_rfl) (by kernel_rfl) (fun _ _ _ h => h) (.inr ⟨by rfl, rfl⟩) hHeld ?_
    simp only [List.setIfInBounds_toArray, List.set_cons_zero, List.set_cons_succ]
    refine take_at (i := 9) 14 rfl rfl (by kernel_rfl) (by kernel_rfl) (by kernel_rfl) (fun _ _ _ h => h) (.inr ⟨by rfl, rfl⟩) hHeld ?_
    simp only [List.setIfInBounds_toArray, List.set_cons_zero, List.set_cons_succ]
    refine take_at (i := 10) 15 rfl rfl (by kernel_rfl) (by kernel_rfl) (by kernel_rfl) (fun _ _ _ h => h) (.inr ⟨by rfl, rfl⟩) hHeld ?_
    simp only [List.setIfInBounds_toArray, List.set_cons_zero, List.set_cons_succ]
    refine take_at (i := 11) 16 rfl rfl (by kernel_rfl) (by kernel_rfl) (by kernel_rfl) (fun _ _ _ h => h) (.inr ⟨by rfl, rfl⟩) hHeld ?_
    simp only [List.setIfInBounds_toArray, List.set_cons_zero, List.set_cons_succ]
    refine take_at (i := 12) 17 rfl rfl (by kernel_rfl) (by kernel_rfl) (by kernel_rfl) (fun _ _ _ h => h) (.inr ⟨by rfl, rfl⟩) hHeld ?_
    simp only [List.setIfInBounds_toArray, List.set_cons_zero, List.set_cons_succ]
    refine take_at (i := 13) 18 rfl rfl (by kernel_rfl) (by kernel_rfl) (by kernel_rfl) (fun _ _ _ h => h) (.inr ⟨by rfl, rfl⟩) hHeld ?_
    simp only [List.setIfInBounds_toArray, List.set_cons_zero, List.set_cons_succ]
    refine take_at (i := 14) 19 rfl rfl (by kernel_rfl) (by kernel_rfl) (by kernel_rfl) (fun _ _ _ h => h) (.inr ⟨by rfl, rfl⟩) hHeld ?_
    simp only [List.setIfInBounds_toArray, List.set_cons_zero, List.set_cons_succ]
    refine take_at (i := 15) 20 rfl rfl (by kernel_rfl) (by kernel_rfl) (by kernel_rfl) (fun _ _ _ h => h) (.inr ⟨by rfl, rfl⟩) hHeld ?_
    simp only [List.setIfInBounds_toArray, List.set_cons_zero, List.set_cons_succ]
    refine take_at (i := 16) 21 rfl rfl (by kernel_rfl) (by kernel_rfl) (by kernel_rfl) (fun _ _ _ h => h) (.inr ⟨by rfl, rfl⟩) hHeld ?_
    simp only [List.setIfInBounds_toArray, List.set_cons_zero, List.set_cons_succ]
    refine take_at (i := 17) 22 rfl rfl (by kernel_rfl) (by kernel_rfl) (by kernel_rfl) (fun _ _ _ h => h) (.inr ⟨by rfl, rfl⟩) hHeld ?_
    simp only [List.setIfInBounds_toArray, List.set_cons_zero, List.set_cons_succ]
    refine take_at (i := 18) 23 rfl rfl (by kernel_rfl) (by kernel_rfl) (by kernel_rfl) (fun _ _ _ h => h) (sure_yes (by rfl) (fun w => by go_simp; try with_reducible rfl)) hHeld ?_
    simp only [List.setIfInBounds_toArray, List.set_cons_zero, List.set_cons_succ]
    refine take_at (i := 19) 4 rfl rfl (by kernel_rfl) (by kernel_rfl) (by kernel_rfl) (fun _ _ _ h => h) (sure_yes (by rfl) (fun w => by go_simp; try with_reducible rfl)) hHeld ?_
    simp only [List.setIfInBounds_toArray, List.set_cons_zero, List.set_cons_succ]
    refine wpAnyH_done (by kernel_rfl) ?_ _
    go_wp2
    go_ret
    exact ⟨by rw [HR.out]; rfl, below_next B0.out hHeld⟩
  | true =>
    rw [hm] at MY
    by_cases hnil : l = []
    · subst hnil
      have HR := Lib.hid (fol_nil hm)
      obtain ⟨ao, cap, rfl⟩ := dots_shape hv 0 rfl
      clear hv hl hm
      go_enter Tryd.func78, Tryd.ntmps78
      go_upto_region 1 with fail
      generalize w.alloc (.cells #[.int .i64 r, .int .i64 q] 32 (0, 0)) = W0 at *
      refine wp_region_held_drew (S := fun w' => Below W0.heap.size W0 w') (by kernel_rfl) (drawS (Below.refl _ _)) (fun hHeld => ?_)
      generalize W0.drew = wd at hHeld ⊢
      refine take_at (i := 0) 5 rfl rfl (by kernel_rfl) (by kernel_rfl) (by kernel_rfl) (fun _ _ _ h => h) (row_yields (by rfl) 32 (.tmp 3) rfl w.heap.size rfl 32 _ (0, 0) _ Tryd.underlying32 rfl (by kernel_rfl) (fun _ h => row_kept E0.out h)) hHeld ?_
      simp only [List.setIfInBounds_toArray, List.set_cons_zero, List.set_cons_succ]
      refine wpAnyH_ready (rs := [1]) (by kernel_rfl) (by simp) ?_
      refine AllReadyH.cons rfl (fun K hK => ?_) AllReadyH.nil
      go_simp
      go_at_call 27
      refine (MY.out _).mono ?_
      rintro e w6 ⟨rfl, hb⟩
      dsimp only
      refine hK.out _ _ (below_next hHeld hb) (fun hHeld => ?_)
      clear hK K hb
      refine take_at (i := 2) 7 rfl rfl (by kernel_rfl) (by kernel_rfl) (by kernel_rfl) (fun _ _ _ h => h) (sure_yes (by rfl) (fun w => by go_simp; try with_reducible rfl)) hHeld ?_
      simp only [List.setIfInBounds_toArray, List.set_cons_zero, List.set_cons_succ]
      refine take_at (i := 3) 8 rfl rfl (by kernel_rfl) (by kernel_rfl) (by kernel_rfl) (fun _ _ _ h => h) (sure_yes (by rfl) (fun w => by go_simp; try with_reducible rfl)) hHeld ?_
      simp only [List.setIfInBounds_toArray, List.set_cons_zero, List.set_cons_succ]
      refine take_at (i := 4) 9 rfl rfl (by kernel_rfl) (by kernel_rfl) (by kernel_rfl) (fun _ _ _ h => h) (sure_yes (by rfl) (fun w => by go_simp; try with_reducible rfl)) hHeld ?_
      simp only [List.setIfInBounds_toArray, List.set_cons_zero, List.set_cons_succ]
      refine take_at (i := 5) 10 rfl rfl (by kernel_rfl) (by kernel_rfl) (by kernel_rfl) (fun _ _ _ h => h) (sure_yes (by rfl) (fun w => by go_simp; try with_reducible rfl)) hHeld ?_
      simp only [List.setIfInBounds_toArray, List.set_cons_zero, List.set_cons_succ]
      refine take_at (i := 6) 11 rfl rfl (by kernel_rfl) (by kernel_rfl) (by kernel_rfl) (fun _ _ _ h => h) (sure_yes (by rfl) (fun w => by go_simp; try with_reducible rfl)) hHeld ?_
      simp only [List.setIfInBounds_toArray, List.set_cons_zero, List.set_cons_succ]
      refine take_at (i := 7) 12 rfl rfl (by kernel_rfl) (by kernel_rfl) (by kernel_rfl) (fun _ _ _ h => h) (.inr ⟨by rfl, rfl⟩) hHeld ?_
      simp only [List.setIfInBounds_toArray, List.set_cons_zero, List.set_cons_succ]
      refine take_at (i := 8) 13 rfl rfl (by kernel_rfl) (by kernel_rfl) (by kernel_rfl) (fun _ _ _ h => h) (.inr ⟨by rfl, rfl⟩) hHeld ?_
      simp only [List.setIfInBounds_toArray, List.set_cons_zero, List.set_cons_succ]
      refine take_at (i := 9) 14 rfl rfl (by kernel_rfl) (by kernel_rfl) (by kernel_rfl) (fun _ _ _ h => h) (.inr ⟨by rfl, rfl⟩) hHeld ?_
      simp only [List.setIfInBounds_toArray, List.set_cons_zero, List.set_cons_succ]
      refine take_at (i := 10) 15 rfl rfl (by kernel_rfl) (by kernel_rfl) (by kernel_rfl) (fun _ _ _ h => h) (.inr ⟨by rfl, rfl⟩) hHeld ?_
      simp only [List.setIfInBounds_toArray, List.set_cons_zero, List.set_cons_succ]
      refine take_at (i := 11) 16 rfl rfl (by kernel_rfl) (by kernel_rfl) (by kernel_rfl) (fun _ _ _ h => h) (.inr ⟨by rfl, rfl⟩) hHeld ?_
      simp only [List.setIfInBounds_toArray, List.set_cons_zero, List.set_cons_succ]
      refine take_at (i := 12) 17 rfl rfl (by kernel_rfl) (by kernel_rfl) (by kernel_rfl) (fun _ _ _ h => h) (.inr ⟨by rfl, rfl⟩) hHeld ?_
      simp only [List.setIfInBounds_toArray, List.set_cons_zero, List.set_cons_succ]
      refine take_at (i := 13) 18 rfl rfl (by kernel_rfl) (by kernel_rfl) (by kernel_rfl) (fun _ _ _ h => h) (.inr ⟨by rfl, rfl⟩) hHeld ?_
      simp only [List.setIfInBounds_toArray, List.set_cons_zero, List.set_cons_succ]
      refine take_at (i := 14) 19 rfl rfl (by kernel_rfl) (by kernel_rfl) (by kernel_rfl) (fun _ _ _ h => h) (.inr ⟨by rfl, rfl⟩) hHeld ?_
      simp only [List.setIfInBounds_toArray, List.set_cons_zero, List.set_cons_succ]
      refine take_at (i := 15) 20 rfl rfl (by kernel_rfl) (by kernel_rfl) (by kernel_rfl) (fun _ _ _ h => h) (.inr ⟨by rfl, rfl⟩) hHeld ?_
      simp only [List.setIfInBounds_toArray, List.set_cons_zero, List.set_cons_succ]
      refine take_at (i := 16) 21 rfl rfl (by kernel_rfl) (by kernel_rfl) (by kernel_rfl) (fun _ _ _ h => h) (.inr ⟨by rfl, rfl⟩) hHeld ?_
      simp only [List.setIfInBounds_toArray, List.set_cons_zero, List.set_cons_succ]
      refine take_at (i := 17) 22 rfl rfl (by kernel_rfl) (by kernel_rfl) (by kernel_rfl) (fun _ _ _ h => h) (sure_yes (by rfl) (fun w => by go_simp; try with_reducible rfl)) hHeld ?_
      simp only [List.setIfInBounds_toArray, List.set_cons_zero, List.set_cons_succ]
      refine take_at (i := 18) 23 rfl rfl (by kernel_rfl) (by kernel_rfl) (by kernel_rfl) (fun _ _ _ h => h) (sure_yes (by rfl) (fun w => by go_simp; try with_reducible rfl)) hHeld ?_
      simp only [List.setIfInBounds_toArray, List.set_cons_zero, List.set_cons_succ]
      refine take_at (i := 19) 4 rfl rfl (by kernel_rfl) (by kernel_rfl) (by kernel_rfl) (fun _ _ _ h => h) (sure_yes (by rfl) (fun w => by go_simp; try with_reducible rfl)) hHeld ?_
      simp only [List.setIfInBounds_toArray, List.set_cons_zero, List.set_cons_succ]
      refine wpAnyH_done (by kernel_rfl) ?_ _
      go_wp2
      go_ret
      exact ⟨by rw [HR.out]; rfl, below_next B0.out hHeld⟩
    · obtain ⟨j, hj⟩ : ∃ j, l.length = j + 1 := ⟨l.length - 1, by have := List.length_pos_iff.2 hnil; omega⟩
      obtain ⟨d, hd⟩ : ∃ d, l[j]? = some d := ⟨_, List.getElem?_eq_getElem (by omega)⟩
      obtain ⟨r0, q0⟩ := d
      have HR := Lib.hid (fol_last hm hj hd)
      obtain ⟨n, hn⟩ : ∃ n, n = l.length := ⟨_, rfl⟩
      obtain ⟨ad, cap, rfl, cd, -⟩ := dots_at hv n j hn.symm _ hd
      obtain ⟨c0, -⟩ := dot_cells (show _ = some (dotO r q) from E0.out)
      have CD := Lib.hid ((World.cell?_of_block (B0.out.block _ (World.block_lt_of_cell? _ _ cd))).trans cd)
      have C0 := Lib.hid c0
      have e1 : ((n : Int) == 0) = false := by rw [beq_eq_false_iff_ne]; omega
      have wj : IntKind.i64.wrap ((n : Int) - 1) = (j : Int) := by rw [IntKind.wrap_i64]; omega
      have qj : (j : Int) < (n : Int) := by omega
      clear hv hl hm hnil hj hd hn cd c0
      go_enter Tryd.func78, Tryd.ntmps78
      go_upto_region 1 with fail
      generalize w.alloc (.cells #[.int .i64 r, .int .i64 q] 32 (0, 0)) = W0 at *
      refine wp_region_held_drew (S := fun w' => Below W0.heap.size W0 w') (by kernel_rfl) (drawS (Below.refl _ _)) (fun hHeld => ?_)
      generalize W0.drew = wd at hHeld ⊢
      refine take_at (i := 0) 5 rfl rfl (by kernel_rfl) (by kernel_rfl) (by kernel_rfl) (fun _ _ _ h => h) (row_yields (by rfl) 32 (.tmp 3) rfl w.heap.size rfl 32 _ (0, 0) _ Tryd.underlying32 rfl (by kernel_rfl) (fun _ h => row_kept E0.out h)) hHeld ?_
      simp only [List.setIfInBounds_toArray, List.set_cons_zero, List.set_cons_succ]
      refine wpAnyH_ready (rs := [1]) (by kernel_rfl) (by simp) ?_
      refine AllReadyH.cons rfl (fun K hK => ?_) AllReadyH.nil
      go_simp
      go_at_call 27
      refine (MY.out _).mono ?_
      rintro e w6 ⟨rfl, hb⟩
      dsimp only
      refine hK.out _ _ (below_next hHeld hb) (fun hHeld => ?_)
      clear hK K hb
      refine take_at (i := 2) 7 rfl rfl (by kernel_rfl) (by kernel_rfl) (by kernel_rfl) (fun _ _ _ h => h) (sure_yes (by rfl) (fun w => by go_simp; try with_reducible rfl)) hHeld ?_
      simp only [List.setIfInBounds_toArray, List.set_cons_zero, List.set_cons_succ]
      refine take_at (i := 3) 8 rfl rfl (by kernel_rfl) (by kernel_rfl) (by kernel_rfl) (fun _ _ _ h => h) (sure_yes (by rfl) (fun w => by go_simp; try with_reducible rfl)) hHeld ?_
      simp only [List.setIfInBounds_toArray, List.set_cons_zero, List.set_cons_succ]
      refine take_at (i := 4) 9 rfl rfl (by kernel_rfl) (by kernel_rfl) (by kernel_rfl) (fun _ _ _ h => h) (sure_yes (by rfl) (fun w => by go_simp; try with_reducible rfl)) hHeld ?_
      simp only [List.setIfInBounds_toArray, List.set_cons_zero, List.set_cons_succ]
      refine take_at (i := 5) 10 rfl rfl (by kernel_rfl) (by kernel_rfl) (by kernel_rfl) (fun _ _ _ h => h) (sure_yes (by rfl) (fun w => by go_simp; try with_reducible rfl)) hHeld ?_
      simp only [List.setIfInBounds_toArray, List.set_cons_zero, List.set_cons_succ]
      refine take_at (i := 6) 11 rfl rfl (by kernel_rfl) (by kernel_rfl) (by kernel_rfl) (fun _ _ _ h => h) (sure_yes (by rfl) (fun w => by go_simp; try with_reducible rfl)) hHeld ?_
      simp only [List.setIfInBounds_toArray, List.set_cons_zero, List.set_cons_succ]
      refine take_at (i := 7) 12 rfl rfl (by kernel_rfl) (by kernel_rfl) (by kernel_rfl) (fun _ _ _ h => h) (sure_yes (by rfl) (fun w => by go_simp; try with_reducible rfl)) hHeld ?_
      simp only [List.setIfInBounds_toArray, List.set_cons_zero, List.set_cons_succ]
      refine take_at (i := 8) 13 rfl rfl (by kernel_rfl) (by kernel_rfl) (by kernel_rfl) (fun _ _ _ h => h) (sure_yes (by rfl) (fun w => by go_simp; try with_reducible rfl)) hHeld ?_
      simp only [List.setIfInBounds_toArray, List.set_cons_zero, List.set_cons_succ]
      refine take_at (i := 9) 14 rfl rfl (by kernel_rfl) (by kernel_rfl) (by kernel_rfl) (fun _ _ _ h => h) (sure_yes (by rfl) (fun w => by go_simp; try with_reducible rfl)) hHeld ?_
      simp only [List.setIfInBounds_toArray, List.set_cons_zero, List.set_cons_succ]
      refine take_at (i := 10) 15 rfl rfl (by kernel_rfl) (by kernel_rfl) (by kernel_rfl) (fun _ _ _ h => h) (sure_yes (by rfl) (fun w => by go_simp; try with_reducible rfl)) hHeld ?_
      simp only [List.setIfInBounds_toArray, List.set_cons_zero, List.set_cons_succ]
      refine take_at (i := 11) 16 rfl rfl (by kernel_rfl) (by kernel_rfl) (by kernel_rfl) (fun _ _ _ h => h) (sure_yes (by rfl) (fun w => by go_simp; try with_reducible rfl)) hHeld ?_
      simp only [List.setIfInBounds_toArray, List.set_cons_zero, List.set_cons_succ]
      refine take_at (i := 12) 17 rfl rfl (by kernel_rfl) (by kernel_rfl) (by kernel_rfl) (fun _ _ _ h => h) (sure_yes (by rfl) (fun w => by go_simp; try with_reducible rfl)) hHeld ?_
      simp only [List.setIfInBounds_toArray, List.set_cons_zero, List.set_cons_succ]
      refine take_at (i := 14) 19 rfl rfl (by kernel_rfl) (by kernel_rfl) (by kernel_rfl) (fun _ _ _ h => h) (sure_yes (by rfl) (fun w => by go_simp; try with_reducible rfl)) hHeld ?_
      simp only [List.setIfInBounds_toArray, List.set_cons_zero, List.set_cons_succ]
      refine take_at (i := 13) 18 rfl rfl (by kernel_rfl) (by kernel_rfl) (by kernel_rfl) (fun _ _ _ h => h) (addr_yields (by rfl) 3 (.tmp 17) rfl (ad.add (j * 2)) rfl .i64 r0 Tryd.underlying3 (fun w h => (World.cell?_of_block (h.block _ (World.block_lt_of_cell? _ _ CD.out))).trans CD.out)) hHeld ?_
      simp only [List.setIfInBounds_toArray, List.set_cons_zero, List.set_cons_succ]
      refine take_at (i := 15) 20 rfl rfl (by kernel_rfl) (by kernel_rfl) (by kernel_rfl) (fun _ _ _ h => h) (cell_yields (by rfl) 3 (.tmp 19) rfl w.heap.size 0 rfl .i64 r Tryd.underlying3 (fun w h => (World.cell?_of_block (h.block _ (World.block_lt_of_cell? _ _ C0.out))).trans C0.out)) hHeld ?_
      simp only [List.setIfInBounds_toArray, List.set_cons_zero, List.set_cons_succ]
      refine take_at (i := 16) 21 rfl rfl (by kernel_rfl) (by kernel_rfl) (by kernel_rfl) (fun _ _ _ h => h) (sure_yes (by rfl) (fun w => by go_simp; try with_reducible rfl)) hHeld ?_
      simp only [List.setIfInBounds_toArray, List.set_cons_zero, List.set_cons_succ]
      refine take_at (i := 17) 22 rfl rfl (by kernel_rfl) (by kernel_rfl) (by kernel_rfl) (fun _ _ _ h => h) (sure_yes (by rfl) (fun w => by go_simp; try with_reducible rfl)) hHeld ?_
      simp only [List.setIfInBounds_toArray, List.set_cons_zero, List.set_cons_succ]
      refine take_at (i := 18) 23 rfl rfl (by kernel_rfl) (by kernel_rfl) (by kernel_rfl) (fun _ _ _ h => h) (sure_yes (by rfl) (fun w => by go_simp; try with_reducible rfl)) hHeld ?_
      simp only [List.setIfInBounds_toArray, List.set_cons_zero, List.set_cons_succ]
      refine take_at (i := 19) 4 rfl rfl (by kernel_rfl) (by kernel_rfl) (by kernel_rfl) (fun _ _ _ h => h) (sure_yes (by rfl) (fun w => by go_simp; try with_reducible rfl)) hHeld ?_
      simp only [List.setIfInBounds_toArray, List.set_cons_zero, List.set_cons_succ]
      refine wpAnyH_done (by kernel_rfl) ?_ _
      go_wp2
      go_ret
      exact ⟨by rw [HR.out]; rfl, below_next B0.out hHeld⟩
set_option maxRecDepth 100000 in
set_option maxHeartbeats 16000000 in
theorem vecMay_any (l : List D2) (hl : l.length < 2000000) (v : Value) (w : World) (hv : HasDots w v l) : Calls Tryd.prog 53 #[v] w fun e w' => e = .returned (.bool (mayV l)) ∧ Below w.heap.size w w' := by
  have HV := Lib.hid hv
  obtain ⟨n, hn⟩ : ∃ n, n = l.length := ⟨_, rfl⟩
  obtain ⟨ao, cap, rfl⟩ := dots_shape hv n hn
  have HN := Lib.hid hn
  have hn4 : n < 2000000 := by omega
  clear hn hv hl
  go_enter Tryd.func53, Tryd.ntmps53
  go_wp2
  go_loopw [7] (fun c wr => ∃ k : Nat, k ≤ n ∧ c = .int .i64 (k : Int) ∧ mayV (l.take k) = true ∧ Below w.heap.size w wr) (fun c _ => n - (intOf c).toNat)
  case atStart => exact ⟨0, Nat.zero_le _, rfl, mayV_nil, Below.refl _ _⟩
  case round =>
    obtain ⟨k, hk, rfl, hok, hb⟩ := hrel
    by_cases hlt : k < n
    · have q0 : (k : Int) < (n : Int) := by omega
      have hkl : k < l.length := by rw [← HN.out]; exact hlt
      obtain ⟨d, hd⟩ : ∃ d, l[k]? = some d := ⟨_, List.getElem?_eq_getElem hkl⟩
      have HA := Lib.hid (mayV_take hd)
      obtain ⟨r, q⟩ := d
      have HVr := dots_below HV.out hb
      obtain ⟨ad, cap', e, c0, c1⟩ := dots_at HVr n k HN.out.symm _ hd
      cases e
      have C0 := Lib.hid (And.intro c0 c1)
      have KK := Lib.hid (show k + 1 ≤ n ∧ n - (k + 1) < n - k by omega)
      have D0 := Lib.hid (heap_last wr (.cells #[.int .i64 r, .int .i64 q] 32 (0, 0)))
      have B0 := Lib.hid (hb.alloc hb.size (.cells #[.int .i64 r, .int .i64 q] 32 (0, 0)))
      have HT := Lib.hid (dots_below (dots_part HVr k hk HN.out) ((Below.refl wr.heap.size wr).alloc (Nat.le_refl _) (.cells #[.int .i64 r, .int .i64 q] 32 (0, 0))))
      have MF := Lib.hid (fun w hv => mayFollow_any (l.take k) (by rw [List.length_take]; omega) r q (.slice (some ad) k cap) w hv)
      have q1 : (k : Int) ≤ (cap : Int) := by obtain ⟨ao, c', e, -, hc⟩ := HVr; injection e with e1 e2 e3; subst e3; have := (hc ad e1.symm).1; have := HN.out; omega
      have HO := Lib.hid hok
      obtain ⟨B, hB⟩ : ∃ B, fol (l.take k) (r, q) = B := ⟨_, rfl⟩
      rw [hB] at MF HA
      clear c0 c1 hb hd hkl HVr hok hB
      go_wp2_with (first
        | (refine load_dot10 (by rfl) 32 (.tmp 10) rfl (ad.add (k * 2)) rfl r q Tryd.underlying32 (by kernel_rfl) C0.out ?_))
      generalize wr.alloc (.cells #[.int .i64 r, .int .i64 q] 32 (0, 0)) = W1 at *
      refine wp_region_held_drew (S := fun w' => Below W1.heap.size W1 w') (by kernel_rfl) (drawS (Below.refl _ _)) (fun hHeld => ?_)
      generalize W1.drew = wd at hHeld ⊢
      refine take_at (i := 0) 12 rfl rfl (by kernel_rfl) (by kernel_rfl) (by kernel_rfl) (fun _ _ _ h => h) (sure_yes (by rfl) (fun w => by go_simp; try with_reducible rfl)) hHeld ?_
      simp only [List.setIfInBounds_toArray, List.set_cons_zero, List.set_cons_succ]
      refine take_at (i := 1) 13 rfl rfl (by kernel_rfl) (by kernel_rfl) (by kernel_rfl) (fun _ _ _ h => h) (sure_yes (by rfl) (fun w => by go_simp; try with_reducible rfl)) hHeld ?_
      simp only [List.setIfInBounds_toArray, List.set_cons_zero, List.set_cons_succ]
      refine take_at (i := 2) 14 rfl rfl (by kernel_rfl) (by kernel_rfl) (by kernel_rfl) (fun _ _ _ h => h) (sure_yes (by rfl) (fun w => by go_simp; try with_reducible rfl)) hHeld ?_
      simp only [List.setIfInBounds_toArray, List.set_cons_zero, List.set_cons_succ]
      refine take_at (i := 3) 15 rfl rfl (by kernel_rfl) (by kernel_rfl) (by kernel_rfl) (fun _ _ _ h => h) (row_yields (by rfl) 32 (.tmp 4) rfl wr.heap.size rfl 32 _ (0, 0) _ Tryd.underlying32 rfl (by kernel_rfl) (fun _ h => row_kept D0.out h)) hHeld ?_
      simp only [List.setIfInBounds_toArray, List.set_cons_zero, List.set_cons_succ]
      refine wpAnyH_ready (rs := [4]) (by kernel_rfl) (by simp) ?_
      refine AllReadyH.cons rfl (fun K hK => ?_) AllReadyH.nil
      go_simp
      go_at_call 78
      refine (MF.out _ (dots_below HT.out hHeld)).mono ?_
      rintro e w6 ⟨rfl, hb⟩
      dsimp only
      refine hK.out _ _ (below_next hHeld hb) (fun hHeld => ?_)
      clear hK K hb
      refine take_at (i := 5) 17 rfl rfl (by kernel_rfl) (by kernel_rfl) (by kernel_rfl) (fun _ _ _ h => h) (sure_yes (by rfl) (fun w => by go_simp; try with_reducible rfl)) hHeld ?_
      simp only [List.setIfInBounds_toArray, List.set_cons_zero, List.set_cons_succ]
      refine wpAnyH_done (by kernel_rfl) ?_ _
      cases B with
      | true =>
        go_wp2
        refine ⟨⟨k + 1, KK.out.1, by simp, by rw [HA.out, HO.out]; rfl, below_next B0.out hHeld⟩, ?_⟩
        simp [intOf]; exact KK.out.2
      | false =>
        have HF := Lib.hid (mayV_ahead (l := l) (k := k + 1) (by rw [HA.out, HO.out]; rfl))
        go_wp2
        go_ret
        exact ⟨by rw [HF.out]; rfl, below_next B0.out hHeld⟩
    · have q0 : ¬ (k : Int) < (n : Int) := by omega
      have HE := Lib.hid (show l.take k = l by rw [show k = l.length by rw [← HN.out]; omega, List.take_length])
      rw [HE.out] at hok
      have HO := Lib.hid hok
      have HB := Lib.hid hb
      clear hok hb
      go_wp2
      go_ret
      exact ⟨by rw [HO.out]; rfl, HB.out⟩
end Go.Proofs.YthkojphgjlojgaaDoor
namespace Go.Proofs.YthkojphgjlojgaaDoor
open Go.RowKit
/-- What path.Own owes. -/
def OwnSays : Prop := ∀ w (s : List UInt8), s.length < 1152921504606846976 → PowTab w → Calls Tryd.prog 29 #[.string (str s)] w fun e w' => e = .returned (.bool (ownP s)) ∧ Below w.heap.size w w'
theorem zero_row : rowV .u8 32 zeroF = .agg #[.int .u8 0, .int .u8 0, .int .u8 0, .int .u8 0, .int .u8 0, .int .u8 0, .int .u8 0, .int .u8 0, .int .u8 0, .int .u8 0, .int .u8 0, .int .u8 0, .int .u8 0, .int .u8 0, .int .u8 0, .int .u8 0, .int .u8 0, .int .u8 0, .int .u8 0, .int .u8 0, .int .u8 0, .int .u8 0, .int .u8 0, .int .u8 0, .int .u8 0, .int .u8 0, .int .u8 0, .int .u8 0, .int .u8 0, .int .u8 0, .int .u8 0, .int .u8 0] := by kernel_rfl
set_option maxRecDepth 100000 in
set_option maxHeartbeats 4000000 in
theorem mayHappen_any (e : Ev) (v : Value) (w : World) : Calls Tryd.prog 30 #[.agg (evC e v)] w fun x w' => x = .returned (.bool (mayH e)) ∧ Below w.heap.size w w' := by
  have E0 := Lib.hid (box_ev w 36 e v)
  have B0 := Lib.hid ((Below.refl w.heap.size w).alloc (Nat.le_refl _) (.cells (evC e v) 36 (0, 0)))
  obtain ⟨-, -, -, c3, -, c5⟩ := evAt_cells E0.out
  obtain ⟨b, hb⟩ : ∃ b, sameRow 32 e.sum zeroF = b := ⟨_, rfl⟩
  have hq := eql_rowV (P := Tryd.prog) Tryd.underlying34 Tryd.underlying5 cellsByte e.sum zeroF hb
  have hg := guard_rowV (P := Tryd.prog) digestGuard (.tmp 22) (.tmp 23) .u8 32 e.sum zeroF
  rw [zero_row] at hq hg
  by_cases h1 : e.kind = 1
  · clear hq hg hb
    by_cases h3 : 0 ≤ e.size
    · have HM := Lib.hid (show mayH e = decide (e.size ≤ 65536) by simp [mayH, h1, h3])
      go_enter Tryd.func30, Tryd.ntmps30
      go_wp2
      go_ret
      exact ⟨by rw [HM.out]; rfl, B0.out⟩
    · have HM := Lib.hid (show mayH e = false by simp [mayH, h1, h3])
      go_enter Tryd.func30, Tryd.ntmps30
      go_wp2
      go_ret
      exact ⟨by rw [HM.out]; rfl, B0.out⟩
  · by_cases h2 : e.kind = 2
    · have HM := Lib.hid (show mayH e = (decide (e.size = 0) && b) by simp [mayH, h2, hb])
      clear hb
      by_cases h3 : e.size = 0
      · go_enter Tryd.func30, Tryd.ntmps30
        go_wp2_with (first
          | (refine load_sum_on (by rfl) 34 (.tmp 21) rfl w.heap.size rfl E0.out Tryd.underlying34 sumSize ?_))
        go_ret
        exact ⟨by rw [HM.out]; simp [h3], B0.out⟩
      · clear hq hg
        go_enter Tryd.func30, Tryd.ntmps30
        go_wp2
        go_ret
        exact ⟨by rw [HM.out]; simp [h3], B0.out⟩
    · have HM := Lib.hid (show mayH e = false by simp [mayH, h1, h2])
      clear hq hg hb
      go_enter Tryd.func30, Tryd.ntmps30
      go_wp2
      go_ret
      exact ⟨by rw [HM.out]; rfl, B0.out⟩
/- mayBeKnown, May, Knows. -/
set_option maxRecDepth 100000 in
set_option maxHeartbeats 16000000 in
theorem mayKnown_any (l : List D2) (hl : l.length < 2000000) (r q : Int) (hd : mayD r q = true) (v : Value) (w : World) (hv : HasDots w v l) : Calls Tryd.prog 28 #[v, .agg #[.int .i64 r, .int .i64 q]] w fun e w' => e = .returned (.bool (mayV l && decide (getV l r = q - 1))) ∧ Below w.heap.size w w' := by
  have HV := Lib.hid hv
  have MY := Lib.hid (fun w hv => vecMay_any l hl v w hv)
  have GT := Lib.hid (fun w hv => vecGet_any l hl r v w hv)
  have E0 := Lib.hid (show (w.alloc (.cells #[.int .i64 r, .int .i64 q] 32 (0, 0))).heap[w.heap.size]? = some (.cells #[.int .i64 r, .int .i64 q] 32 (0, 0)) from one_box w r q)
  obtain ⟨c0, c1⟩ := dot_cells (show _ = some (dotO r q) from E0.out)
  have C0 := Lib.hid c0
  have C1 := Lib.hid c1
  have B0 := Lib.hid ((Below.refl w.heap.size w).alloc (Nat.le_refl _) (.cells #[.int .i64 r, .int .i64 q] 32 (0, 0)))
  obtain ⟨ao, cap, rfl⟩ := dots_shape hv l.length rfl
  obtain ⟨n, hn⟩ : ∃ n, n = l.length := ⟨_, rfl⟩
  rw [← hn] at HV MY GT ⊢
  obtain ⟨G, hG⟩ : ∃ G, G = getV l r := ⟨_, rfl⟩
  rw [← hG] at GT ⊢
  obtain ⟨p, hp⟩ : ∃ p, q - 1 = p := ⟨_, rfl⟩
  have hq := mayT_bd (d := (r, q)) hd
  have hpb : -9223372036854775808 ≤ p ∧ p < 9223372036854775808 := by dsimp only at hq; omega
  have hw : IntKind.i64.wrap (q - 1) = p := by rw [hp, IntKind.wrap_i64]; omega
  rw [hp]
  clear hv hl hn hG c0 c1 hq hd hp hpb
  cases hm : mayV l with
  | true =>
    rw [hm] at MY
    clear hm
    go_enter Tryd.func28, Tryd.ntmps28
    go_upto_region 1 with fail
    generalize w.alloc (.cells #[.int .i64 r, .int .i64 q] 32 (0, 0)) = W0 at *
    refine wp_region_held_drew (S := fun w' => Below W0.heap.size W0 w') (by kernel_rfl) (drawS (Below.refl _ _)) (fun hHeld => ?_)
    generalize W0.drew = wd at hHeld ⊢
    refine take_at (i := 0) 5 rfl rfl (by kernel_rfl) (by kernel_rfl) (by kernel_rfl) (fun _ _ _ h => h) (sure_yes (by rfl) (fun w => by go_simp; try with_reducible rfl)) hHeld ?_
    simp only [List.setIfInBounds_toArray, List.set_cons_zero, List.set_cons_succ]
    refine wpAnyH_ready (rs := [1]) (by kernel_rfl) (by simp) ?_
    refine AllReadyH.cons rfl (fun CONT hCONT => ?_) AllReadyH.nil
    go_simp
    go_at_call 53
    refine (MY.out _ (dots_below HV.out (below_next B0.out hHeld))).mono ?_
    rintro e w6 ⟨rfl, hb⟩
    dsimp only
    refine hCONT.out _ _ (below_next hHeld hb) (fun hHeld => ?_)
    clear hCONT CONT hb
    refine take_at (i := 2) 7 rfl rfl (by kernel_rfl) (by kernel_rfl) (by kernel_rfl) (fun _ _ _ h => h) (sure_yes (by rfl) (fun w => by go_simp; try with_reducible rfl)) hHeld ?_
    simp only [List.setIfInBounds_toArray, List.set_cons_zero, List.set_cons_succ]
    refine take_at (i := 3) 8 rfl rfl (by kernel_rfl) (by kernel_rfl) (by kernel_rfl) (fun _ _ _ h => h) (sure_yes (by rfl) (fun w => by go_simp; try with_reducible rfl)) hHeld ?_
    simp only [List.setIfInBounds_toArray, List.set_cons_zero, List.set_cons_succ]
    refine take_at (i := 4) 9 rfl rfl (by kernel_rfl) (by kernel_rfl) (by kernel_rfl) (fun _ _ _ h => h) (sure_yes (by rfl) (fun w => by go_simp; try with_reducible rfl)) hHeld ?_
    simp only [List.setIfInBounds_toArray, List.set_cons_zero, List.set_cons_succ]
    refine take_at (i := 7) 12 rfl rfl (by kernel_rfl) (by kernel_rfl) (by kernel_rfl) (fun _ _ _ h => h) (sure_yes (by rfl) (fun w => by go_simp; try with_reducible rfl)) hHeld ?_
    simp only [List.setIfInBounds_toArray, List.set_cons_zero, List.set_cons_succ]
    refine take_at (i := 5) 10 rfl rfl (by kernel_rfl) (by kernel_rfl) (by kernel_rfl) (fun _ _ _ h => h) (cell_yields (by rfl) 3 (.tmp 9) rfl w.heap.size 0 rfl .i64 r Tryd.underlying3 (fun w h => (World.cell?_of_block (h.block _ (World.block_lt_of_cell? _ _ C0.out))).trans C0.out)) hHeld ?_
    simp only [List.setIfInBounds_toArray, List.set_cons_zero, List.set_cons_succ]
    refine take_at (i := 8) 13 rfl rfl (by kernel_rfl) (by kernel_rfl) (by kernel_rfl) (fun _ _ _ h => h) (cell_yields (by rfl) 2 (.tmp 12) rfl w.heap.size 1 rfl .i64 q Tryd.underlying2 (fun w h => (World.cell?_of_block (h.block _ (World.block_lt_of_cell? _ _ C1.out))).trans C1.out)) hHeld ?_
    simp only [List.setIfInBounds_toArray, List.set_cons_zero, List.set_cons_succ]
    refine take_at (i := 9) 14 rfl rfl (by kernel_rfl) (by kernel_rfl) (by kernel_rfl) (fun _ _ _ h => h) (sure_yes (by rfl) (fun w => by go_simp; try with_reducible rfl)) hHeld ?_
    simp only [List.setIfInBounds_toArray, List.set_cons_zero, List.set_cons_succ]
    refine wpAnyH_ready (rs := [6]) (by kernel_rfl) (by simp) ?_
    refine AllReadyH.cons rfl (fun CONT hCONT => ?_) AllReadyH.nil
    go_simp
    go_at_call 54
    refine (GT.out _ (dots_below HV.out (below_next B0.out hHeld))).mono ?_
    rintro e w7 ⟨rfl, hb⟩
    dsimp only
    refine hCONT.out _ _ (below_next hHeld hb) (fun hHeld => ?_)
    clear hCONT CONT hb
    refine take_at (i := 10) 15 rfl rfl (by kernel_rfl) (by kernel_rfl) (by kernel_rfl) (fun _ _ _ h => h) (sure_yes (by rfl) (fun w => by go_simp; try with_reducible rfl)) hHeld ?_
    simp only [List.setIfInBounds_toArray, List.set_cons_zero, List.set_cons_succ]
    refine take_at (i := 11) 16 rfl rfl (by kernel_rfl) (by kernel_rfl) (by kernel_rfl) (fun _ _ _ h => h) (sure_yes (by rfl) (fun w => by go_simp; try with_reducible rfl)) hHeld ?_
    simp only [List.setIfInBounds_toArray, List.set_cons_zero, List.set_cons_succ]
    refine take_at (i := 12) 4 rfl rfl (by kernel_rfl) (by kernel_rfl) (by kernel_rfl) (fun _ _ _ h => h) (sure_yes (by rfl) (fun w => by go_simp; try with_reducible rfl)) hHeld ?_
    simp only [List.setIfInBounds_toArray, List.set_cons_zero, List.set_cons_succ]
    refine wpAnyH_done (by kernel_rfl) ?_ _
    go_wp2
    go_ret
    exact ⟨by rw [Bool.true_and]; rfl, below_next B0.out hHeld⟩
  | false =>
    rw [hm] at MY
    clear hm
    go_enter Tryd.func28, Tryd.ntmps28
    go_upto_region 1 with fail
    generalize w.alloc (.cells #[.int .i64 r, .int .i64 q] 32 (0, 0)) = W0 at *
    refine wp_region_held_drew (S := fun w' => Below W0.heap.size W0 w') (by kernel_rfl) (drawS (Below.refl _ _)) (fun hHeld => ?_)
    generalize W0.drew = wd at hHeld ⊢
    refine take_at (i := 0) 5 rfl rfl (by kernel_rfl) (by kernel_rfl) (by kernel_rfl) (fun _ _ _ h => h) (sure_yes (by rfl) (fun w => by go_simp; try with_reducible rfl)) hHeld ?_
    simp only [List.setIfInBounds_toArray, List.set_cons_zero, List.set_cons_succ]
    refine wpAnyH_ready (rs := [1]) (by kernel_rfl) (by simp) ?_
    refine AllReadyH.cons rfl (fun CONT hCONT => ?_) AllReadyH.nil
    go_simp
    go_at_call 53
    refine (MY.out _ (dots_below HV.out (below_next B0.out hHeld))).mono ?_
    rintro e w6 ⟨rfl, hb⟩
    dsimp only
    refine hCONT.out _ _ (below_next hHeld hb) (fun hHeld => ?_)
    clear hCONT CONT hb
    refine take_at (i := 2) 7 rfl rfl (by kernel_rfl) (by kernel_rfl) (by kernel_rfl) (fun _ _ _ h => h) (sure_yes (by rfl) (fun w => by go_simp; try with_reducible rfl)) hHeld ?_
    simp only [List.setIfInBounds_toArray, List.set_cons_zero, List.set_cons_succ]
    refine take_at (i := 3) 8 rfl rfl (by kernel_rfl) (by kernel_rfl) (by kernel_rfl) (fun _ _ _ h => h) (.inr ⟨by rfl, rfl⟩) hHeld ?_
    simp only [List.setIfInBounds_toArray, List.set_cons_zero, List.set_cons_succ]
    refine take_at (i := 4) 9 rfl rfl (by kernel_rfl) (by kernel_rfl) (by kernel_rfl) (fun _ _ _ h => h) (.inr ⟨by rfl, rfl⟩) hHeld ?_
    simp only [List.setIfInBounds_toArray, List.set_cons_zero, List.set_cons_succ]
    refine take_at (i := 5) 10 rfl rfl (by kernel_rfl) (by kernel_rfl) (by kernel_rfl) (fun _ _ _ h => h) (.inr ⟨by rfl, rfl⟩) hHeld ?_
    simp only [List.setIfInBounds_toArray, List.set_cons_zero, List.set_cons_succ]
    refine take_at (i := 6) 11 rfl rfl (by kernel_rfl) (by kernel_rfl) (by kernel_rfl) (fun _ _ _ h => h) (.inr ⟨by rfl, rfl⟩) hHeld ?_
    simp only [List.setIfInBounds_toArray, List.set_cons_zero, List.set_cons_succ]
    refine take_at (i := 7) 12 rfl rfl (by kernel_rfl) (by kernel_rfl) (by kernel_rfl) (fun _ _ _ h => h) (.inr ⟨by rfl, rfl⟩) hHeld ?_
    simp only [List.setIfInBounds_toArray, List.set_cons_zero, List.set_cons_succ]
    refine take_at (i := 8) 13 rfl rfl (by kernel_rfl) (by kernel_rfl) (by kernel_rfl) (fun _ _ _ h => h) (.inr ⟨by rfl, rfl⟩) hHeld ?_
    simp only [List.setIfInBounds_toArray, List.set_cons_zero, List.set_cons_succ]
    refine take_at (i := 9) 14 rfl rfl (by kernel_rfl) (by kernel_rfl) (by kernel_rfl) (fun _ _ _ h => h) (.inr ⟨by rfl, rfl⟩) hHeld ?_
    simp only [List.setIfInBounds_toArray, List.set_cons_zero, List.set_cons_succ]
    refine take_at (i := 10) 15 rfl rfl (by kernel_rfl) (by kernel_rfl) (by kernel_rfl) (fun _ _ _ h => h) (.inr ⟨by rfl, rfl⟩) hHeld ?_
    simp only [List.setIfInBounds_toArray, List.set_cons_zero, List.set_cons_succ]
    refine take_at (i := 11) 16 rfl rfl (by kernel_rfl) (by kernel_rfl) (by kernel_rfl) (fun _ _ _ h => h) (sure_yes (by rfl) (fun w => by go_simp; try with_reducible rfl)) hHeld ?_
    simp only [List.setIfInBounds_toArray, List.set_cons_zero, List.set_cons_succ]
    refine take_at (i := 12) 4 rfl rfl (by kernel_rfl) (by kernel_rfl) (by kernel_rfl) (fun _ _ _ h => h) (sure_yes (by rfl) (fun w => by go_simp; try with_reducible rfl)) hHeld ?_
    simp only [List.setIfInBounds_toArray, List.set_cons_zero, List.set_cons_succ]
    refine wpAnyH_done (by kernel_rfl) ?_ _
    go_wp2
    go_ret
    exact ⟨by rw [Bool.false_and]; rfl, below_next B0.out hHeld⟩
set_option maxRecDepth 100000 in
set_option maxHeartbeats 16000000 in
theorem may_any12 (OWN : OwnSays) (e : Ev) (hl : e.deps.length < 2000000) (hp : e.path.length < 1152921504606846976) (v : Value) (w : World) (hv : HasDots w v e.deps) (hT : PowTab w) : Calls Tryd.prog 8 #[.agg (evC e v)] w fun x w' => x = .returned (.bool (mayE e)) ∧ Below w.heap.size w w' := by
  have HT := Lib.hid hT
  have HV := Lib.hid hv
  have E0 := Lib.hid (box_ev w 36 e v)
  have B0 := Lib.hid ((Below.refl w.heap.size w).alloc (Nat.le_refl _) (.cells (evC e v) 36 (0, 0)))
  have MY := Lib.hid (fun w => may_any9 e.r e.q w)
  have OW := Lib.hid (fun w hT => OWN w e.path hp hT)
  have HP := Lib.hid (fun w => mayHappen_any e v w)
  cases h1 : mayD e.r e.q with
  | false =>
    have HM := Lib.hid (show mayE e = false by simp [mayE, h1])
    rw [h1] at MY
    clear h1 hT hv hl hp
    go_enter Tryd.func8, Tryd.ntmps8
    go_wp2_with (first
      | (refine load_dot10 (by rfl) 32 (.tmp 3) rfl ⟨w.heap.size, 0, none⟩ rfl e.r e.q Tryd.underlying32 (by kernel_rfl) (evAt_dot E0.out) ?_)
      | (go_at_call 27; refine (MY.out _).mono ?_; rintro x w1 ⟨rfl, hb⟩; have B1 := Lib.hid (below_next B0.out hb); have E1 := Lib.hid (evAt_kept E0.out hb); obtain ⟨-, -, c2, -, -, -⟩ := evAt_cells E1.out; clear hb))
    go_ret
    exact ⟨by rw [HM.out]; rfl, B1.out⟩
  | true =>
    have KN := Lib.hid (fun w hv => mayKnown_any e.deps hl e.r e.q h1 v w hv)
    rw [h1] at MY
    obtain ⟨ao, cap, rfl⟩ := dots_shape hv e.deps.length rfl
    cases h2 : (mayV e.deps && decide (getV e.deps e.r = e.q - 1)) with
    | false =>
      have HM := Lib.hid (show mayE e = false by simp [mayE, h1, knownE, h2])
      rw [h2] at KN
      clear h1 h2 hT hv hl hp
      go_enter Tryd.func8, Tryd.ntmps8
      go_wp2_with (first
        | (refine load_dot10 (by rfl) 32 (.tmp 3) rfl ⟨w.heap.size, 0, none⟩ rfl e.r e.q Tryd.underlying32 (by kernel_rfl) (evAt_dot E0.out) ?_)
        | (go_at_call 27; refine (MY.out _).mono ?_; rintro x w1 ⟨rfl, hb⟩; have B1 := Lib.hid (below_next B0.out hb); have E1 := Lib.hid (evAt_kept E0.out hb); obtain ⟨-, -, c2, -, -, -⟩ := evAt_cells E1.out; clear hb)
        | (refine load_dot10 (by rfl) 32 (.tmp 9) rfl ⟨w.heap.size, 0, none⟩ rfl e.r e.q Tryd.underlying32 (by kernel_rfl) (evAt_dot E1.out) ?_)
        | (go_at_call 28; refine (KN.out _ (dots_below HV.out B1.out)).mono ?_; rintro x w2 ⟨rfl, hb⟩; have B2 := Lib.hid (below_next B1.out hb); have E2 := Lib.hid (evAt_kept E1.out hb); obtain ⟨-, -, -, -, c4, -⟩ := evAt_cells E2.out; clear hb))
      go_ret
      exact ⟨by rw [HM.out]; rfl, B2.out⟩
    | true =>
      rw [h2] at KN
      cases h3 : ownP e.path with
      | false =>
        have HM := Lib.hid (show mayE e = false by simp [mayE, h3])
        rw [h3] at OW
        clear h1 h2 h3 hT hv hl hp
        go_enter Tryd.func8, Tryd.ntmps8
        go_wp2_with (first
          | (refine load_dot10 (by rfl) 32 (.tmp 3) rfl ⟨w.heap.size, 0, none⟩ rfl e.r e.q Tryd.underlying32 (by kernel_rfl) (evAt_dot E0.out) ?_)
          | (go_at_call 27; refine (MY.out _).mono ?_; rintro x w1 ⟨rfl, hb⟩; have B1 := Lib.hid (below_next B0.out hb); have E1 := Lib.hid (evAt_kept E0.out hb); obtain ⟨-, -, c2, -, -, -⟩ := evAt_cells E1.out; clear hb)
          | (refine load_dot10 (by rfl) 32 (.tmp 9) rfl ⟨w.heap.size, 0, none⟩ rfl e.r e.q Tryd.underlying32 (by kernel_rfl) (evAt_dot E1.out) ?_)
          | (go_at_call 28; refine (KN.out _ (dots_below HV.out B1.out)).mono ?_; rintro x w2 ⟨rfl, hb⟩; have B2 := Lib.hid (below_next B1.out hb); have E2 := Lib.hid (evAt_kept E1.out hb); obtain ⟨-, -, -, -, c4, -⟩ := evAt_cells E2.out; clear hb)
          | (go_at_call 29; refine (OW.out _ (powTab_below HT.out B2.out)).mono ?_; rintro x w3 ⟨rfl, hb⟩; have B3 := Lib.hid (below_next B2.out hb); have E3 := Lib.hid (evAt_kept E2.out hb); clear hb))
        go_ret
        exact ⟨by rw [HM.out]; rfl, B3.out⟩
      | true =>
        have HM := Lib.hid (show mayE e = mayH e by simp [mayE, h1, knownE, h2, h3])
        rw [h3] at OW
        clear h1 h2 h3 hT hv hl hp
        go_enter Tryd.func8, Tryd.ntmps8
        go_wp2_with (first
          | (refine load_dot10 (by rfl) 32 (.tmp 3) rfl ⟨w.heap.size, 0, none⟩ rfl e.r e.q Tryd.underlying32 (by kernel_rfl) (evAt_dot E0.out) ?_)
          | (go_at_call 27; refine (MY.out _).mono ?_; rintro x w1 ⟨rfl, hb⟩; have B1 := Lib.hid (below_next B0.out hb); have E1 := Lib.hid (evAt_kept E0.out hb); obtain ⟨-, -, c2, -, -, -⟩ := evAt_cells E1.out; clear hb)
          | (refine load_dot10 (by rfl) 32 (.tmp 9) rfl ⟨w.heap.size, 0, none⟩ rfl e.r e.q Tryd.underlying32 (by kernel_rfl) (evAt_dot E1.out) ?_)
          | (go_at_call 28; refine (KN.out _ (dots_below HV.out B1.out)).mono ?_; rintro x w2 ⟨rfl, hb⟩; have B2 := Lib.hid (below_next B1.out hb); have E2 := Lib.hid (evAt_kept E1.out hb); obtain ⟨-, -, -, -, c4, -⟩ := evAt_cells E2.out; clear hb)
          | (go_at_call 29; refine (OW.out _ (powTab_below HT.out B2.out)).mono ?_; rintro x w3 ⟨rfl, hb⟩; have B3 := Lib.hid (below_next B2.out hb); have E3 := Lib.hid (evAt_kept E2.out hb); clear hb)
          | (refine load_ev_on (by rfl) 36 (.tmp 1) rfl w.heap.size rfl E3.out Tryd.underlying36 evSize ?_)
          | (go_at_call 30; refine (HP.out _).mono ?_; rintro x w4 ⟨rfl, hb⟩; have B4 := Lib.hid (below_next B3.out hb); clear hb))
        go_ret
        exact ⟨by rw [HM.out]; rfl, B4.out⟩
theorem two_evs (w : World) (T : TypeId) (e f : Ev) (v u : Value) : EvAt ((w.alloc (.cells (evC e v) T (0, 0))).alloc (.cells (evC f u) T (0, 0))) w.heap.size T e v ∧ EvAt ((w.alloc (.cells (evC e v) T (0, 0))).alloc (.cells (evC f u) T (0, 0))) (w.heap.size + 1) T f u ∧ Below w.heap.size w ((w.alloc (.cells (evC e v) T (0, 0))).alloc (.cells (evC f u) T (0, 0))) :=
  ⟨evAt_kept (box_ev w T e v) ((Below.refl _ _).alloc (Nat.le_refl _) _), by
    have h := box_ev (w.alloc (.cells (evC e v) T (0, 0))) T f u
    rwa [show (w.alloc (.cells (evC e v) T (0, 0))).heap.size = w.heap.size + 1 by simp] at h, ((Below.refl w.heap.size w).alloc (Nat.le_refl _) _).alloc (by simp) _⟩
set_option maxRecDepth 100000 in
set_option maxHeartbeats 16000000 in
theorem knows_any12 (e f : Ev) (hl : e.deps.length < 2000000) (v u : Value) (w : World) (hv : HasDots w v e.deps) : Calls Tryd.prog 9 #[.agg (evC e v), .agg (evC f u)] w fun x w' => x = .returned (.bool (hasV e.deps f.r f.q)) ∧ Below w.heap.size w w' := by
  obtain ⟨h1, h2, h3⟩ := two_evs w 36 e f v u
  have E1 := Lib.hid h1
  have E2 := Lib.hid h2
  have B0 := Lib.hid h3
  have HH := Lib.hid (vecHas_any e.deps hl f.r f.q v _ (dots_below hv h3))
  obtain ⟨-, -, c2, -, -, -⟩ := evAt_cells h1
  obtain ⟨ao, cap, rfl⟩ := dots_shape hv e.deps.length rfl
  clear h1 h2 h3 hv hl
  go_enter Tryd.func9, Tryd.ntmps9
  go_upto_region 1 with fail
  generalize (w.alloc (.cells (evC e (.slice ao e.deps.length cap)) 36 (0, 0))).alloc (.cells (evC f u) 36 (0, 0)) = W0 at *
  go_wp2_with (first
    | (refine load_dot10 (by rfl) 32 (.tmp 7) rfl ⟨w.heap.size + 1, 0, none⟩ rfl f.r f.q Tryd.underlying32 (by kernel_rfl) (evAt_dot E2.out) ?_)
    | (go_at_call 31; refine HH.out.mono ?_; rintro x w1 ⟨rfl, hb⟩; have B1 := Lib.hid (below_next B0.out hb); clear hb))
  go_ret
  exact ⟨rfl, B1.out⟩
end Go.Proofs.YthkojphgjlojgaaDoor
namespace Go.Proofs.YthkojphgjlojgaaDoor
open Go.RowKit
set_option maxRecDepth 100000 in
set_option maxHeartbeats 4000000 in
theorem kindOf_any (s : List UInt8) (w : World) : Calls Tryd.prog 72 #[.string (str s)] w fun e w' => e = .returned (.int .i64 (kindW s)) ∧ w = w' := by
  have s2 : (str s).toList = s := str_toList s
  have s3 : (ByteArray.mk #[112, 117, 116]).toList = [112, 117, 116] := ByteArray.toList_mk _
  have s4 : (ByteArray.mk #[100, 101, 108]).toList = [100, 101, 108] := ByteArray.toList_mk _
  have s5 : (str [112, 117, 116]).toList = [112, 117, 116] := str_toList _
  have s6 : (str [100, 101, 108]).toList = [100, 101, 108] := str_toList _
  by_cases h1 : s = [112, 117, 116]
  · have HK := Lib.hid (show kindW s = 1 by simp [kindW, putW, h1])
    go_enter Tryd.func72, Tryd.ntmps72
    go_wp2
    go_ret
    exact ⟨by rw [HK.out]; rfl, rfl⟩
  · by_cases h2 : s = [100, 101, 108]
    · have HK := Lib.hid (show kindW s = 2 by simp [kindW, putW, delW, h2])
      go_enter Tryd.func72, Tryd.ntmps72
      go_wp2
      go_ret
      exact ⟨by rw [HK.out]; rfl, rfl⟩
    · have HK := Lib.hid (show kindW s = 0 by simp [kindW, putW, delW, h1, h2])
      have q1 : (s == [112, 117, 116]) = false := beq_eq_false_iff_ne.2 h1
      have q2 : (s == [100, 101, 108]) = false := beq_eq_false_iff_ne.2 h2
      go_enter Tryd.func72, Tryd.ntmps72
      go_wp2
      go_ret
      exact ⟨by rw [HK.out]; rfl, rfl⟩
end Go.Proofs.YthkojphgjlojgaaDoor
namespace Go.Proofs.YthkojphgjlojgaaDoor
open Go.RowKit
theorem str_back (x : ByteArray) : str x.data.toList = x := by unfold str; rfl
theorem splitB_str (k : Nat) (s : List UInt8) : Lib.splitB ⟨#[32]⟩ 0 k (str s) = (Lib.splitK [32] 0 k s).map str := by
  have h := Lib.splitB_data ⟨#[32]⟩ 0 k (str s)
  rw [show (str s).data.toList = s from by simp [str]] at h
  show _ = (Lib.splitK (⟨#[32]⟩ : ByteArray).data.toList 0 k s).map str
  rw [← h, List.map_map]
  conv => lhs; rw [← List.map_id (Lib.splitB _ _ _ _)]
  exact List.map_congr_left fun x _ => (str_back x).symm
theorem spl6_len (s : List UInt8) : (spl6 s).length ≤ min 6 (s.length + 1) := by
  have h := Lib.splitB_length_le ⟨#[32]⟩ 0 (min 6 (s.length + 1) - 1) (str s)
  rw [splitB_str, List.length_map] at h
  unfold spl6 Lib.splitN
  omega
theorem spl6_piece : ∀ (k : Nat) (s p : List UInt8), p ∈ Lib.splitK [32] 0 k s → p.length ≤ s.length
  | 0, s, p, h => by
    simp only [Lib.splitK, List.mem_singleton] at h
    rw [h]; exact Nat.le_refl _
  | k + 1, s, p, h => by
    unfold Lib.splitK at h
    split at h
    · simp only [List.mem_singleton] at h
      rw [h]; exact Nat.le_refl _
    · rcases List.mem_cons.1 h with rfl | h
      · rw [List.length_take]; omega
      · have := spl6_piece k _ p h
        rw [List.length_drop] at this; omega
theorem sd_len (s : List UInt8) (k : Nat) : (sd s k).length ≤ s.length := by
  unfold sd
  by_cases h : k < (spl6 s).length
  · rw [List.getD_eq_getElem?_getD, List.getElem?_eq_getElem h]
    exact spl6_piece _ s _ (List.getElem_mem h)
  · rw [List.getD_eq_getElem?_getD, List.getElem?_eq_none (by omega)]; simp
/-- The cells of the slice that SplitN returns. -/
def splC (s : List UInt8) : Array Value := Lib.cellsOf ((spl6 s).map str) (min 6 (s.length + 1))
set_option maxRecDepth 100000 in
set_option maxHeartbeats 4000000 in
theorem splitN_any (s : List UInt8) (hs : s.length < 4294967281) (w : World) : Calls Tryd.prog 67 #[.string (str s), .string ⟨#[32]⟩, .int .i64 6] w fun e w' =>
    e = .returned (.slice (some ⟨w.heap.size, 0, none⟩) (spl6 s).length (min 6 (s.length + 1))) ∧ w' = w.alloc (.cells (splC s) 9 (0, 0)) := by
  have hz : (str s).size = s.length := str_size s
  have c : Calls Tryd.prog 86 #[.string (str s), .string ⟨#[32]⟩, .int .i64 (0 : Nat), .int .i64 6] w fun e w' =>
      e = .returned (.slice (some ⟨w.heap.size, 0, none⟩) (Lib.splitB ⟨#[32]⟩ 0 (min 6 (s.length + 1) - 1) (str s)).length (min 6 (s.length + 1))) ∧ w' = w.alloc (.cells (Lib.cellsOf (Lib.splitB ⟨#[32]⟩ 0 (min 6 (s.length + 1) - 1) (str s)) (min 6 (s.length + 1))) 9) :=
    Any.strings_genSplit_core Tryd.lays221 (by kernel_rfl) (str s) ⟨#[32]⟩ 0 6 (min 6 (s.length + 1)) w (by rw [hz]; omega) (by decide) (by decide)
      (fun x c _ => (Tryd.strings_Index_one x 32 _).mono fun e w' ⟨he, hw⟩ => ⟨by rw [he]; show _ = Ending.returned (Value.int .i64 (Lib.index x.data.toList [32])); rw [Lib.index_one], hw⟩)
      ((Tryd.strings_Count_one (str s) 32 w).mono fun e w' ⟨he, hw⟩ => ⟨by rw [he]; show _ = Ending.returned (Value.int .i64 ((Lib.count (str s).data.toList [32] : Nat) : Int)); rw [Lib.count_one]; rfl, hw⟩)
      (by decide) (by decide) (by rw [if_neg (by decide), hz]; omega)
  rw [splitB_str, show Lib.splitK [32] 0 (min 6 (s.length + 1) - 1) s = spl6 s from rfl, List.length_map, show Lib.cellsOf ((spl6 s).map str) (min 6 (s.length + 1)) = splC s from rfl] at c
  have C := Lib.hid c
  clear c hs hz
  generalize (spl6 s).length = n at *
  generalize splC s = cs at *
  generalize min 6 (s.length + 1) = m at *
  go_enter Tryd.func67, Tryd.ntmps67
  go_wp2_with (first | (go_at_call 86; refine C.out.mono ?_; rintro e w' ⟨rfl, rfl⟩))
  go_ret
  exact ⟨rfl, rfl⟩
/-- The array of six words. -/
def sixC (s : List UInt8) : List Value := (List.range 6).map fun k => Value.string (str (sd s k))
def emptyC : List Value := [.string ⟨#[]⟩, .string ⟨#[]⟩, .string ⟨#[]⟩, .string ⟨#[]⟩, .string ⟨#[]⟩, .string ⟨#[]⟩]
theorem six_splice (s : List UInt8) : splice emptyC 0 ((spl6 s).map fun p => Value.string (str p)) = sixC s := by
  have hl := spl6_len s
  unfold sixC sd
  generalize spl6 s = l at *
  match l, hl with
  | [], _ => rfl
  | [a], _ => rfl
  | [a, b], _ => rfl
  | [a, b, c], _ => rfl
  | [a, b, c, d], _ => rfl
  | [a, b, c, d, e], _ => rfl
  | [a, b, c, d, e, f], _ => rfl
  | _ :: _ :: _ :: _ :: _ :: _ :: _ :: _, hl => simp only [List.length_cons] at hl; omega
theorem spl_cells (s : List UInt8) (w : World) (T : TypeId) (j : Nat) (v : Value) (h : ((spl6 s).map fun p => Value.string (str p))[j]? = some v) : (w.alloc (.cells (splC s) T (0, 0))).cell? ((⟨w.heap.size, 0, none⟩ : Addr).add j) = some v := by
  rw [Addr.add_lit]
  have hg := heap_last w (.cells (splC s) T (0, 0))
  simp only [World.cell?, hg]
  unfold splC Lib.cellsOf
  rw [List.getElem?_toArray, Nat.zero_add, List.map_map]
  have hj := (List.getElem?_eq_some_iff.1 h).1
  rw [List.getElem?_append_left (by simpa using hj)]
  exact h
theorem sixC_at (s : List UInt8) (k : Nat) (hk : k < 6) : (sixC s).toArray[k]? = some (.string (str (sd s k))) := by
  unfold sixC
  rw [List.getElem?_toArray, List.getElem?_map, List.getElem?_range hk]; rfl
theorem spl_one (s : List UInt8) : ∀ v ∈ ((spl6 s).map fun p => Value.string (str p)), v.oneCell' = true := fun v hv => by
  obtain ⟨p, _, rfl⟩ := List.mem_map.1 hv; rfl
/-- Cells copied within a region into a block that is known whole. -/
theorem copy_at {P : Program} {w : World} {ops : Array Oper} {o : Oper} {ts : Array Value} {ds : List Deferred} {K : Act → World → Prop} {Q : Exit → Act → World → Prop} {E : Prop} (dd : Nat) (hdd : o.dst = some dd) (hw : Region.wanted o (yielded ops ts) = true) (d s : Operand) (dT sT : TypeId)
    (ho : o.op = .call { callee := .builtin .copy, args := #[d, s], argTypes := #[dT, sT] }) (elem : TypeId) (hu : P.underlying dT = some (.slice elem)) (hsz : (P.info? elem).map (·.size) = some 1)
    (g off dLen dCap : Nat) (ad : Addr) (sLen sCap : Nat) (hd : Act.eval { tmps := ts, defers := ds } d = .slice (some ⟨g, off, none⟩) dLen dCap) (hs : Act.eval { tmps := ts, defers := ds } s = .slice (some ad) sLen sCap)
    (cur : List Value) (t : TypeId) (hg : w.heap[g]? = some (.cells cur.toArray t (0, 0))) (cs : List Value) (hn : cs.length = Nat.min sLen dLen)
    (hsrc : ∀ j v, cs[j]? = some v → w.cell? (ad.add j) = some v) (hfit : off + cs.length ≤ cur.length) (h1 : ∀ v ∈ cs, v.oneCell' = true)
    (h : ∀ w', w'.heap[g]? = some (.cells (splice cur off cs).toArray t (0, 0)) → Solo g w w' → K { tmps := ts.setIfInBounds dd (goInt cs.length), defers := ds } w') :
    if Region.wanted o (yielded ops ts) = true then Oper.wp P o { tmps := ts, defers := ds } w K Q else E := by
  rw [if_pos hw]
  have hrun := run_copy_row (P := P) w dT sT o.type elem g off dLen dCap ad sLen sCap cur.toArray t cs hu hsz hg hn hsrc (by simpa using hfit) h1
  have hk := h (w.setRow g (splice cur off cs).toArray) (setRow_heap w g cur.toArray _ t _ hg) (solo_setRow w g _)
  unfold Oper.wp
  simp [execOp, ho, resolve, invoke, builtin, hd, hs, hrun, Result.andThen, Oper.upon, hdd, Act.put]
  exact hk
end Go.Proofs.YthkojphgjlojgaaDoor
namespace Go.Proofs.YthkojphgjlojgaaDoor
open Go.RowKit
/-- What worth answers. -/
def worthI (c : UInt8) : Nat := match fig c with | some n => n | none => 16
theorem worth_any (c : UInt8) (w : World) : Calls Tryd.prog 89 #[.int .u8 (c.toNat : Int)] w fun e w' => e = .returned (.int .u8 (worthI c : Int)) ∧ w = w' := by
  obtain ⟨x, hx⟩ : ∃ x : Nat, x = c.toNat := ⟨_, rfl⟩
  have hxlt := UInt8.toNat_lt c
  have HX := Lib.hid hx
  rw [← hx] at hxlt ⊢
  clear hx
  by_cases h1 : 48 ≤ x ∧ x ≤ 57
  · have HW := Lib.hid (show worthI c = x - 48 by unfold worthI fig; rw [← HX.out, if_pos h1])
    obtain ⟨d, hd⟩ : ∃ d : Nat, d = x - 48 := ⟨_, rfl⟩
    have b1 : decide ((48 : Int) ≤ (x : Int)) = true := decide_eq_true (by omega)
    have b2 : decide ((x : Int) ≤ 57) = true := decide_eq_true (by omega)
    have e1 : (x : Int) - 48 = (d : Int) := by omega
    have e2 : IntKind.u8.wrap (d : Int) = (d : Int) := by rw [IntKind.wrap_u8]; omega
    have HD := Lib.hid hd
    clear hd h1 hxlt
    go_enter Tryd.func89, Tryd.ntmps89
    go_wp2
    go_ret
    exact ⟨by rw [HW.out, ← HD.out]; rfl, rfl⟩
  · by_cases h2 : 97 ≤ x ∧ x ≤ 102
    · have HW := Lib.hid (show worthI c = x - 87 by unfold worthI fig; rw [← HX.out, if_neg h1, if_pos h2])
      obtain ⟨d, hd⟩ : ∃ d : Nat, d = x - 97 := ⟨_, rfl⟩
      obtain ⟨g, hg⟩ : ∃ g : Nat, g = d + 10 := ⟨_, rfl⟩
      have b1 : decide ((48 : Int) ≤ (x : Int)) = true := decide_eq_true (by omega)
      have b2 : decide ((x : Int) ≤ 57) = false := decide_eq_false (by omega)
      have b3 : decide ((97 : Int) ≤ (x : Int)) = true := decide_eq_true (by omega)
      have b4 : decide ((x : Int) ≤ 102) = true := decide_eq_true (by omega)
      have e1 : (x : Int) - 97 = (d : Int) := by omega
      have e2 : IntKind.u8.wrap (d : Int) = (d : Int) := by rw [IntKind.wrap_u8]; omega
      have e3 : (d : Int) + 10 = (g : Int) := by omega
      have e4 : IntKind.u8.wrap (g : Int) = (g : Int) := by rw [IntKind.wrap_u8]; omega
      have HD := Lib.hid (show g = x - 87 by omega)
      clear hd hg h1 h2 hxlt
      go_enter Tryd.func89, Tryd.ntmps89
      go_wp2
      go_ret
      exact ⟨by rw [HW.out, ← HD.out]; rfl, rfl⟩
    · have HW := Lib.hid (show worthI c = 16 by unfold worthI fig; rw [← HX.out, if_neg h1, if_neg h2])
      by_cases c1 : 48 ≤ x
      · have b1 : decide ((48 : Int) ≤ (x : Int)) = true := decide_eq_true (by omega)
        have b2 : decide ((x : Int) ≤ 57) = false := decide_eq_false (by omega)
        by_cases c2 : 97 ≤ x
        · have b3 : decide ((97 : Int) ≤ (x : Int)) = true := decide_eq_true (by omega)
          have b4 : decide ((x : Int) ≤ 102) = false := decide_eq_false (by omega)
          clear h1 h2 c1 c2 hxlt
          go_enter Tryd.func89, Tryd.ntmps89
          go_wp2
          go_ret
          exact ⟨by rw [HW.out]; rfl, rfl⟩
        · have b3 : decide ((97 : Int) ≤ (x : Int)) = false := decide_eq_false (by omega)
          clear h1 h2 c1 c2 hxlt
          go_enter Tryd.func89, Tryd.ntmps89
          go_wp2
          go_ret
          exact ⟨by rw [HW.out]; rfl, rfl⟩
      · have b1 : decide ((48 : Int) ≤ (x : Int)) = false := decide_eq_false (by omega)
        have b3 : decide ((97 : Int) ≤ (x : Int)) = false := decide_eq_false (by omega)
        clear h1 h2 c1 hxlt
        go_enter Tryd.func89, Tryd.ntmps89
        go_wp2
        go_ret
        exact ⟨by rw [HW.out]; rfl, rfl⟩
theorem dec_digs (m : Nat) : Lib.decDigits m = digs m := by
  induction m using Nat.strongRecOn with
  | _ m ih =>
    by_cases h : m < 10
    · rw [digs_lo m h, Lib.decDigits, dif_pos h]
    · rw [digs_hi m (by omega), Lib.decDigits, dif_neg h, ih _ (by omega)]
theorem itoa_num (n : Int) : Lib.itoa n = numL n := by
  unfold Lib.itoa numL
  by_cases h : n < 0
  · rw [if_pos h, if_pos h, dec_digs]
  · rw [if_neg h, if_neg h, dec_digs]; congr 1; omega
theorem number_any (w : World) (n : Int) (h0 : -9223372036854775808 ≤ n) (h1 : n < 9223372036854775808) (hT : PowTab w) :
    Calls Tryd.prog 48 #[.int .i64 n] w fun e w' => e = .returned (.string (str (numL n))) ∧ Below w.heap.size w w' := by
  have HC := Lib.hid (Tryd.strconv_FormatInt_10 n h0 (by omega) w hT)
  go_enter Tryd.func48, Tryd.ntmps48
  go_wp2_with (first | (go_at_call 77; refine HC.out.mono ?_; rintro e w' ⟨rfl, k, os, rfl⟩))
  go_ret
  exact ⟨by rw [itoa_num]; rfl, ⟨rfl, rfl, rfl, by simp [Sort.grow, World.drewN], fun i hi => Array.getElem?_append_left hi⟩⟩
theorem hex_at : ∀ a, a < 16 → ([48, 49, 50, 51, 52, 53, 54, 55, 56, 57, 97, 98, 99, 100, 101, 102] : List UInt8)[a]? = some (figure a) := by decide
theorem hex_ix (a : Nat) (ha : a < 16) (w : World) : (Instr.index 9 (.string ⟨#[48, 49, 50, 51, 52, 53, 54, 55, 56, 57, 97, 98, 99, 100, 101, 102]⟩) (.int .u8 (a : Int))).run Tryd.prog w = .ok (.int .u8 (figN a : Int)) w := by
  have h := index_str (P := Tryd.prog) w [48, 49, 50, 51, 52, 53, 54, 55, 56, 57, 97, 98, 99, 100, 101, 102] .u8 a (figure a) (hex_at a ha) Tryd.underlying9
  rwa [figure_toNat a ha] at h
theorem index_yields {P : Program} {ops : Array Oper} {S : World → Prop} {o : Oper} {a : Act} {u v r : Value} (hw : Region.wanted o (yielded ops a.tmps) = true) (t : TypeId) (x y : Operand) (ho : o.op = .index t x y) (hx : a.eval x = u) (hy : a.eval y = v)
    (h : ∀ w, (Instr.index t u v).run P w = .ok r w) : YieldsIf P ops S o r a := .inl ⟨hw, fun w _ => by
  simp only [execOp, ho, hx, hy, Sem.run_bind, h w, Result.andThen_ok, Sem.run_pure]⟩
theorem cellsOne : Tryd.prog.cellsOf 5 = 1 := by kernel_rfl
theorem and15 (x : Nat) (h : x < 256) : bits .and .u8 (x : Int) 15 = ((x % 16 : Nat) : Int) := by
  rw [show (15 : Int) = ((15 : Nat) : Int) from rfl, u8_and_nat x 15 h (by decide), Nat.and_two_pow_sub_one_eq_mod x 4]
set_option maxRecDepth 100000 in
set_option maxHeartbeats 2000000 in
theorem text_any (w : World) (f : Nat → BitVec 32) (hf : ∀ i, u32 (f i) < 256) : Calls Tryd.prog 47 #[.agg (row .u8 32 f)] w fun e w' => e = .returned (.string (str (textF f))) ∧ Below w.heap.size w w' := by
  obtain ⟨i0, hi, hz0, hz1, hz2⟩ := info_parts infoByte
  have HD := Lib.hid (heap_last w (.cells (row .u8 32 f) 34 (0, 0)))
  have HB := Lib.hid ((Below.refl w.heap.size w).alloc (Nat.le_refl _) (.cells (row .u8 32 f) 34 (0, 0)))
  go_enter Tryd.func47, Tryd.ntmps47
  go_wp2_with (first
    | (refine wpList_make_own _ rfl (.const (.int .i64 0)) (.const (.int .i64 64)) 100 rfl (w.heap.size + 1) 5 i0 (.int .u8 0) 1 Tryd.underlying100 hi hz0 hz1 .i64 .i64 64 64 rfl rfl rfl (by rw [hz2]; decide) (by decide) (by simp) ?_; intro w1 ho1 hg1; rw [size_of_alloc] at ho1; have HO1 := Lib.hid ho1; have HD1 := Lib.hid ((hg1.block w.heap.size (by simp) (fun h => by cases h)).trans HD.out); have HB1 := Lib.hid (below_grown HB.out hg1 (by simp) (fun k hk => by cases hk)); have HS1 := Lib.hid (show w.heap.size < w1.heap.size from Nat.lt_of_lt_of_le (by simp) hg1.size); clear ho1 hg1 HD HB)
    | (refine wpList_load_row rfl 34 (.tmp 1) rfl w.heap.size rfl 34 _ (0, 0) _ HD1.out Tryd.underlying34 rfl (by kernel_rfl) ?_))
  go_loopw [3, 5, 8] (fun v _ c wr => ∃ k : Nat, k ≤ 32 ∧ c = .int .i64 k ∧ (∃ ao cap, v = .slice ao (2 * k) cap) ∧ wr.ownsRow (w.heap.size + 1) 5 1 v ((textTo f k).map w8).length (bytesL ((textTo f k).map w8)) ∧ w.heap.size < wr.heap.size ∧ Below w.heap.size w wr) (fun _ _ c _ => 32 - (intOf c).toNat)
  case atStart => exact ⟨0, by omega, rfl, ⟨_, _, rfl⟩, HO1.out, HS1.out, HB1.out⟩
  case round =>
    clear HO1 HD1 HB1 HS1
    obtain ⟨k, hk, rfl, ⟨ao, cap, rfl⟩, hown, hs, hb⟩ := hrel
    have HO := Lib.hid hown
    have HB := Lib.hid hb
    have HS := Lib.hid hs
    clear hown hb hs
    by_cases h32 : k < 32
    · have q0 : (k : Int) < 32 := by omega
      obtain ⟨x, hx⟩ : ∃ x : Nat, x = (f k).toNat := ⟨_, rfl⟩
      have hx2 := hf k
      have ixR : ∀ w, (Instr.index 34 (.agg (row .u8 32 f)) (.int .i64 (k : Int))).run Tryd.prog w = .ok (.int .u8 (Go.Proofs.YthkojphgjlojgaaDoor.u32 (f k))) w := fun w => index_row w f k h32 Tryd.underlying34 Tryd.underlying5 cellsOne
      rw [show Go.Proofs.YthkojphgjlojgaaDoor.u32 (f k) = (x : Int) from by rw [hx]; rfl] at ixR hx2
      obtain ⟨a, ha⟩ : ∃ a : Nat, a = x / 16 := ⟨_, rfl⟩
      obtain ⟨b, hb'⟩ : ∃ b : Nat, b = x % 16 := ⟨_, rfl⟩
      have e1 : (x : Int) / 16 = (a : Int) := by omega
      have e2 : bits .and .u8 (x : Int) 15 = (b : Int) := by rw [hb']; exact and15 x (by omega)
      have ew : IntKind.u8.wrap (a : Int) = (a : Int) := by rw [IntKind.wrap_u8]; omega
      have ha16 : a < 16 := by omega
      have hb16 : b < 16 := by omega
      have ixA := hex_ix a ha16
      have ixB := hex_ix b hb16
      have HE := Lib.hid (show textTo f (k + 1) = textTo f k ++ [figure a, figure b] by rw [textTo_succ, ha, hb', hx])
      have hN := has_new wr 5 (0, 0) ([figure a, figure b].map w8)
      rw [show (bytesL ([figure a, figure b].map w8)).toArray = #[.int .u8 (figN a : Int), .int .u8 (figN b : Int)] by rw [bytesL_map]; simp [figure_toNat a ha16, figure_toNat b hb16]] at hN
      have HN := Lib.hid hN
      clear hN ha hb' hx
      go_wp2
      refine wp_region_held_drew (S := fun _ => True) (by kernel_rfl) trivial (fun hHeld => ?_)
      refine take_at (i := 0) 11 rfl rfl (by kernel_rfl) (by kernel_rfl) (by kernel_rfl) (fun _ _ _ h => h) (sure_yes (by rfl) (fun w => by go_simp; try with_reducible rfl)) trivial ?_
      simp only [List.setIfInBounds_toArray, List.set_cons_zero, List.set_cons_succ]
      refine take_at (i := 1) 12 rfl rfl (by kernel_rfl) (by kernel_rfl) (by kernel_rfl) (fun _ _ _ h => h) (sure_yes (by rfl) (fun w => by go_simp; try with_reducible rfl)) trivial ?_
      simp only [List.setIfInBounds_toArray, List.set_cons_zero, List.set_cons_succ]
      refine take_at (i := 2) 13 rfl rfl (by kernel_rfl) (by kernel_rfl) (by kernel_rfl) (fun _ _ _ h => h) (sure_yes (by rfl) (fun w => by go_simp; try with_reducible rfl)) trivial ?_
      simp only [List.setIfInBounds_toArray, List.set_cons_zero, List.set_cons_succ]
      refine take_at (i := 3) 14 rfl rfl (by kernel_rfl) (by kernel_rfl) (by kernel_rfl) (fun _ _ _ h => h) (index_yields (by rfl) 9 _ _ rfl rfl rfl ixA) trivial ?_
      simp only [List.setIfInBounds_toArray, List.set_cons_zero, List.set_cons_succ]
      refine take_at (i := 4) 15 rfl rfl (by kernel_rfl) (by kernel_rfl) (by kernel_rfl) (fun _ _ _ h => h) (sure_yes (by rfl) (fun w => by go_simp; try with_reducible rfl)) trivial ?_
      simp only [List.setIfInBounds_toArray, List.set_cons_zero, List.set_cons_succ]
      refine take_at (i := 5) 16 rfl rfl (by kernel_rfl) (by kernel_rfl) (by kernel_rfl) (fun _ _ _ h => h) (sure_yes (by rfl) (fun w => by go_simp; try with_reducible rfl)) trivial ?_
      simp only [List.setIfInBounds_toArray, List.set_cons_zero, List.set_cons_succ]
      refine take_at (i := 6) 17 rfl rfl (by kernel_rfl) (by kernel_rfl) (by kernel_rfl) (fun _ _ _ h => h) (index_yields (by rfl) 9 _ _ rfl rfl rfl ixB) trivial ?_
      simp only [List.setIfInBounds_toArray, List.set_cons_zero, List.set_cons_succ]
      refine wpAnyH_ready (rs := [7]) (by kernel_rfl) (by simp) ?_
      refine AllReadyH.cons rfl (fun K hK => ?_) AllReadyH.nil
      go_simp
      refine hK.out _ _ trivial (fun _ => ?_)
      clear hK K
      refine wpAnyH_ready (rs := [8]) (by kernel_rfl) (by simp) ?_
      refine AllReadyH.cons rfl (fun K hK => ?_) AllReadyH.nil
      refine append_has_wp 19 rfl (by rfl) (.tmp 11) (.tmp 18) 100 rfl (w.heap.size + 1) 5 i0 Tryd.underlying100 hi hz0 hz1 hz2 (.slice ao (2 * k) cap) ((textTo f k).map w8) ([figure a, figure b].map w8) rfl (HO.out.alloc _) (.slice (some ⟨wr.heap.size, 0, none⟩) 2 2) rfl HN.out (by simp [textTo_length]; omega) (by simp; have := HS.out; omega) ?_
      intro v1 w1 ho1 hg1 hn1
      have hrow := fun k hk => (HO.out.lt k hk).1
      refine hK.out _ _ trivial (fun _ => ?_)
      clear hK K
      obtain ⟨ao1, cap1, rfl⟩ := own_slice ho1
      have HO1 := Lib.hid ho1
      have HB1 := Lib.hid (below_grown (below_draws (HB.out.alloc HB.out.size _) 1) hg1 (by simp; have := HS.out; omega) (fun k hk => Nat.le_of_succ_le (hrow k hk)))
      have HS1 := Lib.hid (show w.heap.size < w1.heap.size from Nat.lt_of_lt_of_le HS.out (Nat.le_trans (by simp) hg1.size))
      clear ho1 hg1 hn1 hrow
      refine take_at (i := 9) 3 rfl rfl (by kernel_rfl) (by kernel_rfl) (by kernel_rfl) (fun _ _ _ h => h) (sure_yes (by rfl) (fun w => by go_simp; try with_reducible rfl)) trivial ?_
      simp only [List.setIfInBounds_toArray, List.set_cons_zero, List.set_cons_succ]
      refine wpAnyH_done (by kernel_rfl) ?_ _

      clear HO HB HN HS
      go_wp2
      have h := HO1.out
      rw [← List.map_append, ← HE.out, show ((textTo f (k + 1)).map w8).length = (textTo f k).length + 2 from by simp [textTo_length]; omega] at h
      refine ⟨⟨k + 1, by omega, by go_num, ⟨ao1, cap1, by rw [textTo_length]; rfl⟩, ?_, HS1.out, HB1.out⟩, by simp [intOf]; omega⟩
      rw [show ((textTo f (k + 1)).map w8).length = (textTo f k).length + 2 from by simp [textTo_length]; omega]
      exact h
    · obtain rfl : k = 32 := by omega
      have hcv := conv_text Tryd.underlying100 Tryd.underlying5 Tryd.underlying9 (show HasText wr _ (textF f) from has_of_own HO.out)
      clear HO hf
      go_wp2
      go_ret
      exact ⟨rfl, HB.out⟩
end Go.Proofs.YthkojphgjlojgaaDoor
namespace Go.Proofs.YthkojphgjlojgaaDoor
open Go.RowKit
theorem worth_dig {c : UInt8} (h : isDig c = true) : worthI c = c.toNat - 48 ∧ worthI c ≤ 9 := by
  simp only [isDig, Bool.and_eq_true, decide_eq_true_eq] at h
  have : worthI c = c.toNat - 48 := by unfold worthI fig; rw [if_pos h]
  omega
theorem worth_nodig {c : UInt8} (h : ¬ isDig c = true) : 9 < worthI c := by
  simp only [isDig, Bool.and_eq_true, decide_eq_true_eq] at h
  unfold worthI fig
  rw [if_neg h]
  by_cases h2 : 97 ≤ c.toNat ∧ c.toNat ≤ 102
  · rw [if_pos h2]; show 9 < c.toNat - 87; omega
  · rw [if_neg h2]; decide
theorem val_next (s : List UInt8) (k : Nat) (c : UInt8) (hc : s[k]? = some c) : valN (s.take (k + 1)) = 10 * valN (s.take k) + (c.toNat - 48) := by
  obtain ⟨hk, rfl⟩ := List.getElem?_eq_some_iff.1 hc
  rw [List.take_succ_eq_append_getElem hk, valN_snoc]
theorem val_take_le (s : List UInt8) (k m : Nat) (h : k ≤ m) : valN (s.take k) ≤ valN (s.take m) := by
  induction m with
  | zero => obtain rfl : k = 0 := by omega
            exact Nat.le_refl _
  | succ m ih =>
    rcases Nat.lt_or_ge k (m + 1) with h' | h'
    · have h1 := ih (by omega)
      rcases Nat.lt_or_ge m s.length with hm | hm
      · have := val_next s m s[m] (List.getElem?_eq_getElem hm); omega
      · rw [List.take_of_length_le (show s.length ≤ m + 1 by omega)]
        rwa [List.take_of_length_le hm] at h1
    · obtain rfl : k = m + 1 := by omega
      exact Nat.le_refl _
theorem num_over (s : List UInt8) (k : Nat) (c : UInt8) (hc : s[k]? = some c) (h : 9223372036854775808 ≤ 10 * valN (s.take k) + (c.toNat - 48)) : isNum s = false := by
  have h1 := val_next s k c hc
  have hk := (List.getElem?_eq_some_iff.1 hc).1
  have h2 := val_take_le s (k + 1) s.length (by omega)
  rw [List.take_length] at h2
  cases hn : isNum s with
  | false => rfl
  | true => have := (isNum_val hn).1; omega
theorem num_nodig (s : List UInt8) (c : UInt8) (hc : c ∈ s) (h : ¬ isDig c = true) : isNum s = false := by
  cases hn : isNum s with
  | false => rfl
  | true =>
    simp only [isNum, Bool.and_eq_true, List.all_eq_true] at hn
    exact absurd (hn.2.1 c hc) h
theorem digs_first (m : Nat) (h : (digs m)[0]? = some 48) : m = 0 := by
  induction m using Nat.strongRecOn with
  | _ m ih =>
    by_cases h10 : m < 10
    · rw [digs_lo m h10] at h
      have h1 : UInt8.ofNat (48 + m) = 48 := by simpa using h
      have h2 := dig_toNat m h10
      rw [h1, show (48 : UInt8).toNat = 48 from rfl] at h2
      omega
    · rw [digs_hi m (by omega), List.getElem?_append_left (digs_pos _)] at h
      have := ih (m / 10) (by omega) h
      omega
theorem num_lead (s : List UInt8) (h : s[0]? = some 48) (hs : s ≠ [48]) : isNum s = false := by
  cases hn : isNum s with
  | false => rfl
  | true =>
    have h1 := (isNum_val hn).2
    rw [← h1] at h
    have h2 := digs_first _ h
    rw [h2, digs_lo 0 (by omega)] at h1
    exact absurd h1.symm hs
theorem digs_val (n : Nat) : ∀ s : List UInt8, s.length = n → s ≠ [] → (∀ c ∈ s, isDig c = true) → (s[0]? = some 48 → s = [48]) → digs (valN s) = s := by
  induction n with
  | zero => intro s hl hne; exact absurd (List.eq_nil_of_length_eq_zero hl) hne
  | succ n ih =>
    intro s hl hne hd h0
    rcases List.eq_nil_or_concat s with rfl | ⟨t, c, rfl⟩
    · exact absurd rfl hne
    · rw [List.concat_eq_append] at *
      have hc := hd c (by simp)
      simp only [isDig, Bool.and_eq_true, decide_eq_true_eq] at hc
      have hcc : UInt8.ofNat (48 + (c.toNat - 48)) = c := by
        apply UInt8.toNat_inj.1
        rw [dig_toNat _ (by omega)]; omega
      rw [valN_snoc]
      by_cases ht : t = []
      · subst ht
        rw [valN_nil, digs_lo _ (by omega)]
        simp [hcc]
      · have ht0 : 0 < t.length := List.length_pos_iff.2 ht
        have hlt : t.length = n := by simpa using hl
        have hf : t[0]? ≠ some 48 := fun h => by
          have := h0 (by rw [List.getElem?_append_left ht0]; exact h)
          have := congrArg List.length this
          exact ht (by simpa using this)
        have h1 := ih t hlt ht (fun c hc => hd c (by simp [hc])) (fun h => absurd h hf)
        have hpos : 0 < valN t := by
          rcases Nat.eq_zero_or_pos (valN t) with h | h
          · rw [h, digs_lo 0 (by omega)] at h1
            rw [← h1] at hf
            exact absurd rfl hf
          · exact h
        rw [digs_hi _ (by omega), show (10 * valN t + (c.toNat - 48)) / 10 = valN t from by omega, show (10 * valN t + (c.toNat - 48)) % 10 = c.toNat - 48 from by omega, h1, hcc]
theorem num_good (s : List UInt8) (hne : s ≠ []) (hd : ∀ c ∈ s, isDig c = true) (h0 : s[0]? = some 48 → s = [48]) (hv : valN s < 9223372036854775808) : isNum s = true := by
  have h1 := digs_val s.length s rfl hne hd h0
  have h2 := digs_length 19 (valN s) (by omega) (by omega)
  rw [h1] at h2
  have he : s.isEmpty = false := by cases s with | nil => exact absurd rfl hne | cons a l => rfl
  have hall : s.all isDig = true := List.all_eq_true.2 hd
  simp [isNum, he, h2, hall, hv, h1]
theorem wrap_nat (p : Nat) (h : p < 9223372036854775808) : IntKind.i64.wrap (p : Int) = (p : Int) := by rw [IntKind.wrap_i64]; omega
theorem next_i64 (k : Nat) (h : k + 1 < 9223372036854775808) : wrap64 ((k : Int) + 1) = ((k + 1 : Nat) : Int) := by rw [wrap64]; omega
theorem read_step (v g : Nat) (hg : g ≤ 9) : ∃ M D : Int, (9223372036854775807 : Int) - (g : Int) = M ∧ IntKind.i64.wrap M = M ∧ M / (10 : Int) = D ∧ IntKind.i64.wrap D = D ∧ M.tdiv 10 = D ∧
    (D < (v : Int) → 9223372036854775808 ≤ 10 * v + g) ∧ (¬ D < (v : Int) → 10 * v + g < 9223372036854775808) := by
  refine ⟨_, _, rfl, by rw [IntKind.wrap_i64]; omega, rfl, by rw [IntKind.wrap_i64]; omega, Int.tdiv_eq_ediv_of_nonneg (by omega), fun h => by omega, fun h => by omega⟩
/-- What holds where a text that is no number's is left. -/
def LeftRead (s : List UInt8) (w : World) : Act → World → Prop := fun a' w' => (∃ u0' u1' u2' u3' u4' u5' u6' u7' u8' u9' u10' u11' u12' u13' u14' u15' u16' u17' u18' u19' u20' u21' u22' u23' u24' u25' u26' u27' u28' u29' u30' u31' u32' u33' u34' u35' u36' u37' u38' u39' u40' u41' u42' u43' u44' u45' u46' : Value, a' = { tmps := #[u0', u1', u2', u3', u4', u5', u6', u7', u8', u9', u10', u11', u12', u13', u14', u15', u16', u17', u18', u19', u20', u21', u22', u23', u24', u25', u26', u27', u28', u29', u30', u31', u32', u33', u34', u35', u36', u37', u38', u39', u40', u41', u42', u43', u44', u45', u46'], defers := [] }) ∧ isNum s = false ∧ w' = w
set_option maxRecDepth 100000 in
set_option maxHeartbeats 8000000 in
theorem read_any (w : World) (s : List UInt8) (most : Int) (hs : s.length < 9223372036854775808) : Calls Tryd.prog 71 #[.string (str s), .int .i64 most] w fun e w' => e = .returned (.tuple #[.int .i64 (readN s most), .int .i64 (readErr s most)]) ∧ Below w.heap.size w w' := by
  obtain ⟨n, hn⟩ : ∃ n, n = s.length := ⟨_, rfl⟩
  have HN := Lib.hid hn
  have hsz : (str s).size = n := by rw [str_size, hn]
  have hl : (str s).toList = s := str_toList s
  have HS := Lib.hid hs
  clear hn hs
  go_enter Tryd.func71, Tryd.ntmps71
  go_wp2
  refine wp_scope_jumps 0 (LeftRead s w) (fun _ _ => 0) rfl ?_ ?_
  · by_cases he : s = []
    · subst he
      go_wp2
      go_step3
      exact ⟨rfl, ⟨_, _, _, _, _, _, _, _, _, _, _, _, _, _, _, _, _, _, _, _, _, _, _, _, _, _, _, _, _, _, _, _, _, _, _, _, _, _, _, _, _, _, _, _, _, _, _, rfl⟩, rfl, rfl⟩
    · obtain ⟨c0, hc0⟩ : ∃ c, s[0]? = some c := by cases s with | nil => exact absurd rfl he | cons a l => exact ⟨a, rfl⟩
      obtain ⟨x, hx⟩ : ∃ x, c0.toNat = x := ⟨_, rfl⟩
      have i0 : ∀ w, (Instr.index 9 (.string (str s)) (.int .i64 0)).run Tryd.prog w = .ok (.int .u8 (x : Int)) w := fun w => by rw [← hx]; exact index_str (P := Tryd.prog) w s .i64 0 c0 hc0 Tryd.underlying9
      have te : (s == []) = false := by rw [beq_eq_false_iff_ne]; exact he
      have HX := Lib.hid (And.intro hx hc0)
      have HE := Lib.hid he
      clear hx hc0 he
      by_cases h48 : x = 48
      · have hc48 : s[0]? = some 48 := by
          rw [HX.out.2]; congr 1; exact UInt8.toNat_inj.1 (by rw [HX.out.1, h48]; rfl)
        replace i0 : ∀ w, (Instr.index 9 (.string (str s)) (.int .i64 0)).run Tryd.prog w = .ok (.int .u8 48) w := fun w => by have := i0 w; rwa [h48] at this
        clear HX h48
        by_cases hs48 : s = [48]
        · have HL := Lib.hid (show s[0]? = some 48 → s = [48] from fun _ => hs48)
          have tb : (s == [48]) = true := by rw [beq_iff_eq]; exact hs48
          clear hs48 hc48
          go_wp2
          clear tb te i0
          go_loopw [6, 22] (fun x c wr => wr = w ∧ ∃ k : Nat, k ≤ n ∧ c = .int .i64 k ∧ (∃ v : Nat, v = valN (s.take k) ∧ v < 9223372036854775808 ∧ x = .int .i64 v) ∧ ∀ j, j < k → ∀ c, s[j]? = some c → isDig c = true) (fun _ c _ => n - (intOf c).toNat)
          case atStart => exact ⟨rfl, 0, by omega, rfl, ⟨0, by rw [List.take_zero, valN_nil], by omega, rfl⟩, fun j hj => by omega⟩
          case round =>
            obtain ⟨rfl, k, hk, rfl, ⟨v, hv, hv63, rfl⟩, hall⟩ := hrel
            have HA := Lib.hid hall
            have HV := Lib.hid (And.intro hv hv63)
            clear hall hv hv63
            by_cases hlt : k < n
            · obtain ⟨c, hc⟩ : ∃ c, s[k]? = some c := ⟨s[k]'(by have := HN.out; omega), List.getElem?_eq_getElem _⟩
              have i1 := fun w => index_str (P := Tryd.prog) w s .i64 k c hc Tryd.underlying9
              have HC := Lib.hid hc
              have q0 : (k : Int) < (n : Int) := by omega
              have w64 := next_i64 k (by have := HS.out; have := HN.out; omega)
              obtain ⟨g, hg⟩ : ∃ g, worthI c = g := ⟨_, rfl⟩
              have HW := Lib.hid (show ∀ w, Calls Tryd.prog 89 #[.int .u8 (c.toNat : Int)] w fun e w' => e = .returned (.int .u8 (g : Int)) ∧ w = w' from fun w => by have := worth_any c w; rwa [hg] at this)
              have HG := Lib.hid hg
              clear hc hg
              by_cases hdg : isDig c = true
              · have hw9 := worth_dig hdg
                rw [HG.out] at hw9
                have hg9 : g ≤ 9 := hw9.2
                have t1 : decide ((9 : Int) < (g : Int)) = false := decide_eq_false (by omega)
                have e1 := wrap_nat g (by omega)
                obtain ⟨M, D, hM, e2, hD, e3, e3', hlow, hhigh⟩ := read_step v g hg9
                have HDG := Lib.hid hdg
                by_cases hov : D < (v : Int)
                · have t2 : decide (D < (v : Int)) = true := decide_eq_true hov
                  have HBAD := Lib.hid (show isNum s = false from num_over s k c HC.out (by rw [← HV.out.1, ← hw9.1]; exact hlow hov))
                  clear hov hg9 hw9 hdg hlow hhigh
                  go_wp2_with (first | (go_at_call 89; refine (HW.out _).mono ?_; rintro e w' ⟨rfl, rfl⟩))
                  go_step3
                  exact ⟨rfl, ⟨_, _, _, _, _, _, _, _, _, _, _, _, _, _, _, _, _, _, _, _, _, _, _, _, _, _, _, _, _, _, _, _, _, _, _, _, _, _, _, _, _, _, _, _, _, _, _, rfl⟩, HBAD.out, rfl⟩
                · have t2 : decide (D < (v : Int)) = false := decide_eq_false hov
                  obtain ⟨p, hp⟩ : ∃ p : Nat, p = 10 * v := ⟨_, rfl⟩
                  obtain ⟨q, hq⟩ : ∃ q : Nat, q = p + g := ⟨_, rfl⟩
                  have f1 : (10 : Int) * (v : Int) = (p : Int) := by omega
                  have hpq := hhigh hov
                  have f2 := wrap_nat p (by omega)
                  have f3 : (p : Int) + (g : Int) = (q : Int) := by omega
                  have f4 := wrap_nat q (by omega)
                  have HQ := Lib.hid (show q = valN (s.take (k + 1)) ∧ q < 9223372036854775808 from ⟨by rw [val_next s k c HC.out, ← HV.out.1, ← hw9.1, hq, hp], by omega⟩)
                  clear hov hg9 hw9 hdg hp hq hlow hhigh hpq
                  go_wp2_with (first | (go_at_call 89; refine (HW.out _).mono ?_; rintro e w' ⟨rfl, rfl⟩))
                  clear hM e2 hD e3 e3' f1 f2 f3 f4 e1 t1 t2
                  refine ⟨⟨trivial, k + 1, by omega, by go_num, ⟨q, HQ.out.1, HQ.out.2, rfl⟩, fun j hj c' hc' => ?_⟩, by rw [w64]; show n - ((k + 1 : Nat) : Int).toNat < n - (k : Int).toNat; rw [Int.toNat_natCast, Int.toNat_natCast]; omega⟩
                  rcases Nat.lt_or_ge j k with h | h
                  · exact HA.out j h c' hc'
                  · obtain rfl : j = k := by omega
                    rw [HC.out] at hc'; cases hc'; exact HDG.out
              · have hw9 := worth_nodig hdg
                rw [HG.out] at hw9
                have t1 : decide ((9 : Int) < (g : Int)) = true := decide_eq_true (by omega)
                have HBAD := Lib.hid (show isNum s = false from num_nodig s c (List.mem_of_getElem? HC.out) hdg)
                clear hw9 hdg
                go_wp2_with (first | (go_at_call 89; refine (HW.out _).mono ?_; rintro e w' ⟨rfl, rfl⟩))
                go_step3
                exact ⟨rfl, ⟨_, _, _, _, _, _, _, _, _, _, _, _, _, _, _, _, _, _, _, _, _, _, _, _, _, _, _, _, _, _, _, _, _, _, _, _, _, _, _, _, _, _, _, _, _, _, _, rfl⟩, HBAD.out, rfl⟩
            · obtain rfl : k = n := by omega
              have hq : decide ((k : Int) < (k : Int)) = false := decide_eq_false (by omega)
              have hnum : isNum s = true ∧ v = valN s := by
                have hv := HV.out.1
                rw [HN.out, List.take_length] at hv
                exact ⟨num_good s HE.out (fun c hc => by
                  obtain ⟨j, hj, rfl⟩ := List.mem_iff_getElem.1 hc
                  exact HA.out j (by rw [HN.out]; exact hj) _ (List.getElem?_eq_getElem hj)) HL.out (by rw [← hv]; exact HV.out.2), hv⟩
              by_cases hmo : most < (v : Int)
              · obtain ⟨h1, h2⟩ := read_over hnum.1 (show most < (valN s : Int) from hnum.2 ▸ hmo)
                have HP := Lib.hid (And.intro h1 h2)
                have t2 : decide (most < (v : Int)) = true := decide_eq_true hmo
                clear h1 h2 hnum hmo
                go_wp2
                simp only [Exit.jump]
                go_ret2
                exact ⟨by rw [HP.out.1, HP.out.2]; try rfl, Below.refl _ _⟩
              · obtain ⟨h1, h2⟩ := read_good hnum.1 (show ¬ most < (valN s : Int) from hnum.2 ▸ hmo)
                rw [← hnum.2] at h1
                have HP := Lib.hid (And.intro h1 h2)
                have t2 : decide (most < (v : Int)) = false := decide_eq_false hmo
                clear h1 h2 hnum hmo
                go_wp2
                simp only [Exit.jump]
                go_ret2
                exact ⟨by rw [HP.out.1, HP.out.2]; try rfl, Below.refl _ _⟩
        · have HBAD := Lib.hid (num_lead s hc48 hs48)
          have tb : (s == [48]) = false := by rw [beq_eq_false_iff_ne]; exact hs48
          clear hs48 hc48
          go_wp2
          go_step3
          exact ⟨rfl, ⟨_, _, _, _, _, _, _, _, _, _, _, _, _, _, _, _, _, _, _, _, _, _, _, _, _, _, _, _, _, _, _, _, _, _, _, _, _, _, _, _, _, _, _, _, _, _, _, rfl⟩, HBAD.out, rfl⟩
      · have tb : ((x : Int) == 48) = false := by rw [beq_eq_false_iff_ne]; omega
        have HL := Lib.hid (show s[0]? = some 48 → s = [48] from fun h => by
          rw [HX.out.2] at h; have h1 := HX.out.1; cases h; exact absurd h1.symm h48)
        clear HX h48
        go_wp2
        clear tb te i0
        go_loopw [6, 22] (fun x c wr => wr = w ∧ ∃ k : Nat, k ≤ n ∧ c = .int .i64 k ∧ (∃ v : Nat, v = valN (s.take k) ∧ v < 9223372036854775808 ∧ x = .int .i64 v) ∧ ∀ j, j < k → ∀ c, s[j]? = some c → isDig c = true) (fun _ c _ => n - (intOf c).toNat)
        case atStart => exact ⟨rfl, 0, by omega, rfl, ⟨0, by rw [List.take_zero, valN_nil], by omega, rfl⟩, fun j hj => by omega⟩
        case round =>
          obtain ⟨rfl, k, hk, rfl, ⟨v, hv, hv63, rfl⟩, hall⟩ := hrel
          have HA := Lib.hid hall
          have HV := Lib.hid (And.intro hv hv63)
          clear hall hv hv63
          by_cases hlt : k < n
          · obtain ⟨c, hc⟩ : ∃ c, s[k]? = some c := ⟨s[k]'(by have := HN.out; omega), List.getElem?_eq_getElem _⟩
            have i1 := fun w => index_str (P := Tryd.prog) w s .i64 k c hc Tryd.underlying9
            have HC := Lib.hid hc
            have q0 : (k : Int) < (n : Int) := by omega
            have w64 := next_i64 k (by have := HS.out; have := HN.out; omega)
            obtain ⟨g, hg⟩ : ∃ g, worthI c = g := ⟨_, rfl⟩
            have HW := Lib.hid (show ∀ w, Calls Tryd.prog 89 #[.int .u8 (c.toNat : Int)] w fun e w' => e = .returned (.int .u8 (g : Int)) ∧ w = w' from fun w => by have := worth_any c w; rwa [hg] at this)
            have HG := Lib.hid hg
            clear hc hg
            by_cases hdg : isDig c = true
            · have hw9 := worth_dig hdg
              rw [HG.out] at hw9
              have hg9 : g ≤ 9 := hw9.2
              have t1 : decide ((9 : Int) < (g : Int)) = false := decide_eq_false (by omega)
              have e1 := wrap_nat g (by omega)
              obtain ⟨M, D, hM, e2, hD, e3, e3', hlow, hhigh⟩ := read_step v g hg9
              have HDG := Lib.hid hdg
              by_cases hov : D < (v : Int)
              · have t2 : decide (D < (v : Int)) = true := decide_eq_true hov
                have HBAD := Lib.hid (show isNum s = false from num_over s k c HC.out (by rw [← HV.out.1, ← hw9.1]; exact hlow hov))
                clear hov hg9 hw9 hdg hlow hhigh
                go_wp2_with (first | (go_at_call 89; refine (HW.out _).mono ?_; rintro e w' ⟨rfl, rfl⟩))
                go_step3
                exact ⟨rfl, ⟨_, _, _, _, _, _, _, _, _, _, _, _, _, _, _, _, _, _, _, _, _, _, _, _, _, _, _, _, _, _, _, _, _, _, _, _, _, _, _, _, _, _, _, _, _, _, _, rfl⟩, HBAD.out, rfl⟩
              · have t2 : decide (D < (v : Int)) = false := decide_eq_false hov
                obtain ⟨p, hp⟩ : ∃ p : Nat, p = 10 * v := ⟨_, rfl⟩
                obtain ⟨q, hq⟩ : ∃ q : Nat, q = p + g := ⟨_, rfl⟩
                have f1 : (10 : Int) * (v : Int) = (p : Int) := by omega
                have hpq := hhigh hov
                have f2 := wrap_nat p (by omega)
                have f3 : (p : Int) + (g : Int) = (q : Int) := by omega
                have f4 := wrap_nat q (by omega)
                have HQ := Lib.hid (show q = valN (s.take (k + 1)) ∧ q < 9223372036854775808 from ⟨by rw [val_next s k c HC.out, ← HV.out.1, ← hw9.1, hq, hp], by omega⟩)
                clear hov hg9 hw9 hdg hp hq hlow hhigh hpq
                go_wp2_with (first | (go_at_call 89; refine (HW.out _).mono ?_; rintro e w' ⟨rfl, rfl⟩))
                clear hM e2 hD e3 e3' f1 f2 f3 f4 e1 t1 t2
                refine ⟨⟨trivial, k + 1, by omega, by go_num, ⟨q, HQ.out.1, HQ.out.2, rfl⟩, fun j hj c' hc' => ?_⟩, by rw [w64]; show n - ((k + 1 : Nat) : Int).toNat < n - (k : Int).toNat; rw [Int.toNat_natCast, Int.toNat_natCast]; omega⟩
                rcases Nat.lt_or_ge j k with h | h
                · exact HA.out j h c' hc'
                · obtain rfl : j = k := by omega
                  rw [HC.out] at hc'; cases hc'; exact HDG.out
            · have hw9 := worth_nodig hdg
              rw [HG.out] at hw9
              have t1 : decide ((9 : Int) < (g : Int)) = true := decide_eq_true (by omega)
              have HBAD := Lib.hid (show isNum s = false from num_nodig s c (List.mem_of_getElem? HC.out) hdg)
              clear hw9 hdg
              go_wp2_with (first | (go_at_call 89; refine (HW.out _).mono ?_; rintro e w' ⟨rfl, rfl⟩))
              go_step3
              exact ⟨rfl, ⟨_, _, _, _, _, _, _, _, _, _, _, _, _, _, _, _, _, _, _, _, _, _, _, _, _, _, _, _, _, _, _, _, _, _, _, _, _, _, _, _, _, _, _, _, _, _, _, rfl⟩, HBAD.out, rfl⟩
          · obtain rfl : k = n := by omega
            have hq : decide ((k : Int) < (k : Int)) = false := decide_eq_false (by omega)
            have hnum : isNum s = true ∧ v = valN s := by
              have hv := HV.out.1
              rw [HN.out, List.take_length] at hv
              exact ⟨num_good s HE.out (fun c hc => by
                obtain ⟨j, hj, rfl⟩ := List.mem_iff_getElem.1 hc
                exact HA.out j (by rw [HN.out]; exact hj) _ (List.getElem?_eq_getElem hj)) HL.out (by rw [← hv]; exact HV.out.2), hv⟩
            by_cases hmo : most < (v : Int)
            · obtain ⟨h1, h2⟩ := read_over hnum.1 (show most < (valN s : Int) from hnum.2 ▸ hmo)
              have HP := Lib.hid (And.intro h1 h2)
              have t2 : decide (most < (v : Int)) = true := decide_eq_true hmo
              clear h1 h2 hnum hmo
              go_wp2
              simp only [Exit.jump]
              go_ret2
              exact ⟨by rw [HP.out.1, HP.out.2]; try rfl, Below.refl _ _⟩
            · obtain ⟨h1, h2⟩ := read_good hnum.1 (show ¬ most < (valN s : Int) from hnum.2 ▸ hmo)
              rw [← hnum.2] at h1
              have HP := Lib.hid (And.intro h1 h2)
              have t2 : decide (most < (v : Int)) = false := decide_eq_false hmo
              clear h1 h2 hnum hmo
              go_wp2
              simp only [Exit.jump]
              go_ret2
              exact ⟨by rw [HP.out.1, HP.out.2]; try rfl, Below.refl _ _⟩
  · rintro a' w1 ⟨⟨u0', u1', u2', u3', u4', u5', u6', u7', u8', u9', u10', u11', u12', u13', u14', u15', u16', u17', u18', u19', u20', u21', u22', u23', u24', u25', u26', u27', u28', u29', u30', u31', u32', u33', u34', u35', u36', u37', u38', u39', u40', u41', u42', u43', u44', u45', u46', rfl⟩, hbad, rfl⟩
    obtain ⟨hp1, hp2⟩ := read_bad hbad most
    have HP := Lib.hid (And.intro hp1 hp2)
    clear hbad hp1 hp2 hl hsz
    go_wp2
    simp only [Exit.jump]
    go_ret2
    exact ⟨by rw [HP.out.1, HP.out.2]; try rfl, Below.refl _ _⟩
end Go.Proofs.YthkojphgjlojgaaDoor
