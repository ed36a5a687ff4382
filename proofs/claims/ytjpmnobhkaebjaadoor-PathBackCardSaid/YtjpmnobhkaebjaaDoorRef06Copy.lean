/-
What the document's own Copy returns: a copy's path.
-/
import Derived.Test.YtjpmnobhkaebjaaDoorRef06More
namespace Go.Proofs.YtjpmnobhkaebjaaDoor
open Go.RowKit
/-- Two texts one behind the other, as an operation, the whole under a name. -/
theorem add_as {P : Program} {o : Oper} {a : Act} {t rt : TypeId} {x y : Operand} {l m r : List UInt8} (ho : o.op = .binOp .add t x y rt) (hx : a.eval x = .string (str l)) (hy : a.eval y = .string (str m)) (hn : l.length + m.length ≤ 4611686018427387904) (hr : l ++ m = r) :
    ∀ w, (execOp a.eval o).run P w = .ok (.value (.string (str r))) w := by subst hr; exact add_op ho hx hy hn
set_option maxHeartbeats 4000000 in
theorem refCopy_any (s : List UInt8) (r q : Int) (hs : s.length < 1152921504606846976) (hr : -9223372036854775808 ≤ r ∧ r < 9223372036854775808) (hq : -9223372036854775808 ≤ q ∧ q < 9223372036854775808) (w : World) :
    Calls Tryd.prog 24 #[.string (str s), .agg #[.int .i64 r, .int .i64 q]] w fun e w' => e = .returned (.string (str (copyL s r q))) ∧ Below w.heap.size w w' := by
  have N1 := Lib.hid (refNumber_any r hr.1 hr.2)
  have N2 := Lib.hid (refNumber_any q hq.1 hq.2)
  have HL := Lib.hid (And.intro hs (And.intro (numL_length r hr.1 hr.2) (numL_length q hq.1 hq.2)))
  obtain ⟨R, hR⟩ : ∃ R, numL r = R := ⟨_, rfl⟩
  obtain ⟨Q, hQ⟩ : ∃ Q, numL q = Q := ⟨_, rfl⟩
  obtain ⟨A1, hA1⟩ : ∃ A1, s ++ [126] = A1 := ⟨_, rfl⟩
  obtain ⟨A2, hA2⟩ : ∃ A2, A1 ++ R = A2 := ⟨_, rfl⟩
  obtain ⟨A3, hA3⟩ : ∃ A3, A2 ++ [45] = A3 := ⟨_, rfl⟩
  obtain ⟨A4, hA4⟩ : ∃ A4, A3 ++ Q = A4 := ⟨_, rfl⟩
  have HE := Lib.hid (show A4 = copyL s r q by rw [← hA4, ← hA3, ← hA2, ← hA1, ← hR, ← hQ]; simp [copyL])
  have hA := Lib.hid (And.intro hA1 (And.intro hA2 (And.intro hA3 hA4)))
  rw [hR] at N1 HL
  rw [hQ] at N2 HL
  have c0 : (w.alloc (.cells #[.int .i64 r, .int .i64 q] 35 (0, 0))).cell? ⟨w.heap.size, 0, none⟩ = some (.int .i64 r) := by rw [cell_of_row _ _ 0 _ _ _ (heap_last w _)]; rfl
  have c1 : (w.alloc (.cells #[.int .i64 r, .int .i64 q] 35 (0, 0))).cell? ⟨w.heap.size, 1, none⟩ = some (.int .i64 q) := by rw [cell_of_row _ _ 1 _ _ _ (heap_last w _)]; rfl
  have B0 := Lib.hid ((Below.refl w.heap.size w).alloc (Nat.le_refl _) (.cells #[.int .i64 r, .int .i64 q] 35 (0, 0)))
  clear hs hr hq hR hQ hA1 hA2 hA3 hA4
  go_enter Tryd.func24, Tryd.ntmps24
  go_wp2
  refine wp_region_held_drew (S := fun w' => Below (w.alloc (.cells #[.int .i64 r, .int .i64 q] 35 (0, 0))).heap.size (w.alloc (.cells #[.int .i64 r, .int .i64 q] 35 (0, 0))) w') (by kernel_rfl) (below_draws (Below.refl _ _) 1) (fun hHeld => ?_)
  generalize (w.alloc (.cells #[.int .i64 r, .int .i64 q] 35 (0, 0))).drew = wd at hHeld ⊢
  refine take_at (i := 0) 5 rfl rfl (by kernel_rfl) (by kernel_rfl) (by kernel_rfl) (fun _ _ _ h => h) (sure_yes (by rfl) (fun w => by go_simp; try with_reducible rfl)) hHeld ?_
  simp only [List.setIfInBounds_toArray, List.set_cons_zero, List.set_cons_succ]
  refine take_at (i := 1) 6 rfl rfl (by kernel_rfl) (by kernel_rfl) (by kernel_rfl) (fun _ _ _ h => h) (sure_yes (by rfl) (add_as (l := s) (m := [126]) rfl rfl rfl (by have h1 := HL.out.1; have h2 := HL.out.2.1; have h3 := HL.out.2.2; have e1 := congrArg List.length hA.out.1; have e2 := congrArg List.length hA.out.2.1; have e3 := congrArg List.length hA.out.2.2.1; simp at e1 e2 e3 ⊢; omega) hA.out.1)) hHeld ?_
  simp only [List.setIfInBounds_toArray, List.set_cons_zero, List.set_cons_succ]
  refine take_at (i := 2) 7 rfl rfl (by kernel_rfl) (by kernel_rfl) (by kernel_rfl) (fun _ _ _ h => h) (sure_yes (by rfl) (fun w => by go_simp; try with_reducible rfl)) hHeld ?_
  simp only [List.setIfInBounds_toArray, List.set_cons_zero, List.set_cons_succ]
  refine take_at (i := 7) 12 rfl rfl (by kernel_rfl) (by kernel_rfl) (by kernel_rfl) (fun _ _ _ h => h) (sure_yes (by rfl) (fun w => by go_simp; try with_reducible rfl)) hHeld ?_
  simp only [List.setIfInBounds_toArray, List.set_cons_zero, List.set_cons_succ]
  refine take_at (i := 3) 8 rfl rfl (by kernel_rfl) (by kernel_rfl) (by kernel_rfl) (fun _ _ _ h => h) (cell_yields (by rfl) 3 (.tmp 7) rfl w.heap.size 0 rfl .i64 r Tryd.underlying3 (fun w' h => (cell_same (h.block w.heap.size (by simp)) 0).trans c0)) hHeld ?_
  simp only [List.setIfInBounds_toArray, List.set_cons_zero, List.set_cons_succ]
  refine take_at (i := 8) 13 rfl rfl (by kernel_rfl) (by kernel_rfl) (by kernel_rfl) (fun _ _ _ h => h) (cell_yields (by rfl) 2 (.tmp 12) rfl w.heap.size 1 rfl .i64 q Tryd.underlying2 (fun w' h => (cell_same (h.block w.heap.size (by simp)) 1).trans c1)) hHeld ?_
  simp only [List.setIfInBounds_toArray, List.set_cons_zero, List.set_cons_succ]
  refine wpAnyH_ready (rs := [4]) (by kernel_rfl) (by simp) ?_
  refine AllReadyH.cons rfl (fun K hK => ?_) AllReadyH.nil
  go_simp
  go_at_call 31
  refine (N1.out _).mono ?_
  rintro e w2 ⟨rfl, hb⟩
  dsimp only
  refine hK.out _ _ (below_next hHeld hb) (fun hHeld => ?_)
  clear hK K hb
  refine take_at (i := 5) 10 rfl rfl (by kernel_rfl) (by kernel_rfl) (by kernel_rfl) (fun _ _ _ h => h) (sure_yes (by rfl) (add_as (l := A1) (m := R) rfl rfl rfl (by have h1 := HL.out.1; have h2 := HL.out.2.1; have h3 := HL.out.2.2; have e1 := congrArg List.length hA.out.1; have e2 := congrArg List.length hA.out.2.1; have e3 := congrArg List.length hA.out.2.2.1; simp at e1 e2 e3 ⊢; omega) hA.out.2.1)) hHeld ?_
  simp only [List.setIfInBounds_toArray, List.set_cons_zero, List.set_cons_succ]
  refine take_at (i := 6) 11 rfl rfl (by kernel_rfl) (by kernel_rfl) (by kernel_rfl) (fun _ _ _ h => h) (sure_yes (by rfl) (add_as (l := A2) (m := [45]) rfl rfl rfl (by have h1 := HL.out.1; have h2 := HL.out.2.1; have h3 := HL.out.2.2; have e1 := congrArg List.length hA.out.1; have e2 := congrArg List.length hA.out.2.1; have e3 := congrArg List.length hA.out.2.2.1; simp at e1 e2 e3 ⊢; omega) hA.out.2.2.1)) hHeld ?_
  simp only [List.setIfInBounds_toArray, List.set_cons_zero, List.set_cons_succ]
  refine wpAnyH_ready (rs := [9]) (by kernel_rfl) (by simp) ?_
  refine AllReadyH.cons rfl (fun K hK => ?_) AllReadyH.nil
  go_simp
  go_at_call 31
  refine (N2.out _).mono ?_
  rintro e w2 ⟨rfl, hb⟩
  dsimp only
  refine hK.out _ _ (below_next hHeld hb) (fun hHeld => ?_)
  clear hK K hb
  refine take_at (i := 10) 15 rfl rfl (by kernel_rfl) (by kernel_rfl) (by kernel_rfl) (fun _ _ _ h => h) (sure_yes (by rfl) (add_as (l := A3) (m := Q) rfl rfl rfl (by have h1 := HL.out.1; have h2 := HL.out.2.1; have h3 := HL.out.2.2; have e1 := congrArg List.length hA.out.1; have e2 := congrArg List.length hA.out.2.1; have e3 := congrArg List.length hA.out.2.2.1; simp at e1 e2 e3 ⊢; omega) hA.out.2.2.2)) hHeld ?_
  simp only [List.setIfInBounds_toArray, List.set_cons_zero, List.set_cons_succ]
  refine take_at (i := 11) 4 rfl rfl (by kernel_rfl) (by kernel_rfl) (by kernel_rfl) (fun _ _ _ h => h) (sure_yes (by rfl) (fun w => by go_simp; try with_reducible rfl)) hHeld ?_
  simp only [List.setIfInBounds_toArray, List.set_cons_zero, List.set_cons_succ]
  refine wpAnyH_done (by kernel_rfl) ?_ _
  go_wp2
  go_ret
  exact ⟨by rw [← HE.out]; rfl, below_next B0.out hHeld⟩
end Go.Proofs.YtjpmnobhkaebjaaDoor
