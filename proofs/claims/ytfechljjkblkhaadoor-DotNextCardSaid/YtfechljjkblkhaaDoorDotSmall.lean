/-
Whether a dot may be, and the next one, walked over the landed code.
-/
import Derived.Test.YtfechljjkblkhaaDoorDotHold
namespace Go.Proofs.YtfechljjkblkhaaDoor
open Go.RowKit
/-- May a replica have so many events so far, perhaps none? -/
def mayC (r q : Int) : Bool := decide (0 ≤ r ∧ r < 32 ∧ 0 ≤ q ∧ q ≤ 1099511627776)
set_option maxHeartbeats 4000000 in
theorem mayCount_any (r q : Int) (w : World) : Calls Tryd.prog 20 #[.agg #[.int .i64 r, .int .i64 q]] w fun e w' => e = .returned (.bool (mayC r q)) ∧ Below w.heap.size w w' := by
  have h1 := one_box w r q
  obtain ⟨c1, c2⟩ := dot_cells h1
  have B0 := Lib.hid ((Below.refl w.heap.size w).alloc (Nat.le_refl _) (dotO r q))
  clear h1
  unfold dotO at *
  go_enter Tryd.func20, Tryd.ntmps20
  go_wp2
  all_goals
    go_ret
    refine ⟨congrArg Ending.returned (show Value.bool _ = Value.bool _ from congrArg Value.bool ?_), B0.out⟩
    unfold mayC
    rw [Bool.eq_iff_iff]
    simp
    try omega
theorem mayC_q (r q : Int) : mayD r q = (mayC r q && decide (q > 0)) := by
  unfold mayD mayC
  rw [Bool.eq_iff_iff]
  simp
  omega
set_option maxHeartbeats 4000000 in
theorem may_any9 (r q : Int) (w : World) : Calls Tryd.prog 14 #[.agg #[.int .i64 r, .int .i64 q]] w fun e w' => e = .returned (.bool (mayD r q)) ∧ Below w.heap.size w w' := by
  have H1 := Lib.hid (one_box w r q)
  have B0 := Lib.hid ((Below.refl w.heap.size w).alloc (Nat.le_refl _) (dotO r q))
  have M1 := Lib.hid (mayCount_any r q)
  have HQ := Lib.hid (mayC_q r q)
  unfold dotO at *
  generalize mayC r q = m at *
  go_enter Tryd.func14, Tryd.ntmps14
  go_upto_region 1 with fail
  generalize w.alloc (.cells #[.int .i64 r, .int .i64 q] 23 (0, 0)) = W0 at *
  cases m with
  | true =>
    go_wp2_with (first
      | (refine load_row_on (by rfl) 23 (.tmp 1) rfl w.heap.size rfl 23 _ (0, 0) _ H1.out Tryd.underlying23 rfl (by kernel_rfl) ?_)
      | (go_at_call 20; refine (M1.out _).mono ?_; rintro e W1 ⟨rfl, hb⟩; have d1 := (dot_cells (row_kept H1.out hb)).2; have B1 := Lib.hid (below_next B0.out hb); clear hb))
    go_ret
    exact ⟨by rw [HQ.out]; try rfl, B1.out⟩
  | false =>
    go_wp2_with (first
      | (refine load_row_on (by rfl) 23 (.tmp 1) rfl w.heap.size rfl 23 _ (0, 0) _ H1.out Tryd.underlying23 rfl (by kernel_rfl) ?_)
      | (go_at_call 20; refine (M1.out _).mono ?_; rintro e W1 ⟨rfl, hb⟩; have B1 := Lib.hid (below_next B0.out hb); clear hb))
    go_ret
    exact ⟨by rw [HQ.out]; try rfl, B1.out⟩
theorem next_c (r q : Int) : (mayC r q = false ∧ nextR r q = 0 ∧ nextQ r q = 0 ∧ nextErr r q = 1) ∨ (mayC r q = true ∧ q = 1099511627776 ∧ nextR r q = 0 ∧ nextQ r q = 0 ∧ nextErr r q = 8) ∨ (mayC r q = true ∧ 0 ≤ q ∧ q < 1099511627776 ∧ nextR r q = r ∧ nextQ r q = q + 1 ∧ nextErr r q = 0) := by
  by_cases h : 0 ≤ r ∧ r < 32 ∧ 0 ≤ q ∧ q ≤ 1099511627776
  · have hm : mayC r q = true := decide_eq_true h
    by_cases hq : q = 1099511627776
    · have e : nextErr r q = 8 := by rw [nextErr, if_neg (by omega), if_pos hq]
      exact .inr (.inl ⟨hm, hq, by rw [nextR, e]; rfl, by rw [nextQ, e]; rfl, e⟩)
    · have e : nextErr r q = 0 := by rw [nextErr, if_neg (by omega), if_neg hq]
      exact .inr (.inr ⟨hm, by omega, by omega, by rw [nextR, e]; rfl, by rw [nextQ, e]; rfl, e⟩)
  · have e : nextErr r q = 1 := by rw [nextErr, if_pos (by omega)]
    exact .inl ⟨decide_eq_false h, by rw [nextR, e]; rfl, by rw [nextQ, e]; rfl, e⟩
set_option maxHeartbeats 8000000 in
theorem next_any (r q : Int) (w : World) : Calls Tryd.prog 10 #[.agg #[.int .i64 r, .int .i64 q]] w fun e w' => e = .returned (.tuple #[.agg #[.int .i64 (nextR r q), .int .i64 (nextQ r q)], .int .i64 (nextErr r q)]) ∧ Below w.heap.size w w' := by
  have h1 := one_box w r q
  have H1 := Lib.hid (show ((w.alloc (dotO r q)).alloc (.cells #[.int .i64 0, .int .i64 0] 23 (0, 0))).heap[w.heap.size]? = some (dotO r q) from row_kept h1 ((Below.refl (w.alloc (dotO r q)).heap.size _).alloc (Nat.le_refl _) _))
  have Z1 := Lib.hid (show ((w.alloc (dotO r q)).alloc (.cells #[.int .i64 0, .int .i64 0] 23 (0, 0))).heap[w.heap.size + 1]? = some (.cells #[.int .i64 0, .int .i64 0] 23 (0, 0)) by have := heap_last (w.alloc (dotO r q)) (.cells #[.int .i64 0, .int .i64 0] 23 (0, 0)); rwa [World.size_alloc] at this)
  have B0 := Lib.hid (((Below.refl w.heap.size w).alloc (Nat.le_refl _) (dotO r q)).alloc (by simp) (.cells #[.int .i64 0, .int .i64 0] 23 (0, 0)))
  have M1 := Lib.hid (mayCount_any r q)
  have HN := Lib.hid (next_c r q)
  clear h1
  unfold dotO at *
  go_enter Tryd.func10, Tryd.ntmps10
  go_upto_region 1 with fail
  generalize (w.alloc (.cells #[.int .i64 r, .int .i64 q] 23 (0, 0))).alloc (.cells #[.int .i64 0, .int .i64 0] 23 (0, 0)) = W0 at *
  rcases HN.out with ⟨hm, hr, hq, he⟩ | ⟨hm, q0, hr, hq, he⟩ | ⟨hm, q0, q1, hr, hq, he⟩
  · have HR := Lib.hid (And.intro hr (And.intro hq he))
    clear hr hq he HN
    rw [hm] at M1
    clear hm
    go_wp2_with (first
      | (refine load_row_on (by rfl) 23 (.tmp 1) rfl w.heap.size rfl 23 _ (0, 0) _ H1.out Tryd.underlying23 rfl (by kernel_rfl) ?_)
      | (go_at_call 20; refine (M1.out _).mono ?_; rintro e W1 ⟨rfl, hb⟩; have Z2 := Lib.hid (row_kept Z1.out hb); have B1 := Lib.hid (below_next B0.out hb); clear hb)
      | (refine build_on (by rfl) 23 #[] rfl _ _ dot_built0 (by simp [Act.eval]) ?_)
      | (refine wpList_store_row rfl 23 (.tmp 2) (.tmp 7) rfl (w.heap.size + 1) _ rfl rfl 23 _ Z2.out (by kernel_rfl) rfl (dot_one _ _) ?_))
    exact bodyPost_ret (results_cell2 Tryd.results10 _ _ (w.heap.size + 1) 23 _ (0, 0) _ _ rfl rfl (setRow_heap _ _ _ _ _ _ Z2.out) Tryd.underlying23 rfl (by kernel_rfl)) rfl ⟨by rw [HR.out.1, HR.out.2.1, HR.out.2.2]; rfl, below_setRow B1.out (by omega) _⟩
  · have HR := Lib.hid (And.intro hr (And.intro hq he))
    clear hr hq he HN
    rw [hm] at M1
    clear hm
    subst q0
    go_wp2_with (first
      | (refine load_row_on (by rfl) 23 (.tmp 1) rfl w.heap.size rfl 23 _ (0, 0) _ H1.out Tryd.underlying23 rfl (by kernel_rfl) ?_)
      | (go_at_call 20; refine (M1.out _).mono ?_; rintro e W1 ⟨rfl, hb⟩; have d1 := (dot_cells (row_kept H1.out hb)).2; have Z2 := Lib.hid (row_kept Z1.out hb); have B1 := Lib.hid (below_next B0.out hb); clear hb)
      | (refine build_on (by rfl) 23 #[] rfl _ _ dot_built0 (by simp [Act.eval]) ?_)
      | (refine wpList_store_row rfl 23 (.tmp 2) (.tmp 11) rfl (w.heap.size + 1) _ rfl rfl 23 _ Z2.out (by kernel_rfl) rfl (dot_one _ _) ?_))
    exact bodyPost_ret (results_cell2 Tryd.results10 _ _ (w.heap.size + 1) 23 _ (0, 0) _ _ rfl rfl (setRow_heap _ _ _ _ _ _ Z2.out) Tryd.underlying23 rfl (by kernel_rfl)) rfl ⟨by rw [HR.out.1, HR.out.2.1, HR.out.2.2]; rfl, below_setRow B1.out (by omega) _⟩
  · have HR := Lib.hid (And.intro hr (And.intro hq he))
    have t5 : (q == 1099511627776) = false := by rw [beq_eq_false_iff_ne]; omega
    have e1 : wrap64 (q + 1) = q + 1 := by rw [wrap64]; omega
    clear hr hq he HN q0 q1
    rw [hm] at M1
    clear hm
    go_wp2_with (first
      | (refine load_row_on (by rfl) 23 (.tmp 1) rfl w.heap.size rfl 23 _ (0, 0) _ H1.out Tryd.underlying23 rfl (by kernel_rfl) ?_)
      | (go_at_call 20; refine (M1.out _).mono ?_; rintro e W1 ⟨rfl, hb⟩; have d0 := (dot_cells (row_kept H1.out hb)).1; have d1 := (dot_cells (row_kept H1.out hb)).2; have Z2 := Lib.hid (row_kept Z1.out hb); have B1 := Lib.hid (below_next B0.out hb); clear hb)
      | (refine build_on (by rfl) 23 #[(0, .tmp 13), (1, .tmp 16)] rfl _ _ (dot_built _ _) (by simp [Act.eval]) ?_)
      | (refine wpList_store_row rfl 23 (.tmp 2) (.tmp 17) rfl (w.heap.size + 1) _ rfl rfl 23 _ Z2.out (by kernel_rfl) rfl (dot_one _ _) ?_))
    exact bodyPost_ret (results_cell2 Tryd.results10 _ _ (w.heap.size + 1) 23 _ (0, 0) _ _ rfl rfl (setRow_heap _ _ _ _ _ _ Z2.out) Tryd.underlying23 rfl (by kernel_rfl)) rfl ⟨by rw [HR.out.1, HR.out.2.1, HR.out.2.2]; rfl, below_setRow B1.out (by omega) _⟩
end Go.Proofs.YtfechljjkblkhaaDoor
