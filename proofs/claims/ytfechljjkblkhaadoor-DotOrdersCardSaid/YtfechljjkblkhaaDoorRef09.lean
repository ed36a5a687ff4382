/-
What the document's own answers for layer 9 return: two dots' order, whether one may be, the next one, texts.
-/
import Derived.Test.YtfechljjkblkhaaDoorDot
import Derived.Test.YtfechljjkblkhaaDoorRef04Read
import Derived.Test.YtfechljjkblkhaaDoorRef06Copy
import Derived.Test.YtfechljjkblkhaaDoorHexaFace
import Derived.BigQuiet
import Derived.Deep.DeepCutAuto
import Derived.Deep.QuietTactic
namespace Go.Proofs.YtfechljjkblkhaaDoor
open Go.RowKit
/-- A dot's cells, just boxed. -/
def dotO (r q : Int) : Obj := .cells #[.int .i64 r, .int .i64 q] 23 (0, 0)
theorem dot_cells {w : World} {g : Nat} {r q : Int} (h : w.heap[g]? = some (dotO r q)) : w.cell? ⟨g, 0, none⟩ = some (.int .i64 r) ∧ w.cell? ⟨g, 1, none⟩ = some (.int .i64 q) :=
  ⟨by rw [cell_of_row _ _ 0 _ _ _ h]; rfl, by rw [cell_of_row _ _ 1 _ _ _ h]; rfl⟩
theorem two_boxes (w : World) (r q r' q' : Int) : ((w.alloc (dotO r q)).alloc (dotO r' q')).heap[w.heap.size]? = some (dotO r q) ∧ ((w.alloc (dotO r q)).alloc (dotO r' q')).heap[w.heap.size + 1]? = some (dotO r' q') := by
  constructor
  · rw [heap_at_alloc, if_neg (by simp)]; exact heap_last _ _
  · have := heap_last (w.alloc (dotO r q)) (dotO r' q'); rwa [World.size_alloc] at this
set_option maxHeartbeats 4000000 in
theorem refCompare_any (r q r' q' : Int) (w : World) : Calls Tryd.prog 13 #[.agg #[.int .i64 r, .int .i64 q], .agg #[.int .i64 r', .int .i64 q']] w fun e w' => e = .returned (.int .i64 (cmpD r q r' q')) ∧ Below w.heap.size w w' := by
  obtain ⟨h1, h2⟩ := two_boxes w r q r' q'
  obtain ⟨c1, c2⟩ := dot_cells h1
  obtain ⟨d1, d2⟩ := dot_cells h2
  have H1 := Lib.hid h1
  have H2 := Lib.hid h2
  have B0 := Lib.hid (((Below.refl w.heap.size w).alloc (Nat.le_refl _) (dotO r q)).alloc (by simp) (dotO r' q'))
  have HC := Lib.hid (cmp_cases r q r' q')
  clear h1 h2
  unfold dotO at *
  go_enter Tryd.func13, Tryd.ntmps13
  go_upto_region 1 with fail
  generalize (w.alloc (.cells #[.int .i64 r, .int .i64 q] 23 (0, 0))).alloc (.cells #[.int .i64 r', .int .i64 q'] 23 (0, 0)) = W0 at *
  clear HC
  go_wp2_with (first
    | (refine load_row_on (by rfl) 23 (.tmp 2) rfl w.heap.size rfl 23 _ (0, 0) _ H1.out Tryd.underlying23 rfl (by kernel_rfl) ?_)
    | (refine load_row_on (by rfl) 23 (.tmp 3) rfl (w.heap.size + 1) rfl 23 _ (0, 0) _ H2.out Tryd.underlying23 rfl (by kernel_rfl) ?_))
  all_goals
    go_ret
    refine ⟨congrArg Ending.returned (show Value.int .i64 _ = Value.int .i64 _ from congrArg _ ?_), B0.out⟩
    unfold cmpD
    split <;> (try split) <;> (try omega)
  all_goals trace_state
/-- A dot's own box. -/
theorem one_box (w : World) (r q : Int) : (w.alloc (dotO r q)).heap[w.heap.size]? = some (dotO r q) := heap_last _ _
set_option maxHeartbeats 4000000 in
theorem refMay_any9 (r q : Int) (w : World) : Calls Tryd.prog 15 #[.agg #[.int .i64 r, .int .i64 q]] w fun e w' => e = .returned (.bool (mayD r q)) ∧ Below w.heap.size w w' := by
  have h1 := one_box w r q
  obtain ⟨c1, c2⟩ := dot_cells h1
  have B0 := Lib.hid ((Below.refl w.heap.size w).alloc (Nat.le_refl _) (dotO r q))
  clear h1
  unfold dotO at *
  go_enter Tryd.func15, Tryd.ntmps15
  go_wp2
  all_goals
    go_ret
    refine ⟨congrArg Ending.returned (show Value.bool _ = Value.bool _ from congrArg Value.bool ?_), B0.out⟩
    unfold mayD
    rw [Bool.eq_iff_iff]
    simp
    try omega
theorem dot_built (r q : Int) : Tryd.prog.built 23 [(0, .int .i64 r), (1, .int .i64 q)] = some #[.int .i64 r, .int .i64 q] := by rfl
theorem dot_built0 : Tryd.prog.built 23 [] = some #[.int .i64 0, .int .i64 0] := by kernel_rfl
set_option maxHeartbeats 4000000 in
theorem refNext_any (r q : Int) (w : World) : Calls Tryd.prog 11 #[.agg #[.int .i64 r, .int .i64 q]] w fun e w' => e = .returned (.tuple #[.agg #[.int .i64 (nextR r q), .int .i64 (nextQ r q)], .int .i64 (nextErr r q)]) ∧ Below w.heap.size w w' := by
  have h1 := one_box w r q
  obtain ⟨c1, c2⟩ := dot_cells h1
  have B0 := Lib.hid ((Below.refl w.heap.size w).alloc (Nat.le_refl _) (dotO r q))
  clear h1
  unfold dotO at *
  have BB := Lib.hid (fun o => B0.out.alloc B0.out.size o)
  have HL := Lib.hid (fun o => show ((w.alloc (.cells #[.int .i64 r, .int .i64 q] 23 (0, 0))).alloc o).heap[w.heap.size + 1]? = some o by have := heap_last (w.alloc (.cells #[.int .i64 r, .int .i64 q] 23 (0, 0))) o; rwa [World.size_alloc] at this)
  rcases next_cases r q with ⟨h0, hin⟩ | ⟨h18, hout⟩
  · have e1 : wrap64 (q + 1) = q + 1 := by rw [wrap64]; omega
    have t1 : ¬ r < 0 := by omega
    have t2 : ¬ r > 31 := by omega
    have t3 : ¬ q < 0 := by omega
    have t4 : ¬ q > 1099511627776 := by omega
    have t5 : (q == 1099511627776) = false := by rw [beq_eq_false_iff_ne]; omega
    have HR := Lib.hid (show nextR r q = r ∧ nextQ r q = q + 1 ∧ nextErr r q = 0 from ⟨by rw [nextR, if_pos h0], by rw [nextQ, if_pos h0], h0⟩)
    clear h0 hin
    go_enter Tryd.func11, Tryd.ntmps11
    go_wp2_with (first
      | (refine build_on (by rfl) 23 #[(0, .tmp 28), (1, .tmp 31)] rfl _ _ (dot_built _ _) (by simp [Act.eval]) ?_))
    exact bodyPost_ret (results_cell2 Tryd.results11 _ _ (w.heap.size + 1) 23 _ (0, 0) _ _ rfl rfl (HL.out _) Tryd.underlying23 rfl (by kernel_rfl)) rfl ⟨by rw [HR.out.1, HR.out.2.1, HR.out.2.2]; rfl, BB.out _⟩
  · rcases h18 with h1 | h8
    · have HR := Lib.hid (show nextR r q = 0 ∧ nextQ r q = 0 ∧ nextErr r q = 1 from ⟨by rw [nextR, if_neg (by omega)], by rw [nextQ, if_neg (by omega)], h1⟩)
      have hc : r < 0 ∨ 31 < r ∨ q < 0 ∨ 1099511627776 < q := by
        unfold nextErr at h1
        by_cases h : r < 0 ∨ 31 < r ∨ q < 0 ∨ 1099511627776 < q
        · exact h
        · rw [if_neg h] at h1; split at h1 <;> cases h1
      clear h1 hout
      by_cases t1 : r < 0
      · clear hc
        go_enter Tryd.func11, Tryd.ntmps11
        go_wp2_with (first | (refine build_on (by rfl) 23 #[] rfl _ _ dot_built0 (by simp [Act.eval]) ?_))
        exact bodyPost_ret (results_cell2 Tryd.results11 _ _ (w.heap.size + 1) 23 _ (0, 0) _ _ rfl rfl (HL.out _) Tryd.underlying23 rfl (by kernel_rfl)) rfl ⟨by rw [HR.out.1, HR.out.2.1, HR.out.2.2]; rfl, BB.out _⟩
      by_cases t2 : r > 31
      · clear hc
        go_enter Tryd.func11, Tryd.ntmps11
        go_wp2_with (first | (refine build_on (by rfl) 23 #[] rfl _ _ dot_built0 (by simp [Act.eval]) ?_))
        exact bodyPost_ret (results_cell2 Tryd.results11 _ _ (w.heap.size + 1) 23 _ (0, 0) _ _ rfl rfl (HL.out _) Tryd.underlying23 rfl (by kernel_rfl)) rfl ⟨by rw [HR.out.1, HR.out.2.1, HR.out.2.2]; rfl, BB.out _⟩
      by_cases t3 : q < 0
      · clear hc
        go_enter Tryd.func11, Tryd.ntmps11
        go_wp2_with (first | (refine build_on (by rfl) 23 #[] rfl _ _ dot_built0 (by simp [Act.eval]) ?_))
        exact bodyPost_ret (results_cell2 Tryd.results11 _ _ (w.heap.size + 1) 23 _ (0, 0) _ _ rfl rfl (HL.out _) Tryd.underlying23 rfl (by kernel_rfl)) rfl ⟨by rw [HR.out.1, HR.out.2.1, HR.out.2.2]; rfl, BB.out _⟩
      have t4 : q > 1099511627776 := by omega
      clear hc
      go_enter Tryd.func11, Tryd.ntmps11
      go_wp2_with (first | (refine build_on (by rfl) 23 #[] rfl _ _ dot_built0 (by simp [Act.eval]) ?_))
      exact bodyPost_ret (results_cell2 Tryd.results11 _ _ (w.heap.size + 1) 23 _ (0, 0) _ _ rfl rfl (HL.out _) Tryd.underlying23 rfl (by kernel_rfl)) rfl ⟨by rw [HR.out.1, HR.out.2.1, HR.out.2.2]; rfl, BB.out _⟩
    · have HR := Lib.hid (show nextR r q = 0 ∧ nextQ r q = 0 ∧ nextErr r q = 8 from ⟨by rw [nextR, if_neg (by omega)], by rw [nextQ, if_neg (by omega)], h8⟩)
      have hc : q = 1099511627776 ∧ ¬ r < 0 ∧ ¬ r > 31 := by
        unfold nextErr at h8
        by_cases h : r < 0 ∨ 31 < r ∨ q < 0 ∨ 1099511627776 < q
        · rw [if_pos h] at h8; cases h8
        · rw [if_neg h] at h8
          by_cases h2 : q = 1099511627776
          · exact ⟨h2, by omega, by omega⟩
          · rw [if_neg h2] at h8; cases h8
      obtain ⟨rfl, t1, t2⟩ := hc
      clear h8 hout
      go_enter Tryd.func11, Tryd.ntmps11
      go_wp2_with (first | (refine build_on (by rfl) 23 #[] rfl _ _ dot_built0 (by simp [Act.eval]) ?_))
      exact bodyPost_ret (results_cell2 Tryd.results11 _ _ (w.heap.size + 1) 23 _ (0, 0) _ _ rfl rfl (HL.out _) Tryd.underlying23 rfl (by kernel_rfl)) rfl ⟨by rw [HR.out.1, HR.out.2.1, HR.out.2.2]; rfl, BB.out _⟩
end Go.Proofs.YtfechljjkblkhaaDoor
