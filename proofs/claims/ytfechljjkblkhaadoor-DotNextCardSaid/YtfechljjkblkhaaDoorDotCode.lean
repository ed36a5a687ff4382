/-
What package dot owes, as the landed code gives it.
-/
import Derived.Test.YtfechljjkblkhaaDoorDotText
import Derived.Test.YtfechljjkblkhaaDoorDotCut
namespace Go.Proofs.YtfechljjkblkhaaDoor
open Go.RowKit
theorem ahead_le (s : List UInt8) : (aheadD s).length ≤ s.length := (List.takeWhile_sublist _).length_le
theorem behind_le (s : List UInt8) : (behindD s).length ≤ s.length := by unfold behindD; rw [List.length_drop]; omega
set_option maxHeartbeats 8000000 in
theorem parse_any9 (s : List UInt8) (hs : s.length < 1152921504606846976) (w : World) : Calls Tryd.prog 16 #[.string (str s)] w fun e w' => e = .returned (.tuple #[.agg #[.int .i64 (parR s), .int .i64 (parQ s)], .int .i64 (parErr s)]) ∧ Below w.heap.size w w' := by
  have HC := Lib.hid (fun w => cut_any s hs w)
  have RA := Lib.hid (fun w => read_any w (aheadD s) 31 (by have := ahead_le s; omega))
  have RB := Lib.hid (fun w => read_any w (behindD s) 1099511627776 (by have := behind_le s; omega))
  have HD := Lib.hid (show isDot s = (s.contains 58 && (readErr (aheadD s) 31 == 0 && (readErr (behindD s) 1099511627776 == 0 && mayD (readN (aheadD s) 31) (readN (behindD s) 1099511627776)))) from rfl)
  have HP := Lib.hid (show parErr s = (if isDot s then 0 else 2) ∧ parR s = (if isDot s then readN (aheadD s) 31 else 0) ∧ parQ s = (if isDot s then readN (behindD s) 1099511627776 else 0) from ⟨rfl, rfl, rfl⟩)
  clear hs
  generalize readN (aheadD s) 31 = r at *
  generalize readN (behindD s) 1099511627776 = q at *
  generalize readErr (aheadD s) 31 = e1 at *
  generalize readErr (behindD s) 1099511627776 = e2 at *
  generalize aheadD s = X at *
  generalize behindD s = Y at *
  generalize s.contains 58 = c at *
  have M1 := Lib.hid (fun w => may_any9 r q w)
  have B0 := Lib.hid ((Below.refl w.heap.size w).alloc (Nat.le_refl _) (.cells #[.int .i64 0, .int .i64 0] 23 (0, 0)))
  have H0 := Lib.hid (heap_last w (.cells #[.int .i64 0, .int .i64 0] 23 (0, 0)))
  go_enter Tryd.func16, Tryd.ntmps16
  go_upto_region 1 with fail
  generalize w.alloc (.cells #[.int .i64 0, .int .i64 0] 23 (0, 0)) = W0 at *
  go_upto_region 2 with (first | (go_at_call 24; refine (HC.out _).mono ?_; rintro e W1 ⟨rfl, hb⟩; have G1 := Lib.hid (row_kept H0.out hb); have B1 := Lib.hid (below_next B0.out hb); clear hb))
  go_upto_region 3 with (first | (go_at_call 25; refine (RA.out _).mono ?_; rintro e W2 ⟨rfl, hb⟩; have G2 := Lib.hid (row_kept G1.out hb); have B2 := Lib.hid (below_next B1.out hb); clear hb))
  go_upto_region 4 with (first | (go_at_call 25; refine (RB.out _).mono ?_; rintro e W3 ⟨rfl, hb⟩; have G3 := Lib.hid (row_kept G2.out hb); have B3 := Lib.hid (below_next B2.out hb); clear hb))
  cases c with
  | false =>
    have hd : isDot s = false := by rw [HD.out]; rfl
    have HR := Lib.hid (show parR s = 0 ∧ parQ s = 0 ∧ parErr s = 2 by have h := HP.out; rw [hd] at h; exact ⟨h.2.1, h.2.2, h.1⟩)
    clear hd
    go_wp2_with (first
      | (refine build_on (by rfl) 23 #[] rfl _ _ dot_built0 (by simp [Act.eval]) ?_)
      | (refine wpList_store_row rfl 23 (.tmp 2) (.tmp 38) rfl w.heap.size _ rfl rfl 23 _ G3.out (by kernel_rfl) rfl (dot_one _ _) ?_))
    exact bodyPost_ret (results_cell2 Tryd.results16 _ _ w.heap.size 23 _ (0, 0) _ _ rfl rfl (setRow_heap _ _ _ _ _ _ G3.out) Tryd.underlying23 rfl (by kernel_rfl)) rfl ⟨by rw [HR.out.1, HR.out.2.1, HR.out.2.2]; rfl, below_setRow B3.out (Nat.le_refl _) _⟩
  | true =>
    by_cases z1 : e1 = 0
    · subst z1
      by_cases z2 : e2 = 0
      · subst z2
        go_upto_region 7 with (first
          | (refine build_on (by rfl) 23 #[(0, .tmp 39), (1, .tmp 40)] rfl _ _ (dot_built _ _) (by simp [Act.eval]) ?_))
        have H4 := Lib.hid (heap_last W3 (.cells #[.int .i64 r, .int .i64 q] 23 (0, 0)))
        have G4 := Lib.hid (row_kept G3.out ((Below.refl W3.heap.size W3).alloc (Nat.le_refl _) (.cells #[.int .i64 r, .int .i64 q] 23 (0, 0))))
        have B4 := Lib.hid (B3.out.alloc B3.out.size (.cells #[.int .i64 r, .int .i64 q] 23 (0, 0)))
        generalize W3.alloc (.cells #[.int .i64 r, .int .i64 q] 23 (0, 0)) = W4 at *
        cases hm : mayD r q with
        | true =>
          have hd : isDot s = true := by rw [HD.out, hm]; rfl
          have HR := Lib.hid (show parR s = r ∧ parQ s = q ∧ parErr s = 0 by have h := HP.out; rw [hd] at h; exact ⟨h.2.1, h.2.2, h.1⟩)
          rw [hm] at M1
          clear hd hm
          go_wp2_with (first
            | (refine load_row_on (by rfl) 23 (.tmp 11) rfl W3.heap.size rfl 23 _ (0, 0) _ H4.out Tryd.underlying23 rfl (by kernel_rfl) ?_)
            | (go_at_call 14; refine (M1.out _).mono ?_; rintro e W5 ⟨rfl, hb⟩; have G5 := Lib.hid (row_kept G4.out hb); have H5 := Lib.hid (row_kept H4.out hb); have B5 := Lib.hid (below_next B4.out hb); clear hb)
            | (refine load_row_on (by rfl) 23 (.tmp 11) rfl W3.heap.size rfl 23 _ (0, 0) _ H5.out Tryd.underlying23 rfl (by kernel_rfl) ?_)
            | (refine wpList_store_row rfl 23 (.tmp 2) (.tmp 46) rfl w.heap.size _ rfl rfl 23 _ G5.out (by kernel_rfl) rfl (dot_one _ _) ?_))
          exact bodyPost_ret (results_cell2 Tryd.results16 _ _ w.heap.size 23 _ (0, 0) _ _ rfl rfl (setRow_heap _ _ _ _ _ _ G5.out) Tryd.underlying23 rfl (by kernel_rfl)) rfl ⟨by rw [HR.out.1, HR.out.2.1, HR.out.2.2]; rfl, below_setRow B5.out (Nat.le_refl _) _⟩
        | false =>
          have hd : isDot s = false := by rw [HD.out, hm]; rfl
          have HR := Lib.hid (show parR s = 0 ∧ parQ s = 0 ∧ parErr s = 2 by have h := HP.out; rw [hd] at h; exact ⟨h.2.1, h.2.2, h.1⟩)
          rw [hm] at M1
          clear hd hm
          go_wp2_with (first
            | (refine load_row_on (by rfl) 23 (.tmp 11) rfl W3.heap.size rfl 23 _ (0, 0) _ H4.out Tryd.underlying23 rfl (by kernel_rfl) ?_)
            | (go_at_call 14; refine (M1.out _).mono ?_; rintro e W5 ⟨rfl, hb⟩; have G5 := Lib.hid (row_kept G4.out hb); have B5 := Lib.hid (below_next B4.out hb); clear hb)
            | (refine build_on (by rfl) 23 #[] rfl _ _ dot_built0 (by simp [Act.eval]) ?_)
            | (refine wpList_store_row rfl 23 (.tmp 2) (.tmp 45) rfl w.heap.size _ rfl rfl 23 _ G5.out (by kernel_rfl) rfl (dot_one _ _) ?_))
          exact bodyPost_ret (results_cell2 Tryd.results16 _ _ w.heap.size 23 _ (0, 0) _ _ rfl rfl (setRow_heap _ _ _ _ _ _ G5.out) Tryd.underlying23 rfl (by kernel_rfl)) rfl ⟨by rw [HR.out.1, HR.out.2.1, HR.out.2.2]; rfl, below_setRow B5.out (Nat.le_refl _) _⟩
      · have t2 : (e2 != 0) = true := bne_iff_ne.2 z2
        have hd : isDot s = false := by rw [HD.out, show (e2 == 0) = false from beq_eq_false_iff_ne.2 z2]; simp
        have HR := Lib.hid (show parR s = 0 ∧ parQ s = 0 ∧ parErr s = 2 by have h := HP.out; rw [hd] at h; exact ⟨h.2.1, h.2.2, h.1⟩)
        clear z2 hd
        go_wp2_with (first
          | (refine build_on (by rfl) 23 #[] rfl _ _ dot_built0 (by simp [Act.eval]) ?_)
          | (refine wpList_store_row rfl 23 (.tmp 2) (.tmp 38) rfl w.heap.size _ rfl rfl 23 _ G3.out (by kernel_rfl) rfl (dot_one _ _) ?_))
        exact bodyPost_ret (results_cell2 Tryd.results16 _ _ w.heap.size 23 _ (0, 0) _ _ rfl rfl (setRow_heap _ _ _ _ _ _ G3.out) Tryd.underlying23 rfl (by kernel_rfl)) rfl ⟨by rw [HR.out.1, HR.out.2.1, HR.out.2.2]; rfl, below_setRow B3.out (Nat.le_refl _) _⟩
    · have t1 : (e1 != 0) = true := bne_iff_ne.2 z1
      have hd : isDot s = false := by rw [HD.out, show (e1 == 0) = false from beq_eq_false_iff_ne.2 z1]; simp
      have HR := Lib.hid (show parR s = 0 ∧ parQ s = 0 ∧ parErr s = 2 by have h := HP.out; rw [hd] at h; exact ⟨h.2.1, h.2.2, h.1⟩)
      clear z1 hd
      go_wp2_with (first
        | (refine build_on (by rfl) 23 #[] rfl _ _ dot_built0 (by simp [Act.eval]) ?_)
        | (refine wpList_store_row rfl 23 (.tmp 2) (.tmp 38) rfl w.heap.size _ rfl rfl 23 _ G3.out (by kernel_rfl) rfl (dot_one _ _) ?_))
      exact bodyPost_ret (results_cell2 Tryd.results16 _ _ w.heap.size 23 _ (0, 0) _ _ rfl rfl (setRow_heap _ _ _ _ _ _ G3.out) Tryd.underlying23 rfl (by kernel_rfl)) rfl ⟨by rw [HR.out.1, HR.out.2.1, HR.out.2.2]; rfl, below_setRow B3.out (Nat.le_refl _) _⟩
theorem dotFace : DotFace := ⟨fun w r q r' q' h1 h2 h3 h4 => compare_any r q r' q' h1 h2 h3 h4 w, fun w r q _ _ => may_any9 r q w, fun w r q _ _ => next_any r q w, fun w r q h1 h2 hT => text_any9 r q h1 h2 w hT, fun w s hs => parse_any9 s hs w⟩
end Go.Proofs.YtfechljjkblkhaaDoor
