/-
The walk of the statement that headers of unlike paths, or sizes, are unlike.
-/
import Derived.Test.YtbjekhhefepnlaaDoorHeaderFace
namespace Go.Proofs.YtbjekhhefepnlaaDoor
open Go.RowKit
set_option maxRecDepth 100000 in
set_option maxHeartbeats 8000000 in
theorem headerApart_walk (F : HeaderFace) (s t : List UInt8) (n m : Int) (hs : s.length < 1152921504606846976) (ht : t.length < 1152921504606846976) (hn : -9223372036854775808 ≤ n ∧ n < 9223372036854775808) (hm : -9223372036854775808 ≤ m ∧ m < 9223372036854775808) (w : World) :
    Calls Tryd.prog 8 #[.string (str s), .string (str t), .agg #[.int .i64 n, .int .i64 m]] w fun e w' => e = .returned (.bool true) ∧ Below w.heap.size w w' := by
  have P1 := Lib.hid (fun w => F.put w s n hs hn.1 hn.2)
  have P2 := Lib.hid (fun w => F.put w t m ht hm.1 hm.2)
  have A0 := Lib.hid (heap_last w (.cells #[.int .i64 n, .int .i64 m] 43 (0, 0)))
  have B0 := Lib.hid ((Below.refl w.heap.size w).alloc (Nat.le_refl _) (.cells #[.int .i64 n, .int .i64 m] 43 (0, 0)))
  have hz : (w.alloc (.cells #[.int .i64 n, .int .i64 m] 43 (0, 0))).heap.size = w.heap.size + 1 := size_of_alloc _ _
  have Z0 := Lib.hid hz
  have HX := Lib.hid (fun h : putHErr s n = 0 => putH_len h)
  have HY := Lib.hid (fun h : putHErr t m = 0 => putH_len h)
  have HX0 := Lib.hid (fun h : putHErr s n ≠ 0 => show putH s n = [] by rw [putH, if_neg h])
  have HY0 := Lib.hid (fun h : putHErr t m ≠ 0 => show putH t m = [] by rw [putH, if_neg h])
  have HI := Lib.hid (fun (h : putHErr s n = 0) (h' : putHErr t m = 0) => putH_inj h h')
  have hs1 : (str s).toList = s := str_toList s
  have ht1 : (str t).toList = t := str_toList t
  obtain ⟨X, hX⟩ : ∃ X, X = putH s n := ⟨_, rfl⟩
  obtain ⟨Y, hY⟩ : ∃ Y, Y = putH t m := ⟨_, rfl⟩
  rw [← hX] at P1 HX HX0 HI
  rw [← hY] at P2 HY HY0 HI
  have hX1 : (str X).toList = X := str_toList X
  have hY1 : (str Y).toList = Y := str_toList Y
  clear hs ht hn hm hX hY hz
  generalize putHErr s n = E at *
  generalize putHErr t m = E2 at *
  by_cases hE : E = 0
  · subst hE
    have HX1 := Lib.hid (HX.out rfl)
    by_cases hF : E2 = 0
    · subst hF
      have HY1 := Lib.hid (HY.out rfl)
      have hi := HI.out rfl rfl
      clear HI HX HY HX0 HY0
      by_cases hst : s = t
      · have ts : (s == t) = true := by rw [beq_iff_eq]; exact hst
        by_cases hnm : n = m
        · have tn : (n == m) = true := by rw [beq_iff_eq]; exact hnm
          have te : (X == Y) = true := by rw [beq_iff_eq]; exact hi.2 ⟨hst, hnm⟩
          clear hi hst hnm
          go_enter Tryd.func8, Tryd.ntmps8
          go_upto_region 2 with (first | (go_at_call 9; refine (awake7_any F _).mono ?_; rintro e w1 ⟨rfl, hb⟩; have H1 := Lib.hid (below_next B0.out hb); have A1 := Lib.hid ((hb.block w.heap.size (by rw [Z0.out]; omega)).trans A0.out); have z1 := Lib.hid (show w.heap.size < w1.heap.size by have := hb.size; rw [Z0.out] at this; omega); clear hb))
          have c0 := cell_of_row w1 w.heap.size 0 _ _ _ A1.out
          have c1 := cell_of_row w1 w.heap.size 1 _ _ _ A1.out
          simp only [List.getElem?_toArray, List.getElem?_cons_zero, List.getElem?_cons_succ] at c0 c1
          go_upto_region 3 with (first | (go_at_call 10; refine (P1.out _).mono ?_; rintro e w2 ⟨v1, rfl, ⟨ht, -⟩, hb⟩; obtain ⟨ao1, cap1, rfl⟩ := text_shape ht 512 HX1.out; have T1 := Lib.hid ht; have H2 := Lib.hid (below_next H1.out hb); have A2 := Lib.hid ((hb.block w.heap.size z1.out).trans A1.out); have z2 := Lib.hid (Nat.lt_of_lt_of_le z1.out hb.size); clear ht hb c0 c1))
          have c0 := cell_of_row w2 w.heap.size 0 _ _ _ A2.out
          have c1 := cell_of_row w2 w.heap.size 1 _ _ _ A2.out
          simp only [List.getElem?_toArray, List.getElem?_cons_zero, List.getElem?_cons_succ] at c0 c1
          go_upto_region 4 with (first | (go_at_call 10; refine (P2.out _).mono ?_; rintro e w3 ⟨v2, rfl, ⟨ht, -⟩, hb⟩; obtain ⟨ao2, cap2, rfl⟩ := text_shape ht 512 HY1.out; have S1 := Lib.hid (text_keep T1.out hb); have T2 := Lib.hid ht; have H3 := Lib.hid (below_next H2.out hb); have A3 := Lib.hid ((hb.block w.heap.size z2.out).trans A2.out); clear ht hb c0 c1))
          have c0 := cell_of_row w3 w.heap.size 0 _ _ _ A3.out
          have c1 := cell_of_row w3 w.heap.size 1 _ _ _ A3.out
          simp only [List.getElem?_toArray, List.getElem?_cons_zero, List.getElem?_cons_succ] at c0 c1
          have cv1 := conv_text Tryd.underlying22 Tryd.underlying5 Tryd.underlying9 S1.out
          have cv2 := conv_text Tryd.underlying22 Tryd.underlying5 Tryd.underlying9 T2.out
          go_wp2
          go_ret
          exact ⟨rfl, H3.out⟩
        · have tn : (n == m) = false := by rw [beq_eq_false_iff_ne]; exact hnm
          have te : (X == Y) = false := by rw [beq_eq_false_iff_ne]; exact fun h => hnm (hi.1 h).2
          clear hi hst hnm
          go_enter Tryd.func8, Tryd.ntmps8
          go_upto_region 2 with (first | (go_at_call 9; refine (awake7_any F _).mono ?_; rintro e w1 ⟨rfl, hb⟩; have H1 := Lib.hid (below_next B0.out hb); have A1 := Lib.hid ((hb.block w.heap.size (by rw [Z0.out]; omega)).trans A0.out); have z1 := Lib.hid (show w.heap.size < w1.heap.size by have := hb.size; rw [Z0.out] at this; omega); clear hb))
          have c0 := cell_of_row w1 w.heap.size 0 _ _ _ A1.out
          have c1 := cell_of_row w1 w.heap.size 1 _ _ _ A1.out
          simp only [List.getElem?_toArray, List.getElem?_cons_zero, List.getElem?_cons_succ] at c0 c1
          go_upto_region 3 with (first | (go_at_call 10; refine (P1.out _).mono ?_; rintro e w2 ⟨v1, rfl, ⟨ht, -⟩, hb⟩; obtain ⟨ao1, cap1, rfl⟩ := text_shape ht 512 HX1.out; have T1 := Lib.hid ht; have H2 := Lib.hid (below_next H1.out hb); have A2 := Lib.hid ((hb.block w.heap.size z1.out).trans A1.out); have z2 := Lib.hid (Nat.lt_of_lt_of_le z1.out hb.size); clear ht hb c0 c1))
          have c0 := cell_of_row w2 w.heap.size 0 _ _ _ A2.out
          have c1 := cell_of_row w2 w.heap.size 1 _ _ _ A2.out
          simp only [List.getElem?_toArray, List.getElem?_cons_zero, List.getElem?_cons_succ] at c0 c1
          go_upto_region 4 with (first | (go_at_call 10; refine (P2.out _).mono ?_; rintro e w3 ⟨v2, rfl, ⟨ht, -⟩, hb⟩; obtain ⟨ao2, cap2, rfl⟩ := text_shape ht 512 HY1.out; have S1 := Lib.hid (text_keep T1.out hb); have T2 := Lib.hid ht; have H3 := Lib.hid (below_next H2.out hb); have A3 := Lib.hid ((hb.block w.heap.size z2.out).trans A2.out); clear ht hb c0 c1))
          have c0 := cell_of_row w3 w.heap.size 0 _ _ _ A3.out
          have c1 := cell_of_row w3 w.heap.size 1 _ _ _ A3.out
          simp only [List.getElem?_toArray, List.getElem?_cons_zero, List.getElem?_cons_succ] at c0 c1
          have cv1 := conv_text Tryd.underlying22 Tryd.underlying5 Tryd.underlying9 S1.out
          have cv2 := conv_text Tryd.underlying22 Tryd.underlying5 Tryd.underlying9 T2.out
          go_wp2
          go_ret
          exact ⟨rfl, H3.out⟩
      · have ts : (s == t) = false := by rw [beq_eq_false_iff_ne]; exact hst
        have te : (X == Y) = false := by rw [beq_eq_false_iff_ne]; exact fun h => hst (hi.1 h).1
        clear hi hst
        go_enter Tryd.func8, Tryd.ntmps8
        go_upto_region 2 with (first | (go_at_call 9; refine (awake7_any F _).mono ?_; rintro e w1 ⟨rfl, hb⟩; have H1 := Lib.hid (below_next B0.out hb); have A1 := Lib.hid ((hb.block w.heap.size (by rw [Z0.out]; omega)).trans A0.out); have z1 := Lib.hid (show w.heap.size < w1.heap.size by have := hb.size; rw [Z0.out] at this; omega); clear hb))
        have c0 := cell_of_row w1 w.heap.size 0 _ _ _ A1.out
        have c1 := cell_of_row w1 w.heap.size 1 _ _ _ A1.out
        simp only [List.getElem?_toArray, List.getElem?_cons_zero, List.getElem?_cons_succ] at c0 c1
        go_upto_region 3 with (first | (go_at_call 10; refine (P1.out _).mono ?_; rintro e w2 ⟨v1, rfl, ⟨ht, -⟩, hb⟩; obtain ⟨ao1, cap1, rfl⟩ := text_shape ht 512 HX1.out; have T1 := Lib.hid ht; have H2 := Lib.hid (below_next H1.out hb); have A2 := Lib.hid ((hb.block w.heap.size z1.out).trans A1.out); have z2 := Lib.hid (Nat.lt_of_lt_of_le z1.out hb.size); clear ht hb c0 c1))
        have c0 := cell_of_row w2 w.heap.size 0 _ _ _ A2.out
        have c1 := cell_of_row w2 w.heap.size 1 _ _ _ A2.out
        simp only [List.getElem?_toArray, List.getElem?_cons_zero, List.getElem?_cons_succ] at c0 c1
        go_upto_region 4 with (first | (go_at_call 10; refine (P2.out _).mono ?_; rintro e w3 ⟨v2, rfl, ⟨ht, -⟩, hb⟩; obtain ⟨ao2, cap2, rfl⟩ := text_shape ht 512 HY1.out; have S1 := Lib.hid (text_keep T1.out hb); have T2 := Lib.hid ht; have H3 := Lib.hid (below_next H2.out hb); have A3 := Lib.hid ((hb.block w.heap.size z2.out).trans A2.out); clear ht hb c0 c1))
        have c0 := cell_of_row w3 w.heap.size 0 _ _ _ A3.out
        have c1 := cell_of_row w3 w.heap.size 1 _ _ _ A3.out
        simp only [List.getElem?_toArray, List.getElem?_cons_zero, List.getElem?_cons_succ] at c0 c1
        have cv1 := conv_text Tryd.underlying22 Tryd.underlying5 Tryd.underlying9 S1.out
        have cv2 := conv_text Tryd.underlying22 Tryd.underlying5 Tryd.underlying9 T2.out
        go_wp2
        go_ret
        exact ⟨rfl, H3.out⟩
    · have dF : (E2 != 0) = true := by simp; exact hF
      have HY1 := Lib.hid (show Y.length = 0 by rw [HY0.out hF]; rfl)
      clear HI HX HY HX0 HY0 hF
      go_enter Tryd.func8, Tryd.ntmps8
      go_upto_region 2 with (first | (go_at_call 9; refine (awake7_any F _).mono ?_; rintro e w1 ⟨rfl, hb⟩; have H1 := Lib.hid (below_next B0.out hb); have A1 := Lib.hid ((hb.block w.heap.size (by rw [Z0.out]; omega)).trans A0.out); have z1 := Lib.hid (show w.heap.size < w1.heap.size by have := hb.size; rw [Z0.out] at this; omega); clear hb))
      have c0 := cell_of_row w1 w.heap.size 0 _ _ _ A1.out
      have c1 := cell_of_row w1 w.heap.size 1 _ _ _ A1.out
      simp only [List.getElem?_toArray, List.getElem?_cons_zero, List.getElem?_cons_succ] at c0 c1
      go_upto_region 3 with (first | (go_at_call 10; refine (P1.out _).mono ?_; rintro e w2 ⟨v1, rfl, ⟨ht, -⟩, hb⟩; obtain ⟨ao1, cap1, rfl⟩ := text_shape ht 512 HX1.out; have T1 := Lib.hid ht; have H2 := Lib.hid (below_next H1.out hb); have A2 := Lib.hid ((hb.block w.heap.size z1.out).trans A1.out); have z2 := Lib.hid (Nat.lt_of_lt_of_le z1.out hb.size); clear ht hb c0 c1))
      have c0 := cell_of_row w2 w.heap.size 0 _ _ _ A2.out
      have c1 := cell_of_row w2 w.heap.size 1 _ _ _ A2.out
      simp only [List.getElem?_toArray, List.getElem?_cons_zero, List.getElem?_cons_succ] at c0 c1
      go_upto_region 4 with (first | (go_at_call 10; refine (P2.out _).mono ?_; rintro e w3 ⟨v2, rfl, ⟨ht, -⟩, hb⟩; obtain ⟨ao2, cap2, rfl⟩ := text_shape ht 0 HY1.out; have S1 := Lib.hid (text_keep T1.out hb); have T2 := Lib.hid ht; have H3 := Lib.hid (below_next H2.out hb); have A3 := Lib.hid ((hb.block w.heap.size z2.out).trans A2.out); clear ht hb c0 c1))
      go_wp2
      go_ret
      exact ⟨rfl, H3.out⟩
  · have dE : (E != 0) = true := by simp; exact hE
    have HX1 := Lib.hid (show X.length = 0 by rw [HX0.out hE]; rfl)
    by_cases hF : E2 = 0
    · subst hF
      have HY1 := Lib.hid (HY.out rfl)
      clear HI HX HY HX0 HY0 hE
      go_enter Tryd.func8, Tryd.ntmps8
      go_upto_region 2 with (first | (go_at_call 9; refine (awake7_any F _).mono ?_; rintro e w1 ⟨rfl, hb⟩; have H1 := Lib.hid (below_next B0.out hb); have A1 := Lib.hid ((hb.block w.heap.size (by rw [Z0.out]; omega)).trans A0.out); have z1 := Lib.hid (show w.heap.size < w1.heap.size by have := hb.size; rw [Z0.out] at this; omega); clear hb))
      have c0 := cell_of_row w1 w.heap.size 0 _ _ _ A1.out
      have c1 := cell_of_row w1 w.heap.size 1 _ _ _ A1.out
      simp only [List.getElem?_toArray, List.getElem?_cons_zero, List.getElem?_cons_succ] at c0 c1
      go_upto_region 3 with (first | (go_at_call 10; refine (P1.out _).mono ?_; rintro e w2 ⟨v1, rfl, ⟨ht, -⟩, hb⟩; obtain ⟨ao1, cap1, rfl⟩ := text_shape ht 0 HX1.out; have T1 := Lib.hid ht; have H2 := Lib.hid (below_next H1.out hb); have A2 := Lib.hid ((hb.block w.heap.size z1.out).trans A1.out); have z2 := Lib.hid (Nat.lt_of_lt_of_le z1.out hb.size); clear ht hb c0 c1))
      have c0 := cell_of_row w2 w.heap.size 0 _ _ _ A2.out
      have c1 := cell_of_row w2 w.heap.size 1 _ _ _ A2.out
      simp only [List.getElem?_toArray, List.getElem?_cons_zero, List.getElem?_cons_succ] at c0 c1
      go_upto_region 4 with (first | (go_at_call 10; refine (P2.out _).mono ?_; rintro e w3 ⟨v2, rfl, ⟨ht, -⟩, hb⟩; obtain ⟨ao2, cap2, rfl⟩ := text_shape ht 512 HY1.out; have S1 := Lib.hid (text_keep T1.out hb); have T2 := Lib.hid ht; have H3 := Lib.hid (below_next H2.out hb); have A3 := Lib.hid ((hb.block w.heap.size z2.out).trans A2.out); clear ht hb c0 c1))
      go_wp2
      go_ret
      exact ⟨rfl, H3.out⟩
    · have dF : (E2 != 0) = true := by simp; exact hF
      have HY1 := Lib.hid (show Y.length = 0 by rw [HY0.out hF]; rfl)
      clear HI HX HY HX0 HY0 hF hE
      go_enter Tryd.func8, Tryd.ntmps8
      go_upto_region 2 with (first | (go_at_call 9; refine (awake7_any F _).mono ?_; rintro e w1 ⟨rfl, hb⟩; have H1 := Lib.hid (below_next B0.out hb); have A1 := Lib.hid ((hb.block w.heap.size (by rw [Z0.out]; omega)).trans A0.out); have z1 := Lib.hid (show w.heap.size < w1.heap.size by have := hb.size; rw [Z0.out] at this; omega); clear hb))
      have c0 := cell_of_row w1 w.heap.size 0 _ _ _ A1.out
      have c1 := cell_of_row w1 w.heap.size 1 _ _ _ A1.out
      simp only [List.getElem?_toArray, List.getElem?_cons_zero, List.getElem?_cons_succ] at c0 c1
      go_upto_region 3 with (first | (go_at_call 10; refine (P1.out _).mono ?_; rintro e w2 ⟨v1, rfl, ⟨ht, -⟩, hb⟩; obtain ⟨ao1, cap1, rfl⟩ := text_shape ht 0 HX1.out; have T1 := Lib.hid ht; have H2 := Lib.hid (below_next H1.out hb); have A2 := Lib.hid ((hb.block w.heap.size z1.out).trans A1.out); have z2 := Lib.hid (Nat.lt_of_lt_of_le z1.out hb.size); clear ht hb c0 c1))
      have c0 := cell_of_row w2 w.heap.size 0 _ _ _ A2.out
      have c1 := cell_of_row w2 w.heap.size 1 _ _ _ A2.out
      simp only [List.getElem?_toArray, List.getElem?_cons_zero, List.getElem?_cons_succ] at c0 c1
      go_upto_region 4 with (first | (go_at_call 10; refine (P2.out _).mono ?_; rintro e w3 ⟨v2, rfl, ⟨ht, -⟩, hb⟩; obtain ⟨ao2, cap2, rfl⟩ := text_shape ht 0 HY1.out; have S1 := Lib.hid (text_keep T1.out hb); have T2 := Lib.hid ht; have H3 := Lib.hid (below_next H2.out hb); have A3 := Lib.hid ((hb.block w.heap.size z2.out).trans A2.out); clear ht hb c0 c1))
      go_wp2
      go_ret
      exact ⟨rfl, H3.out⟩
end Go.Proofs.YtbjekhhefepnlaaDoor
