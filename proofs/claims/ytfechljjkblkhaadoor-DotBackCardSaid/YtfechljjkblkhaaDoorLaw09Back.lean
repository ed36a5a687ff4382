/-
The walk of the statement on dots that are parsed as they were.
-/
import Derived.Test.YtfechljjkblkhaaDoorLaw09Texts
namespace Go.Proofs.YtfechljjkblkhaaDoor
open Go.RowKit
theorem textD_length {r q : Int} (hr : I64 r) (hq : I64 q) : (textD r q).length < 1152921504606846976 := by
  have h1 := numL_length r hr.1 hr.2
  have h2 := numL_length q hq.1 hq.2
  rw [textD, List.length_append, List.length_cons]; omega
theorem may_i64 {r q : Int} (h : mayD r q = true) : I64 r ∧ I64 q := by
  have := of_decide_eq_true h
  unfold I64; omega
set_option maxRecDepth 100000 in
set_option maxHeartbeats 32000000 in
theorem dotBack_walk (F : DotFace) (r q : Int) (s : List UInt8) (hr : I64 r) (hq : I64 q) (hs : s.length < 1152921504606846976) (w : World) (hT : PowTab w) :
    Calls Tryd.prog 7 #[.agg #[.int .i64 r, .int .i64 q], .string (str s)] w fun e w' => e = .returned (.bool true) ∧ Below w.heap.size w w' := by
  have HT := Lib.hid hT
  have AW := Lib.hid (fun w hT => awake9_any F w hT)
  have T1 := Lib.hid (fun w hT => F.text w r q hr hq hT)
  have P1 := Lib.hid (fun w => F.parse w (textD r q) (textD_length hr hq))
  have P2 := Lib.hid (fun w => F.parse w s hs)
  have MY := Lib.hid (fun w => F.may w r q hr hq)
  have E0 := Lib.hid (one_box w r q)
  have B0 := Lib.hid ((Below.refl w.heap.size w).alloc (Nat.le_refl _) (dotO r q))
  have hss : (str s).toList = s := str_toList s
  have first : (mayD r q = true ∧ parErr (textD r q) = 0 ∧ parR (textD r q) = r ∧ parQ (textD r q) = q) ∨ (mayD r q = false ∧ parErr (textD r q) = 2 ∧ parR (textD r q) = 0 ∧ parQ (textD r q) = 0) := by
    cases hm : mayD r q with
    | true => exact .inl ⟨rfl, parse_text9 hm⟩
    | false =>
      have h2 := parse_not hm
      refine .inr ⟨rfl, h2, ?_⟩
      rcases parErr_cases (textD r q) with ⟨h0, -⟩ | ⟨-, -, h3⟩
      · rw [h0] at h2; cases h2
      · exact h3
  have second : (parErr s = 0 ∧ ∃ y z, parR s = y ∧ parQ s = z ∧ I64 y ∧ I64 z ∧ mayD y z = true ∧ textD y z = s) ∨ (parErr s = 2 ∧ parR s = 0 ∧ parQ s = 0) := by
    rcases parErr_cases s with ⟨h0, h1⟩ | ⟨h2, -, h3⟩
    · have h := text_parse9 h1
      exact .inl ⟨h0, _, _, rfl, rfl, (may_i64 h.1).1, (may_i64 h.1).2, h.1, h.2⟩
    · exact .inr ⟨h2, h3⟩
  clear hT hr hq hs
  unfold dotO at *
  rcases first with ⟨f1, f2, f3, f4⟩ | ⟨f1, f2, f3, f4⟩ <;> rw [f1] at MY <;> rw [f2, f3, f4] at P1 <;> clear f1 f2 f3 f4 <;> rcases second with ⟨s1, y, z, s2, s3, s4, s5, s6, s7⟩ | ⟨s1, s2, s3⟩
  · rw [s1, s2, s3] at P2
    have MY2 := Lib.hid (fun w => F.may w y z s4 s5)
    have T2 := Lib.hid (fun w hT => F.text w y z s4 s5 hT)
    rw [s6] at MY2
    rw [s7] at T2
    clear s1 s2 s3 s4 s5 s6 s7
    go_enter Tryd.func7, Tryd.ntmps7
    go_upto_region 1 with fail
    generalize w.alloc (.cells #[.int .i64 r, .int .i64 q] 23 (0, 0)) = W0 at *
    go_upto_region 2 with (first | (go_at_call 9; refine (AW.out _ (powTab_below HT.out B0.out)).mono ?_; rintro e w1 ⟨rfl, hb⟩; have E1 := Lib.hid (row_kept E0.out hb); have B1 := Lib.hid (below_next B0.out hb); clear hb))
    go_upto_region 3 with (first
      | (refine load_row_on (by rfl) 23 (.tmp 2) rfl w.heap.size rfl 23 _ (0, 0) _ E1.out Tryd.underlying23 rfl (by kernel_rfl) ?_)
      | (go_at_call 18; refine (T1.out _ (powTab_below HT.out B1.out)).mono ?_; rintro e w2 ⟨rfl, hb⟩; have E2 := Lib.hid (row_kept E1.out hb); have B2 := Lib.hid (below_next B1.out hb); clear hb)
      | (go_at_call 16; refine (P1.out _).mono ?_; rintro e w3 ⟨rfl, hb⟩; have E3 := Lib.hid (row_kept E2.out hb); have B3 := Lib.hid (below_next B2.out hb); clear hb))
    have K0 := Lib.hid ((Below.refl w3.heap.size w3).alloc (Nat.le_refl _) (.cells #[.int .i64 r, .int .i64 q] 23 (0, 0)))
    have G4 := Lib.hid (heap_last w3 (.cells #[.int .i64 r, .int .i64 q] 23 (0, 0)))
    generalize w3.alloc (.cells #[.int .i64 r, .int .i64 q] 23 (0, 0)) = W4 at *
    have E4 := Lib.hid (row_kept E3.out K0.out)
    have B4 := Lib.hid (below_next B3.out K0.out)
    go_upto_region 4 with (first
      | (go_at_call 16; refine (P2.out _).mono ?_; rintro e w5 ⟨rfl, hb⟩; have E5 := Lib.hid (row_kept E4.out hb); have G5 := Lib.hid (row_kept G4.out hb); have B5 := Lib.hid (below_next B4.out hb); clear hb))
    have K1 := Lib.hid ((Below.refl w5.heap.size w5).alloc (Nat.le_refl _) (.cells #[.int .i64 y, .int .i64 z] 23 (0, 0)))
    have F6 := Lib.hid (heap_last w5 (.cells #[.int .i64 y, .int .i64 z] 23 (0, 0)))
    generalize w5.alloc (.cells #[.int .i64 y, .int .i64 z] 23 (0, 0)) = W6 at *
    have E6 := Lib.hid (row_kept E5.out K1.out)
    have G6 := Lib.hid (row_kept G5.out K1.out)
    have B6 := Lib.hid (below_next B5.out K1.out)
    go_upto_region 6 with (first
      | (refine load_row_on (by rfl) 23 (.tmp 2) rfl w.heap.size rfl 23 _ (0, 0) _ E6.out Tryd.underlying23 rfl (by kernel_rfl) ?_)
      | (go_at_call 14; with_reducible refine (MY.out W6).mono ?_; rintro e w7 ⟨rfl, hb⟩; have E7 := Lib.hid (row_kept E6.out hb); have G7 := Lib.hid (row_kept G6.out hb); have F7 := Lib.hid (row_kept F6.out hb); have B7 := Lib.hid (below_next B6.out hb); clear hb)
      | (refine load_row_on (by rfl) 23 (.tmp 6) rfl w3.heap.size rfl 23 _ (0, 0) _ G7.out Tryd.underlying23 rfl (by kernel_rfl) ?_)
      | (refine load_row_on (by rfl) 23 (.tmp 2) rfl w.heap.size rfl 23 _ (0, 0) _ E7.out Tryd.underlying23 rfl (by kernel_rfl) ?_))
    go_wp2_with (first
      | (refine load_row_on (by rfl) 23 (.tmp 8) rfl w5.heap.size rfl 23 _ (0, 0) _ F7.out Tryd.underlying23 rfl (by kernel_rfl) ?_)
      | (go_at_call 14; with_reducible refine (MY2.out w7).mono ?_; rintro e w8 ⟨rfl, hb⟩; have E8 := Lib.hid (row_kept E7.out hb); have G8 := Lib.hid (row_kept G7.out hb); have F8 := Lib.hid (row_kept F7.out hb); have B8 := Lib.hid (below_next B7.out hb); clear hb)
      | (refine load_row_on (by rfl) 23 (.tmp 8) rfl w5.heap.size rfl 23 _ (0, 0) _ F8.out Tryd.underlying23 rfl (by kernel_rfl) ?_)
      | (go_at_call 18; with_reducible refine (T2.out w8 (powTab_below HT.out B8.out)).mono ?_; rintro e w9 ⟨rfl, hb⟩; have B9 := Lib.hid (below_next B8.out hb); clear hb))
    go_ret
    exact ⟨rfl, B9.out⟩
  · rw [s1, s2, s3] at P2
    clear s1 s2 s3
    go_enter Tryd.func7, Tryd.ntmps7
    go_upto_region 1 with fail
    generalize w.alloc (.cells #[.int .i64 r, .int .i64 q] 23 (0, 0)) = W0 at *
    go_upto_region 2 with (first | (go_at_call 9; refine (AW.out _ (powTab_below HT.out B0.out)).mono ?_; rintro e w1 ⟨rfl, hb⟩; have E1 := Lib.hid (row_kept E0.out hb); have B1 := Lib.hid (below_next B0.out hb); clear hb))
    go_upto_region 3 with (first
      | (refine load_row_on (by rfl) 23 (.tmp 2) rfl w.heap.size rfl 23 _ (0, 0) _ E1.out Tryd.underlying23 rfl (by kernel_rfl) ?_)
      | (go_at_call 18; refine (T1.out _ (powTab_below HT.out B1.out)).mono ?_; rintro e w2 ⟨rfl, hb⟩; have E2 := Lib.hid (row_kept E1.out hb); have B2 := Lib.hid (below_next B1.out hb); clear hb)
      | (go_at_call 16; refine (P1.out _).mono ?_; rintro e w3 ⟨rfl, hb⟩; have E3 := Lib.hid (row_kept E2.out hb); have B3 := Lib.hid (below_next B2.out hb); clear hb))
    have K0 := Lib.hid ((Below.refl w3.heap.size w3).alloc (Nat.le_refl _) (.cells #[.int .i64 r, .int .i64 q] 23 (0, 0)))
    have G4 := Lib.hid (heap_last w3 (.cells #[.int .i64 r, .int .i64 q] 23 (0, 0)))
    generalize w3.alloc (.cells #[.int .i64 r, .int .i64 q] 23 (0, 0)) = W4 at *
    have E4 := Lib.hid (row_kept E3.out K0.out)
    have B4 := Lib.hid (below_next B3.out K0.out)
    go_upto_region 4 with (first
      | (go_at_call 16; refine (P2.out _).mono ?_; rintro e w5 ⟨rfl, hb⟩; have E5 := Lib.hid (row_kept E4.out hb); have G5 := Lib.hid (row_kept G4.out hb); have B5 := Lib.hid (below_next B4.out hb); clear hb))
    have K1 := Lib.hid ((Below.refl w5.heap.size w5).alloc (Nat.le_refl _) (.cells #[.int .i64 0, .int .i64 0] 23 (0, 0)))
    have F6 := Lib.hid (heap_last w5 (.cells #[.int .i64 0, .int .i64 0] 23 (0, 0)))
    generalize w5.alloc (.cells #[.int .i64 0, .int .i64 0] 23 (0, 0)) = W6 at *
    have E6 := Lib.hid (row_kept E5.out K1.out)
    have G6 := Lib.hid (row_kept G5.out K1.out)
    have B6 := Lib.hid (below_next B5.out K1.out)
    go_upto_region 6 with (first
      | (refine load_row_on (by rfl) 23 (.tmp 2) rfl w.heap.size rfl 23 _ (0, 0) _ E6.out Tryd.underlying23 rfl (by kernel_rfl) ?_)
      | (go_at_call 14; with_reducible refine (MY.out W6).mono ?_; rintro e w7 ⟨rfl, hb⟩; have E7 := Lib.hid (row_kept E6.out hb); have G7 := Lib.hid (row_kept G6.out hb); have F7 := Lib.hid (row_kept F6.out hb); have B7 := Lib.hid (below_next B6.out hb); clear hb)
      | (refine load_row_on (by rfl) 23 (.tmp 6) rfl w3.heap.size rfl 23 _ (0, 0) _ G7.out Tryd.underlying23 rfl (by kernel_rfl) ?_)
      | (refine load_row_on (by rfl) 23 (.tmp 2) rfl w.heap.size rfl 23 _ (0, 0) _ E7.out Tryd.underlying23 rfl (by kernel_rfl) ?_))
    go_wp2_with (first
      | (refine load_row_on (by rfl) 23 (.tmp 8) rfl w5.heap.size rfl 23 _ (0, 0) _ F7.out Tryd.underlying23 rfl (by kernel_rfl) ?_)
      | (refine build_on (by rfl) 23 #[] rfl _ _ dot_built0 (by simp [Act.eval]) ?_))
    go_ret
    exact ⟨rfl, B7.out⟩
  · rw [s1, s2, s3] at P2
    have MY2 := Lib.hid (fun w => F.may w y z s4 s5)
    have T2 := Lib.hid (fun w hT => F.text w y z s4 s5 hT)
    rw [s6] at MY2
    rw [s7] at T2
    clear s1 s2 s3 s4 s5 s6 s7
    go_enter Tryd.func7, Tryd.ntmps7
    go_upto_region 1 with fail
    generalize w.alloc (.cells #[.int .i64 r, .int .i64 q] 23 (0, 0)) = W0 at *
    go_upto_region 2 with (first | (go_at_call 9; refine (AW.out _ (powTab_below HT.out B0.out)).mono ?_; rintro e w1 ⟨rfl, hb⟩; have E1 := Lib.hid (row_kept E0.out hb); have B1 := Lib.hid (below_next B0.out hb); clear hb))
    go_upto_region 3 with (first
      | (refine load_row_on (by rfl) 23 (.tmp 2) rfl w.heap.size rfl 23 _ (0, 0) _ E1.out Tryd.underlying23 rfl (by kernel_rfl) ?_)
      | (go_at_call 18; refine (T1.out _ (powTab_below HT.out B1.out)).mono ?_; rintro e w2 ⟨rfl, hb⟩; have E2 := Lib.hid (row_kept E1.out hb); have B2 := Lib.hid (below_next B1.out hb); clear hb)
      | (go_at_call 16; refine (P1.out _).mono ?_; rintro e w3 ⟨rfl, hb⟩; have E3 := Lib.hid (row_kept E2.out hb); have B3 := Lib.hid (below_next B2.out hb); clear hb))
    have K0 := Lib.hid ((Below.refl w3.heap.size w3).alloc (Nat.le_refl _) (.cells #[.int .i64 0, .int .i64 0] 23 (0, 0)))
    have G4 := Lib.hid (heap_last w3 (.cells #[.int .i64 0, .int .i64 0] 23 (0, 0)))
    generalize w3.alloc (.cells #[.int .i64 0, .int .i64 0] 23 (0, 0)) = W4 at *
    have E4 := Lib.hid (row_kept E3.out K0.out)
    have B4 := Lib.hid (below_next B3.out K0.out)
    go_upto_region 4 with (first
      | (go_at_call 16; refine (P2.out _).mono ?_; rintro e w5 ⟨rfl, hb⟩; have E5 := Lib.hid (row_kept E4.out hb); have G5 := Lib.hid (row_kept G4.out hb); have B5 := Lib.hid (below_next B4.out hb); clear hb))
    have K1 := Lib.hid ((Below.refl w5.heap.size w5).alloc (Nat.le_refl _) (.cells #[.int .i64 y, .int .i64 z] 23 (0, 0)))
    have F6 := Lib.hid (heap_last w5 (.cells #[.int .i64 y, .int .i64 z] 23 (0, 0)))
    generalize w5.alloc (.cells #[.int .i64 y, .int .i64 z] 23 (0, 0)) = W6 at *
    have E6 := Lib.hid (row_kept E5.out K1.out)
    have G6 := Lib.hid (row_kept G5.out K1.out)
    have B6 := Lib.hid (below_next B5.out K1.out)
    go_upto_region 6 with (first
      | (refine load_row_on (by rfl) 23 (.tmp 2) rfl w.heap.size rfl 23 _ (0, 0) _ E6.out Tryd.underlying23 rfl (by kernel_rfl) ?_)
      | (go_at_call 14; with_reducible refine (MY.out W6).mono ?_; rintro e w7 ⟨rfl, hb⟩; have E7 := Lib.hid (row_kept E6.out hb); have G7 := Lib.hid (row_kept G6.out hb); have F7 := Lib.hid (row_kept F6.out hb); have B7 := Lib.hid (below_next B6.out hb); clear hb))
    go_wp2_with (first
      | (refine load_row_on (by rfl) 23 (.tmp 8) rfl w5.heap.size rfl 23 _ (0, 0) _ F7.out Tryd.underlying23 rfl (by kernel_rfl) ?_)
      | (go_at_call 14; with_reducible refine (MY2.out w7).mono ?_; rintro e w8 ⟨rfl, hb⟩; have E8 := Lib.hid (row_kept E7.out hb); have G8 := Lib.hid (row_kept G7.out hb); have F8 := Lib.hid (row_kept F7.out hb); have B8 := Lib.hid (below_next B7.out hb); clear hb)
      | (refine load_row_on (by rfl) 23 (.tmp 8) rfl w5.heap.size rfl 23 _ (0, 0) _ F8.out Tryd.underlying23 rfl (by kernel_rfl) ?_)
      | (go_at_call 18; with_reducible refine (T2.out w8 (powTab_below HT.out B8.out)).mono ?_; rintro e w9 ⟨rfl, hb⟩; have B9 := Lib.hid (below_next B8.out hb); clear hb))
    go_ret
    exact ⟨rfl, B9.out⟩
  · rw [s1, s2, s3] at P2
    clear s1 s2 s3
    go_enter Tryd.func7, Tryd.ntmps7
    go_upto_region 1 with fail
    generalize w.alloc (.cells #[.int .i64 r, .int .i64 q] 23 (0, 0)) = W0 at *
    go_upto_region 2 with (first | (go_at_call 9; refine (AW.out _ (powTab_below HT.out B0.out)).mono ?_; rintro e w1 ⟨rfl, hb⟩; have E1 := Lib.hid (row_kept E0.out hb); have B1 := Lib.hid (below_next B0.out hb); clear hb))
    go_upto_region 3 with (first
      | (refine load_row_on (by rfl) 23 (.tmp 2) rfl w.heap.size rfl 23 _ (0, 0) _ E1.out Tryd.underlying23 rfl (by kernel_rfl) ?_)
      | (go_at_call 18; refine (T1.out _ (powTab_below HT.out B1.out)).mono ?_; rintro e w2 ⟨rfl, hb⟩; have E2 := Lib.hid (row_kept E1.out hb); have B2 := Lib.hid (below_next B1.out hb); clear hb)
      | (go_at_call 16; refine (P1.out _).mono ?_; rintro e w3 ⟨rfl, hb⟩; have E3 := Lib.hid (row_kept E2.out hb); have B3 := Lib.hid (below_next B2.out hb); clear hb))
    have K0 := Lib.hid ((Below.refl w3.heap.size w3).alloc (Nat.le_refl _) (.cells #[.int .i64 0, .int .i64 0] 23 (0, 0)))
    have G4 := Lib.hid (heap_last w3 (.cells #[.int .i64 0, .int .i64 0] 23 (0, 0)))
    generalize w3.alloc (.cells #[.int .i64 0, .int .i64 0] 23 (0, 0)) = W4 at *
    have E4 := Lib.hid (row_kept E3.out K0.out)
    have B4 := Lib.hid (below_next B3.out K0.out)
    go_upto_region 4 with (first
      | (go_at_call 16; refine (P2.out _).mono ?_; rintro e w5 ⟨rfl, hb⟩; have E5 := Lib.hid (row_kept E4.out hb); have G5 := Lib.hid (row_kept G4.out hb); have B5 := Lib.hid (below_next B4.out hb); clear hb))
    have K1 := Lib.hid ((Below.refl w5.heap.size w5).alloc (Nat.le_refl _) (.cells #[.int .i64 0, .int .i64 0] 23 (0, 0)))
    have F6 := Lib.hid (heap_last w5 (.cells #[.int .i64 0, .int .i64 0] 23 (0, 0)))
    generalize w5.alloc (.cells #[.int .i64 0, .int .i64 0] 23 (0, 0)) = W6 at *
    have E6 := Lib.hid (row_kept E5.out K1.out)
    have G6 := Lib.hid (row_kept G5.out K1.out)
    have B6 := Lib.hid (below_next B5.out K1.out)
    go_upto_region 6 with (first
      | (refine load_row_on (by rfl) 23 (.tmp 2) rfl w.heap.size rfl 23 _ (0, 0) _ E6.out Tryd.underlying23 rfl (by kernel_rfl) ?_)
      | (go_at_call 14; with_reducible refine (MY.out W6).mono ?_; rintro e w7 ⟨rfl, hb⟩; have E7 := Lib.hid (row_kept E6.out hb); have G7 := Lib.hid (row_kept G6.out hb); have F7 := Lib.hid (row_kept F6.out hb); have B7 := Lib.hid (below_next B6.out hb); clear hb))
    go_wp2_with (first
      | (refine load_row_on (by rfl) 23 (.tmp 8) rfl w5.heap.size rfl 23 _ (0, 0) _ F7.out Tryd.underlying23 rfl (by kernel_rfl) ?_)
      | (refine build_on (by rfl) 23 #[] rfl _ _ dot_built0 (by simp [Act.eval]) ?_))
    go_ret
    exact ⟨rfl, B7.out⟩
end Go.Proofs.YtfechljjkblkhaaDoor
