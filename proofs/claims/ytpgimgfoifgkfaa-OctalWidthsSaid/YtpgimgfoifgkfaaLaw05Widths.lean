/-
The walk of the statement on widths that may not be, and on numbers that don't fit by one figure.
-/
import Derived.Test.YtpgimgfoifgkfaaOctalFace
import Derived.Deep.DeepCutAuto
namespace Go.Proofs.Ytpgimgfoifgkfaa
open Go.RowKit
theorem wrap_natw (p : Nat) (h : p < 9223372036854775808) : IntKind.i64.wrap (p : Int) = (p : Int) := by rw [IntKind.wrap_i64]; omega
theorem pow8_le (k : Nat) (h12 : k ≤ 12) : 8 ^ (k - 1) ≤ 8589934592 := by
  have h8 : (8 : Nat) ^ 11 = 8589934592 := by decide
  rw [← h8]; exact Nat.pow_le_pow_right (by decide) (by omega)
theorem pow2_8 (j : Nat) : 2 ^ (3 * j) = 8 ^ j := by rw [Nat.pow_mul]
theorem addr_zero (a : Addr) : a.add 0 = a := by unfold Addr.add; split <;> simp_all
/-- A number that an int64 holds. -/
def Bd (n : Nat) : Prop := -9223372036854775808 ≤ (n : Int) ∧ (n : Int) < 9223372036854775808
theorem bd_of (n : Nat) (h : n ≤ 8589934592) : Bd n := by unfold Bd; omega
theorem widths_nums (U : Nat) : ∃ r k q z P M : Nat, 2 ≤ k ∧ k ≤ 12 ∧ k = q + 1 ∧ P = 8 ^ (k - 1) ∧ P = M + 1 ∧ P ≤ 8589934592 ∧
    (U : Int) % 11 = (r : Int) ∧ (U : Int).tmod 11 = (r : Int) ∧ IntKind.u64.wrap (r : Int) = (r : Int) ∧ IntKind.i64.wrap (r : Int) = (r : Int) ∧ (2 : Int) + (r : Int) = (k : Int) ∧ IntKind.i64.wrap (k : Int) = (k : Int) ∧
    (k : Int) - 1 = (q : Int) ∧ IntKind.i64.wrap (q : Int) = (q : Int) ∧ (3 : Int) * (q : Int) = (z : Int) ∧ IntKind.i64.wrap (z : Int) = (z : Int) ∧ wrap64 ((2 : Int) ^ z) = (P : Int) ∧ (P : Int) - 1 = (M : Int) ∧ Bd P ∧ Bd M ∧ Bd k := by
  obtain ⟨r, hr⟩ : ∃ r : Nat, r = U % 11 := ⟨_, rfl⟩
  have hr11 : r < 11 := by omega
  have hP0 : 0 < 8 ^ (r + 1) := Nat.pow_pos (by decide)
  have hP := pow8_le (r + 2) (by omega)
  rw [show r + 2 - 1 = r + 1 from rfl] at hP
  have hm : (U : Int) % 11 = (r : Int) := by omega
  refine ⟨r, r + 2, r + 1, 3 * (r + 1), 8 ^ (r + 1), 8 ^ (r + 1) - 1, by omega, by omega, rfl, rfl, by omega, hP, hm, by rw [Int.tmod_eq_emod_of_nonneg (by omega)]; exact hm, ?_, wrap_natw r (by omega), by omega, wrap_natw _ (by omega), by omega, wrap_natw _ (by omega), by omega, wrap_natw _ (by omega), ?_, by omega, bd_of _ hP, bd_of _ (by omega), bd_of _ (by omega)⟩
  · rw [IntKind.wrap_u64]; omega
  · rw [show ((2 : Int) ^ (3 * (r + 1))) = ((2 ^ (3 * (r + 1)) : Nat) : Int) from by norm_cast, pow2_8]
    generalize 8 ^ (r + 1) = X at *
    rw [wrap64]; omega
set_option maxRecDepth 100000 in
set_option maxHeartbeats 8000000 in
theorem octalWidths_walk (F : OctalFace) (n width : Int) (s : List UInt8) (hn : -9223372036854775808 ≤ n ∧ n < 9223372036854775808) (hw : -9223372036854775808 ≤ width ∧ width < 9223372036854775808) (hs : s.length < 4611686018427387904) (w : World) :
    Calls Try.prog 6 #[.int .i64 n, .string (str s), .int .i64 width] w fun e w' => e = .returned (.bool true) ∧ Below w.heap.size w w' := by
  obtain ⟨U, hU⟩ : ∃ U : Nat, IntKind.u64.wrap width = (U : Int) := ⟨(IntKind.u64.wrap width).toNat, by rw [IntKind.wrap_u64]; omega⟩
  obtain ⟨r, k, q, z, P, M, hk2, hk12, hq0, hP, hM, hPle, g1, g1', g2, g3, g4, g5, g6, g7, g8, g9, g15, g12, bP, bM, bk⟩ := widths_nums U
  obtain ⟨t1, t2⟩ := put_top k hk2 hk12
  have t3 := put_top_first k hk2
  rw [← hP] at t1 t2 t3
  have t2' : putErr (M : Int) (k : Int) = 0 := by rw [← g12]; exact t2
  have t4 : putT (M : Int) (k : Int) = putL M k := by rw [putT, if_pos t2', Int.toNat_natCast, Int.toNat_natCast]
  rw [show P - 1 = M from by rw [hM]; rfl, ← t4] at t3
  have t5 := (get_put (M : Int) (k : Int) t2').2.2
  rw [Int.toNat_natCast] at t5
  have t6 : (putT (M : Int) (k : Int)).getD 0 0 = 55 := by rw [List.getD_eq_getElem?_getD, t3]; rfl
  have P1 := Lib.hid (fun w => F.put w n width hn.1 hn.2 hw.1 hw.2)
  have X1 := Lib.hid (fun w => F.text w s width hs hw.1 hw.2)
  have P2 := Lib.hid (fun w => F.put w (P : Int) (k : Int) bP.1 bP.2 bk.1 bk.2)
  have P3 := Lib.hid (fun w => F.put w (M : Int) (k : Int) bM.1 bM.2 bk.1 bk.2)
  rw [t1] at P2
  rw [t2'] at P3
  have g11 := wrap_natw P (Nat.lt_of_le_of_lt hPle (by decide))
  have g13 := wrap_natw M (Nat.lt_of_lt_of_le (by rw [hM]; exact Nat.lt_succ_self M) (Nat.le_trans hPle (by decide)))
  have w1 := putErr_width n width
  have w2 := fieldErr_width s width
  have HT := Lib.hid (And.intro t5 (And.intro t6 hk2))
  generalize putErr n width = E1 at *
  generalize putT n width = T1 at *
  generalize fieldErr s width = E2 at *
  generalize fieldT s width = T2 at *
  generalize putT (P : Int) (k : Int) = T3 at *
  generalize putT (M : Int) (k : Int) = T4 at *
  clear bP bM bk hP hk2 hk12 hPle t1 t2 t3 t2' t4 t5 t6 hM hn hs hw hq0
  have W1 := Lib.hid w1
  have W2 := Lib.hid w2
  clear w1 w2
  go_enter Try.func6, Try.ntmps6
  go_upto_region 6 with (first
    | (go_at_call 7; refine (awake5_any F _).mono ?_; rintro e w1 ⟨rfl, hb⟩; have H1 := Lib.hid hb; clear hb)
    | (go_at_call 8; with_reducible refine (P1.out w1).mono ?_; rintro e w2 ⟨v1, rfl, ht, hb⟩; have H2 := Lib.hid (below_next H1.out hb); clear ht hb H1)
    | (go_at_call 13; with_reducible refine (X1.out w2).mono ?_; rintro e w3 ⟨v2, rfl, ht, hb⟩; have H3 := Lib.hid (below_next H2.out hb); clear ht hb H2))
  have HP := Lib.hid (show ∀ Q : Prop,
      (E1 = 1 → E2 = 1 → decide (width < 2) = true → decide (width < 1) = true → Q) →
      (E1 = 1 → (E2 == 1) = false → decide (width < 2) = true → decide (width < 1) = false → decide (255 < width) = false → Q) →
      ((E1 == 1) = false → (E2 == 1) = false → decide (width < 2) = false → decide (12 < width) = false → decide (width < 1) = false → decide (255 < width) = false → Q) →
      (E1 = 1 → (E2 == 1) = false → decide (width < 2) = false → decide (12 < width) = true → decide (width < 1) = false → decide (255 < width) = false → Q) →
      (E1 = 1 → E2 = 1 → decide (width < 2) = false → decide (12 < width) = true → decide (width < 1) = false → decide (255 < width) = true → Q) → Q from fun Q c1 c2 c3 c4 c5 => by
    have a1 := W1.out
    have a2 := W2.out
    by_cases x1 : width < 1
    · exact c1 (a1.2 (by omega)) (a2.2 (by omega)) (decide_eq_true (by omega)) (decide_eq_true x1)
    · by_cases x2 : width < 2
      · exact c2 (a1.2 (by omega)) (beq_eq_false_iff_ne.2 fun e => by have := a2.1 e; omega) (decide_eq_true x2) (decide_eq_false x1) (decide_eq_false (by omega))
      · by_cases x3 : 12 < width
        · by_cases x4 : 255 < width
          · exact c5 (a1.2 (by omega)) (a2.2 (by omega)) (decide_eq_false x2) (decide_eq_true x3) (decide_eq_false x1) (decide_eq_true x4)
          · exact c4 (a1.2 (by omega)) (beq_eq_false_iff_ne.2 fun e => by have := a2.1 e; omega) (decide_eq_false x2) (decide_eq_true x3) (decide_eq_false x1) (decide_eq_false x4)
        · exact c3 (beq_eq_false_iff_ne.2 fun e => by have := a1.1 e; omega) (beq_eq_false_iff_ne.2 fun e => by have := a2.1 e; omega) (decide_eq_false x2) (decide_eq_false x3) (decide_eq_false x1) (decide_eq_false (by omega)))
  have kp : (0 : Int) < (k : Int) := by have := HT.out.2.2; omega
  clear W1 W2 P1 X1 hU g1 g1' g2 g3 g4 g6 g8
  refine HP.out _ (fun y1 y2 d1 d2 => ?_) (fun y1 y2 d1 d2 d3 => ?_) (fun y1 y2 d1 d2 d3 d4 => ?_) (fun y1 y2 d1 d2 d3 d4 => ?_) (fun y1 y2 d1 d2 d3 d4 => ?_)
  · subst y1; subst y2
    clear HP
    go_wp2_with (first
      | (go_at_call 8; with_reducible refine (P2.out w3).mono ?_; rintro e w4 ⟨v3, rfl, ht, hb⟩; have H4 := Lib.hid (below_next H3.out hb); clear ht hb)
      | (go_at_call 8; with_reducible refine (P3.out w4).mono ?_; rintro e w5 ⟨v4, rfl, ht, hb⟩; have H5 := Lib.hid (below_next H4.out hb); obtain ⟨ad, cap, rfl, hc0⟩ := text_pos ht k 0 HT.out.1 (by have := HT.out.2.2; omega) 55 HT.out.2.1; rw [show ad.add 0 = ad from addr_zero ad] at hc0; clear ht hb))
    go_ret
    exact ⟨rfl, H5.out⟩
  · subst y1
    clear HP
    go_wp2_with (first
      | (go_at_call 8; with_reducible refine (P2.out w3).mono ?_; rintro e w4 ⟨v3, rfl, ht, hb⟩; have H4 := Lib.hid (below_next H3.out hb); clear ht hb)
      | (go_at_call 8; with_reducible refine (P3.out w4).mono ?_; rintro e w5 ⟨v4, rfl, ht, hb⟩; have H5 := Lib.hid (below_next H4.out hb); obtain ⟨ad, cap, rfl, hc0⟩ := text_pos ht k 0 HT.out.1 (by have := HT.out.2.2; omega) 55 HT.out.2.1; rw [show ad.add 0 = ad from addr_zero ad] at hc0; clear ht hb))
    go_ret
    exact ⟨rfl, H5.out⟩
  · clear HP
    go_wp2_with (first
      | (go_at_call 8; with_reducible refine (P2.out w3).mono ?_; rintro e w4 ⟨v3, rfl, ht, hb⟩; have H4 := Lib.hid (below_next H3.out hb); clear ht hb)
      | (go_at_call 8; with_reducible refine (P3.out w4).mono ?_; rintro e w5 ⟨v4, rfl, ht, hb⟩; have H5 := Lib.hid (below_next H4.out hb); obtain ⟨ad, cap, rfl, hc0⟩ := text_pos ht k 0 HT.out.1 (by have := HT.out.2.2; omega) 55 HT.out.2.1; rw [show ad.add 0 = ad from addr_zero ad] at hc0; clear ht hb))
    go_ret
    exact ⟨rfl, H5.out⟩
  · subst y1
    clear HP
    go_wp2_with (first
      | (go_at_call 8; with_reducible refine (P2.out w3).mono ?_; rintro e w4 ⟨v3, rfl, ht, hb⟩; have H4 := Lib.hid (below_next H3.out hb); clear ht hb)
      | (go_at_call 8; with_reducible refine (P3.out w4).mono ?_; rintro e w5 ⟨v4, rfl, ht, hb⟩; have H5 := Lib.hid (below_next H4.out hb); obtain ⟨ad, cap, rfl, hc0⟩ := text_pos ht k 0 HT.out.1 (by have := HT.out.2.2; omega) 55 HT.out.2.1; rw [show ad.add 0 = ad from addr_zero ad] at hc0; clear ht hb))
    go_ret
    exact ⟨rfl, H5.out⟩
  · subst y1; subst y2
    clear HP
    go_wp2_with (first
      | (go_at_call 8; with_reducible refine (P2.out w3).mono ?_; rintro e w4 ⟨v3, rfl, ht, hb⟩; have H4 := Lib.hid (below_next H3.out hb); clear ht hb)
      | (go_at_call 8; with_reducible refine (P3.out w4).mono ?_; rintro e w5 ⟨v4, rfl, ht, hb⟩; have H5 := Lib.hid (below_next H4.out hb); obtain ⟨ad, cap, rfl, hc0⟩ := text_pos ht k 0 HT.out.1 (by have := HT.out.2.2; omega) 55 HT.out.2.1; rw [show ad.add 0 = ad from addr_zero ad] at hc0; clear ht hb))
    go_ret
    exact ⟨rfl, H5.out⟩
end Go.Proofs.Ytpgimgfoifgkfaa
