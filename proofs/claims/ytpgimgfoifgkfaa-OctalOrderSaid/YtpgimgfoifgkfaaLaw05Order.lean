/-
The walk of the statement that fields of one width stand in the order of their numbers.
-/
import Derived.Test.YtpgimgfoifgkfaaOctalFace
import Derived.Test.YtpgimgfoifgkfaaRef05
namespace Go.Proofs.Ytpgimgfoifgkfaa
open Go.RowKit
theorem putErr_in (n w : Int) (h1 : 2 ≤ w) (h2 : w ≤ 12) : putErr n w = 0 ∨ putErr n w = 8 := by
  rcases putErr_cases n w with h | h | h
  · exact .inl h
  · have := (putErr_width n w).1 h; omega
  · exact .inr h
theorem wrap_nat (p : Nat) (h : p < 9223372036854775808) : IntKind.i64.wrap (p : Int) = (p : Int) := by rw [IntKind.wrap_i64]; omega
set_option maxRecDepth 100000 in
set_option maxHeartbeats 8000000 in
theorem octalOrder_walk (F : OctalFace) (n m c : Nat) (hn : n < 4294967296) (hm : m < 4294967296) (hc : c < 256) (w : World) :
    Calls Try.prog 4 #[.int .u32 (n : Int), .int .u32 (m : Int), .int .u8 (c : Int)] w fun e w' => e = .returned (.bool true) ∧ Below w.heap.size w w' := by
  obtain ⟨r, hr⟩ : ∃ r : Nat, r = c % 11 := ⟨_, rfl⟩
  obtain ⟨k, hk⟩ : ∃ k : Nat, k = 2 + r := ⟨_, rfl⟩
  have hk2 : 2 ≤ k := by omega
  have hk12 : k ≤ 12 := by omega
  have P1 := Lib.hid (fun w => F.put w (n : Int) (k : Int) (by omega) (by omega) (by omega) (by omega))
  have P2 := Lib.hid (fun w => F.put w (m : Int) (k : Int) (by omega) (by omega) (by omega) (by omega))
  have f1 : (c : Int).tmod 11 = (r : Int) := by rw [Int.tmod_eq_emod_of_nonneg (by omega)]; omega
  have f2 : IntKind.u8.wrap (r : Int) = (r : Int) := by rw [IntKind.wrap_u8]; omega
  have f3 := wrap_nat r (by omega)
  have f4 : (2 : Int) + (r : Int) = (k : Int) := by omega
  have f5 := wrap_nat k (by omega)
  have f6 := wrap_nat n (by omega)
  have f7 := wrap_nat m (by omega)
  have hE1 := putErr_in (n : Int) (k : Int) (by omega) (by omega)
  have hlen := fun h => (get_put (n : Int) (k : Int) h).2.2
  have hord : putErr (n : Int) (k : Int) = 0 → putErr (m : Int) (k : Int) = 0 → Op.bytesLess (putT (n : Int) (k : Int)) (putT (m : Int) (k : Int)) = decide ((n : Int) < (m : Int)) := fun h1 h2 => by
    have a1 := ((putErr_ok _ _).1 h1).2.2.2
    have a2 := ((putErr_ok _ _).1 h2).2.2.2
    rw [Int.toNat_natCast, Int.toNat_natCast] at a1 a2
    have h := order_put n m k a1 a2
    rw [putT, putT, if_pos h1, if_pos h2, Int.toNat_natCast, Int.toNat_natCast, Int.toNat_natCast, h, decide_eq_decide]
    omega
  have hlast : putErr (n : Int) (k : Int) = 0 → (putT (n : Int) (k : Int)).getD (k - 1) 0 = 0 := fun h => by
    rw [putT, if_pos h, Int.toNat_natCast, Int.toNat_natCast, putL, List.getD_eq_getElem?_getD, List.getElem?_append_right (by rw [octs_length]; omega), octs_length, Nat.sub_self]
    rfl
  rw [Int.toNat_natCast] at hlen
  generalize putErr (n : Int) (k : Int) = E1 at *
  generalize putErr (m : Int) (k : Int) = E2 at *
  generalize putT (n : Int) (k : Int) = T1 at *
  generalize putT (m : Int) (k : Int) = T2 at *
  have ht1 : (str T1).toList = T1 := str_toList T1
  have ht2 : (str T2).toList = T2 := str_toList T2
  have HK := Lib.hid (And.intro hk2 hk12)
  have HX := Lib.hid (And.intro hlen (And.intro hord hlast))
  clear hr hk hn hm hc hk2 hk12 hlen hord hlast
  by_cases hz1 : E1 = 0
  · subst hz1
    by_cases hz2 : E2 = 0
    · subst hz2
      have hlt := HX.out.2.1 rfl rfl
      obtain ⟨q, hq⟩ : ∃ q : Nat, k = q + 1 := ⟨k - 1, by have := HK.out; omega⟩
      have g1 : (k : Int) - 1 = (q : Int) := by omega
      have g2 := wrap_nat q (by have := HK.out; omega)
      have g3 : (q : Int) < (k : Int) := by omega
      have HQ := Lib.hid hq
      have HC := Lib.hid (show T1.getD q 0 = 0 by rw [show q = k - 1 from by omega]; exact HX.out.2.2 rfl)
      have HL := Lib.hid (HX.out.1 rfl)
      clear hq hE1 HX
      go_enter Try.func4, Try.ntmps4
      go_wp2_with (first
        | (go_at_call 7; refine (awake5_any F _).mono ?_; rintro e w1 ⟨rfl, hb⟩; have H1 := Lib.hid hb; clear hb)
        | (go_at_call 8; with_reducible refine (P1.out w1).mono ?_; rintro e w2 ⟨v1, rfl, ht, hb⟩; have HT := Lib.hid ht; obtain ⟨ad, cap1, rfl, -⟩ := text_pos ht k q HL.out (by have := HQ.out; omega) 0 HC.out; have H2 := Lib.hid (below_next H1.out hb); clear hb)
        | (go_at_call 8; with_reducible refine (P2.out w2).mono ?_; rintro e w3 ⟨v2, rfl, ht, hb⟩; have hx := text_keep HT.out hb; have cv1 := conv_text Try.underlying22 Try.underlying5 Try.underlying9 hx; have cv2 := conv_text Try.underlying22 Try.underlying5 Try.underlying9 ht; obtain ⟨ad', cap', e1, hc3⟩ := text_pos hx k q HL.out (by have := HQ.out; omega) 0 HC.out; cases e1; have H3 := Lib.hid (below_next H2.out hb); clear ht hb HT hx))
      go_ret
      exact ⟨rfl, H3.out⟩
    · clear hE1 HX
      go_enter Try.func4, Try.ntmps4
      go_wp2_with (first
        | (go_at_call 7; refine (awake5_any F _).mono ?_; rintro e w1 ⟨rfl, hb⟩; have H1 := Lib.hid hb; clear hb)
        | (go_at_call 8; with_reducible refine (P1.out w1).mono ?_; rintro e w2 ⟨v1, rfl, ht, hb⟩; have H2 := Lib.hid (below_next H1.out hb); clear hb)
        | (go_at_call 8; with_reducible refine (P2.out w2).mono ?_; rintro e w3 ⟨v2, rfl, ht, hb⟩; have H3 := Lib.hid (below_next H2.out hb); clear hb))
      go_ret
      exact ⟨rfl, H3.out⟩
  · have hE8 : E1 = 8 := hE1.resolve_left hz1
    subst hE8
    clear hE1 hz1 HX
    go_enter Try.func4, Try.ntmps4
    go_wp2_with (first
      | (go_at_call 7; refine (awake5_any F _).mono ?_; rintro e w1 ⟨rfl, hb⟩; have H1 := Lib.hid hb; clear hb)
      | (go_at_call 8; with_reducible refine (P1.out w1).mono ?_; rintro e w2 ⟨v1, rfl, ht, hb⟩; have H2 := Lib.hid (below_next H1.out hb); clear hb)
      | (go_at_call 8; with_reducible refine (P2.out w2).mono ?_; rintro e w3 ⟨v2, rfl, ht, hb⟩; have H3 := Lib.hid (below_next H2.out hb); clear hb))
    go_ret
    exact ⟨rfl, H3.out⟩
theorem octalOrder_any (F : OctalFace) (n m c : Int) (hn : (Lit.int .u32 n).wf = true) (hm : (Lit.int .u32 m).wf = true) (hc : (Lit.int .u8 c).wf = true) (w : World) :
    Calls Try.prog 4 #[.int .u32 n, .int .u32 m, .int .u8 c] w fun e w' => e = .returned (.bool true) ∧ Below w.heap.size w w' := by
  simp [Lit.wf, IntKind.min, IntKind.max, IntKind.signed, IntKind.bits] at hn hm hc
  obtain ⟨a, rfl⟩ : ∃ a : Nat, n = (a : Int) := ⟨n.toNat, by omega⟩
  obtain ⟨b, rfl⟩ : ∃ b : Nat, m = (b : Int) := ⟨m.toNat, by omega⟩
  obtain ⟨d, rfl⟩ : ∃ d : Nat, c = (d : Int) := ⟨c.toNat, by omega⟩
  exact octalOrder_walk F a b d (by omega) (by omega) (by omega) w
end Go.Proofs.Ytpgimgfoifgkfaa
