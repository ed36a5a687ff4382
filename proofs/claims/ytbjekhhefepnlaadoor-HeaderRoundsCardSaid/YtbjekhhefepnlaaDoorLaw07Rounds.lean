/-
The walk of the statement on sizes up to whole blocks, and bytes that are all 0.
-/
import Derived.Test.YtbjekhhefepnlaaDoorHeaderFace
namespace Go.Proofs.YtbjekhhefepnlaaDoor
open Go.RowKit
/-- The numbers of a size up to whole blocks. -/
theorem round_nums (x : Int) : ∃ z r : Int, x.tmod 100000 = z ∧ wrap64 z = z ∧ IntKind.i64.wrap z = z ∧ -100000 < z ∧ z < 100000 ∧ roundZ z = r ∧ r.tmod 512 = 0 ∧ decide (r ≥ z) = true ∧ decide (r ≥ 0) = true ∧ wrap64 (r - 512) = r - 512 ∧ (r ≠ 0 → decide (r - 512 < z) = true) := by
  have h1 := Int.tmod_lt_of_pos x (show (0 : Int) < 100000 by decide)
  have h2 : -100000 < x.tmod 100000 := by
    rcases Int.le_total 0 x with h | h
    · have := Int.tmod_nonneg 100000 h; omega
    · have e : x = -(-x) := by omega
      have := Int.tmod_lt_of_pos (-x) (show (0 : Int) < 100000 by decide)
      rw [e, Int.neg_tmod]; omega
  generalize x.tmod 100000 = z at h1 h2
  refine ⟨z, roundZ z, rfl, by rw [wrap64]; omega, by rw [IntKind.wrap_i64]; omega, h2, h1, rfl, ?_⟩
  unfold roundZ
  by_cases h : z ≤ 0
  · rw [if_pos h]
    exact ⟨rfl, decide_eq_true (by omega), rfl, by rw [wrap64]; omega, fun h => absurd rfl h⟩
  · rw [if_neg h]
    obtain ⟨q, hq⟩ : ∃ q, q = (z + 511) / 512 := ⟨_, rfl⟩
    rw [← hq]
    have : q ≤ 200 := by omega
    refine ⟨by rw [Int.tmod_eq_emod_of_nonneg (by omega)]; omega, decide_eq_true (by omega), decide_eq_true (by omega), by rw [wrap64]; omega, fun _ => decide_eq_true (by omega)⟩
theorem all_next {b : List UInt8} {k : Nat} {c : UInt8} (hc : b[k]? = some c) : (b.take (k + 1)).all (· == 0) = ((b.take k).all (· == 0) && (c == 0)) := by
  obtain ⟨hk, rfl⟩ := List.getElem?_eq_some_iff.1 hc
  rw [List.take_succ_eq_append_getElem hk, List.all_append]; simp
theorem measure_upR (p k : Nat) (h : k < p) : p - (intOf (.int .i64 ((k + 1 : Nat) : Int))).toNat < p - (intOf (.int .i64 (k : Int))).toNat := by
  simp only [intOf, Int.toNat_natCast]; omega
set_option maxRecDepth 100000 in
set_option maxHeartbeats 8000000 in
theorem headerRounds_walk (F : HeaderFace) (G : RoundFace) (x : Int) (b : List UInt8) (hb : b.length < 4611686018427387904) (v : Value) (w : World) (hv : HasText w v b) :
    Calls Tryd.prog 7 #[.int .i64 x, v] w fun e w' => e = .returned (.bool true) ∧ Below w.heap.size w w' := by
  obtain ⟨z, r, e1, e2, e2', z1, z2, hr, e3, d1, d2, e4, d3⟩ := round_nums x
  have R1 := Lib.hid (fun w => G.round w z z1 z2)
  have R2 := Lib.hid (fun w => refRound_any z z2 w)
  rw [hr] at R1 R2
  have K1 := Lib.hid (fun w hv => G.blank w v b hb hv)
  have K2 := Lib.hid (fun w => G.blank w (.slice none 0 0) [] (by decide) (hasText_nil w))
  have HV := Lib.hid hv
  obtain ⟨n, hn⟩ : ∃ n, n = b.length := ⟨_, rfl⟩
  obtain ⟨ao, cap, rfl⟩ := text_shape hv n hn.symm
  have HN := Lib.hid (show n = b.length ∧ n < 4611686018427387904 from ⟨hn, by omega⟩)
  have D3 := Lib.hid d3
  clear hb hv hn hr z1 z2 d3
  go_enter Tryd.func7, Tryd.ntmps7
  go_upto_region 5 with (first
    | (go_at_call 9; refine (awake7_any F _).mono ?_; rintro e w1 ⟨rfl, hb⟩; have H1 := Lib.hid hb; clear hb)
    | (go_at_call 15; refine (R1.out _).mono ?_; rintro e w2 ⟨rfl, hb⟩; have H2 := Lib.hid (below_next H1.out hb); have V2 := Lib.hid (text_keep HV.out H2.out); clear hb H1))
  go_loopw [7, 8] (fun a c wr => wr = w2 ∧ ∃ k : Nat, k ≤ n ∧ c = .int .i64 k ∧ a = .bool ((b.take k).all (· == 0))) (fun _ c _ => n - (intOf c).toNat)
  case atStart => exact ⟨rfl, 0, by omega, rfl, by simp⟩
  case round =>
    obtain ⟨rfl, k, hk, rfl, rfl⟩ := hrel
    by_cases hlt : k < n
    · have q0 : (k : Int) < (n : Int) := by omega
      obtain ⟨ad, c, rfl, hc, -, c0⟩ := text_at V2.out k (by rw [← HN.out.1]; exact hlt)
      have HA := Lib.hid (all_next hc)
      have w1 := next64 k (by have := HN.out.2; omega)
      obtain ⟨y, hy⟩ : ∃ y : Nat, y = c.toNat := ⟨_, rfl⟩
      have hc0 : (c == 0) = ((y : Int) == 0) := by
        rw [Bool.eq_iff_iff, beq_iff_eq, beq_iff_eq, hy]
        exact ⟨fun h => by rw [h]; rfl, fun h => UInt8.toNat_inj.1 (by rw [show (0 : UInt8).toNat = 0 from rfl]; omega)⟩
      rw [← hy] at c0
      have HC := Lib.hid hc0
      generalize (b.take k).all (· == 0) = A at *
      clear hc hc0 hy e1 e2 e2' e3 e4 d1 d2
      cases A with
      | true =>
        go_wp2
        go_roundw
        case rel => exact ⟨trivial, k + 1, hlt, by rw [w1], by rw [HA.out, HC.out]; rfl⟩
        case measure => rw [w1]; exact measure_upR n k hlt
      | false =>
        go_wp2
        go_roundw
        case rel => exact ⟨trivial, k + 1, hlt, by rw [w1], by rw [HA.out]; rfl⟩
        case measure => rw [w1]; exact measure_upR n k hlt
    · obtain rfl : k = n := by omega
      have ht : b.take k = b := List.take_of_length_le (by rw [HN.out.1]; exact Nat.le_refl _)
      rw [ht]
      obtain ⟨A, hA⟩ : ∃ A, A = b.all (· == 0) := ⟨_, rfl⟩
      rw [← hA] at K1 ⊢
      clear ht hA
      by_cases hr0 : r = 0
      · subst hr0
        go_wp2_with (first
          | (go_at_call 16; refine (R2.out _).mono ?_; rintro e w3 ⟨rfl, rfl⟩)
          | (go_at_call 17; with_reducible refine (K1.out _ V2.out).mono ?_; rintro e w4 ⟨rfl, hb⟩; have H4 := Lib.hid (below_next H2.out hb); clear hb)
          | (go_at_call 17; refine (K2.out _).mono ?_; rintro e w5 ⟨rfl, hb⟩; have H5 := Lib.hid (below_next H4.out hb); clear hb))
        go_ret
        exact ⟨rfl, H5.out⟩
      · have d5 : (r == 0) = false := by rw [beq_eq_false_iff_ne]; exact hr0
        have d6 := D3.out hr0
        clear hr0
        go_wp2_with (first
          | (go_at_call 16; refine (R2.out _).mono ?_; rintro e w3 ⟨rfl, rfl⟩)
          | (go_at_call 17; with_reducible refine (K1.out _ V2.out).mono ?_; rintro e w4 ⟨rfl, hb⟩; have H4 := Lib.hid (below_next H2.out hb); clear hb)
          | (go_at_call 17; refine (K2.out _).mono ?_; rintro e w5 ⟨rfl, hb⟩; have H5 := Lib.hid (below_next H4.out hb); clear hb))
        go_ret
        exact ⟨rfl, H5.out⟩
end Go.Proofs.YtbjekhhefepnlaaDoor
