/-
What the document's plain functions Prime, K and First return: the primes, and the constants.
-/
import Derived.Test.YtblmmpgainogbaaRef01Root
import Derived.Test.YtblmmpgainogbaaPrime
import Derived.Test.YtblmmpgainogbaaBitsWalks
namespace Go.Proofs.Ytblmmpgainogbaa
open Go.RowKit
set_option maxHeartbeats 1000000 in
theorem refPrime_any (i : Nat) (hi : i < 64) (w : World) :
    Calls Try.prog 30 #[.int .i64 i] w fun e w' => e = .returned (.int .u64 (prime i)) ∧ w = w' := by
  go_enter Try.func30, Try.ntmps30
  go_wp2
  go_loop [0, 3] (fun a n => ∃ c m : Nat, c ≤ i + 1 ∧ a = .int .i64 ((i : Int) - c) ∧ n = .int .u64 m ∧ 1 ≤ m ∧ m ≤ 311 ∧ (c = 0 ∨ prime (c - 1) ≤ m) ∧ (c ≤ i → m < prime c) ∧ (c = i + 1 → m = prime i)) (fun a n => ((intOf a + 1).toNat * 400 + (400 - (intOf n).toNat)))
  case atStart =>
    refine ⟨0, 1, by omega, by simp, rfl, by omega, by omega, .inl rfl, fun _ => ?_, fun h => by omega⟩
    have := (prime_at 0 (by omega)).1; omega
  case round =>
    obtain ⟨c, m, hc, rfl, rfl, hm1, hm2, hlo, hhi, hend⟩ := hrel
    by_cases hlt : c ≤ i
    · have hmp := hhi hlt
      have hp := prime_at c (by omega)
      have HN := Lib.hid (next_prime c m (by omega) hm2 hm1 hlo hmp)
      have HLO := Lib.hid hlo
      clear hhi hend hlo
      go_wp2
      go_loop [4, 5] (fun s x => ∃ d : Nat, 2 ≤ d ∧ d ≤ 22 ∧ x = .int .u64 d ∧ s = .bool (freeTo (m + 1) d) ∧ Hid (firstAbove (m + 1) (22 - d) d = firstAbove (m + 1) 20 2)) (fun _ x => 30 - (intOf x).toNat)
      case atStart => exact ⟨2, by omega, by omega, rfl, rfl, Lib.hid rfl⟩
      case round =>
        obtain ⟨d, hd2, hd22, rfl, rfl, HF⟩ := hrel
        have hdd0 : 0 ≤ (d : Int) * (d : Int) := Int.mul_nonneg (by omega) (by omega)
        have hdd1 : (d : Int) * (d : Int) ≤ 484 := by
          have := Nat.mul_le_mul hd22 hd22
          rw [← Int.natCast_mul]; omega
        by_cases hsq : d * d ≤ m + 1
        · have hs : decide ((d : Int) * (d : Int) ≤ (m : Int) + 1) = true := decide_eq_true (by rw [← Int.natCast_mul]; omega)
          have hd21 := small_root d (m + 1) hsq (by omega)
          have HF2 := Lib.hid ((firstAbove_step (m + 1) d hd21 hsq).symm.trans HF.out)
          have HS := Lib.hid (freeTo_succ (m + 1) d hd2)
          clear hsq
          generalize freeTo (m + 1) d = fr at *
          cases fr
          · go_wp2
            go_round
            case rel => exact ⟨d + 1, by omega, by omega, by go_num, by rw [HS.out]; rfl, HF2⟩
            case measure => simp only [intOf]; omega
          · go_wp2
            go_round
            case rel =>
              refine ⟨d + 1, by omega, by omega, by go_num, ?_, HF2⟩
              rw [HS.out]
              rw [mod_ne]; rfl
            case measure => simp only [intOf]; omega
        · have hs : decide ((d : Int) * (d : Int) ≤ (m : Int) + 1) = false := decide_eq_false (by rw [← Int.natCast_mul]; omega)
          have HD : Hid (freeTo (m + 1) d = isPrime (m + 1)) := Lib.hid (by unfold isPrime; rw [← HF.out, firstAbove_stop _ _ hsq])
          clear hsq
          generalize freeTo (m + 1) d = fr at *
          cases fr
          · have hne : m + 1 < prime c := by
              have h1 := HN.out
              rw [← HD.out] at h1
              have : m + 1 ≠ prime c := by simpa using h1.symm
              omega
            go_wp2
            go_round
            case rel =>
              refine ⟨c, m + 1, hc, rfl, by go_num, by omega, by omega, ?_, fun _ => hne, fun h => by omega⟩
              rcases HLO.out with h | h
              · exact .inl h
              · exact .inr (by omega)
            case measure => simp only [intOf]; omega
          · have heq : m + 1 = prime c := by
              have h1 := HN.out
              rw [← HD.out] at h1
              simpa using h1.symm
            have HE := Lib.hid heq
            clear heq
            go_wp2
            go_round
            case rel =>
              refine ⟨c + 1, m + 1, by omega, by go_num, by go_num, by omega, by have := HE.out; omega, .inr (by rw [HE.out]; exact Nat.le_refl _), fun h => ?_, fun h => ?_⟩
              · rw [HE.out]; exact prime_lt c (by omega)
              · obtain rfl : c = i := by omega
                exact HE.out
            case measure => simp only [intOf]; omega
    · obtain rfl : c = i + 1 := by omega
      have HE := Lib.hid (hend rfl)
      clear hhi hlo hend
      rw [show ((i : Int) - ((i + 1 : Nat) : Int)) = -1 from by omega]
      go_wp2
      go_ret
      exact ⟨by rw [HE.out]; rfl, rfl⟩
/-- A word of the constants' table. -/
def kWord (i : Nat) : Int := kTab.getD i 0
theorem kWord_root (i : Nat) (hi : i < 64) : (cubeRoot (prime i) : Int) % 4294967296 = kWord i := by
  have h := List.all_eq_true.1 rootK_all i (by simpa using hi)
  rw [cubeRoot_eq]
  unfold kWord
  rw [← beq_iff_eq.1 h]; omega
set_option maxHeartbeats 1000000 in
theorem refK_in (i : Nat) (hi : i < 64) (w : World) :
    Calls Try.prog 13 #[.int .i64 i] w fun e w' => e = .returned (.int .u32 (kWord i)) ∧ Below w.heap.size w w' := by
  have hp := prime_at i hi
  have hr := cubeRoot_bd (prime i)
  have HK := Lib.hid (kWord_root i hi)
  go_enter Try.func13, Try.ntmps13
  go_wp2_with (first | (go_at_call 30; refine (refPrime_any i hi _).mono ?_; rintro e w' ⟨rfl, rfl⟩) | (go_at_call 29; refine (refCube_any (prime i) (by omega) _).mono ?_; rintro e w1 ⟨rfl, hb⟩))
  go_ret
  exact ⟨by rw [← HK.out]; rfl, hb⟩
set_option maxHeartbeats 1000000 in
theorem refK_out (i : Int) (w : World) (h : i < 0 ∨ 64 ≤ i) :
    Calls Try.prog 13 #[.int .i64 i] w fun e w' => e = .returned (.int .u32 0) ∧ w = w' := by
  by_cases h0 : i < 0
  · go_enter Try.func13, Try.ntmps13
    go_wp2
    go_ret
    exact ⟨rfl, rfl⟩
  · have h1 : 63 < i := by omega
    go_enter Try.func13, Try.ntmps13
    go_wp2
    go_ret
    exact ⟨rfl, rfl⟩
end Go.Proofs.Ytblmmpgainogbaa
