/-
What package octal answers, walked over the landed code: Check, Get.
-/
import Derived.Test.YtbjekhhefepnlaaDoorOctalFace
import Derived.Test.YtbjekhhefepnlaaDoorRef05
import Derived.StillTailTactics
import Derived.Deep.DeepCutAuto
namespace Go.Proofs.YtbjekhhefepnlaaDoor
open Go.RowKit
set_option maxHeartbeats 2000000 in
theorem check_any (b : List UInt8) (hb : b.length < 4611686018427387904) (v : Value) (w : World) (hv : HasText w v b) : Calls Tryd.prog 34 #[v] w fun e w' => e = .returned (.int .i64 (IntKind.i64.wrap (sumL b))) ∧ Below w.heap.size w w' := by
  have HV := Lib.hid hv
  obtain ⟨ao, cap, rfl, -⟩ := hv
  obtain ⟨n, hn⟩ : ∃ n, n = (b.map w8).length := ⟨_, rfl⟩
  rw [← hn] at HV ⊢
  have hnl : n = b.length := by rw [hn, List.length_map]
  have HN := Lib.hid hnl
  clear hn
  have hn : n < 4611686018427387904 := by omega
  clear hnl
  go_enter Tryd.func34, Tryd.ntmps34
  go_wp2
  go_loopw [3, 8] (fun s c wr => wr = w ∧ ∃ k : Nat, k ≤ n ∧ c = .int .i64 k ∧ s = .int .i64 (IntKind.i64.wrap (sumTo b k))) (fun _ c _ => n - (intOf c).toNat)
  case atStart => exact ⟨rfl, 0, by omega, rfl, by rw [sumTo_zero]; rfl⟩
  case round =>
    obtain ⟨rfl, k, hk, rfl, rfl⟩ := hrel
    by_cases hlt : k < n
    · have q0 : (k : Int) < (n : Int) := by omega
      obtain ⟨s, hs⟩ : ∃ s : Int, s = (sumTo b k : Int) := ⟨_, rfl⟩
      have HS := Lib.hid hs
      rw [← hs]
      clear hs
      obtain ⟨ad, c, rfl, hc, hcd, c0⟩ := text_at HV.out k (by rw [← HN.out]; exact hlt)
      obtain ⟨x, hx⟩ : ∃ x : Nat, x = c.toNat := ⟨_, rfl⟩
      have HX := Lib.hid hx
      rw [← hx] at c0
      have hx2 : (x : Int) < 256 := by have := UInt8.toNat_lt c; omega
      have HC := Lib.hid hcd
      clear hc hcd hx
      by_cases h1 : 148 ≤ k ∧ k ≤ 155
      · have d1 : decide ((148 : Int) ≤ (k : Int)) = true := decide_eq_true (by omega)
        have d2 : decide ((k : Int) < 156) = true := decide_eq_true (by omega)
        have HE := Lib.hid (show (sumTo b (k + 1) : Int) = s + 32 by rw [sumTo_succ, HS.out, sumAt, if_pos h1]; omega)
        have e1 := wrap_sum s 32
        clear hx2
        go_wp2
        go_roundw
        case rel => exact ⟨trivial, k + 1, by omega, by go_num, by rw [HE.out, IntKind.wrap_i64, wrap64]⟩
        case measure => simp [intOf]; omega
      · have HE := Lib.hid (show (sumTo b (k + 1) : Int) = s + (x : Int) by rw [sumTo_succ, HS.out, sumAt, if_neg h1, HC.out, HX.out]; omega)
        have e1 := wrap_sum s (x : Int)
        by_cases h2 : 148 ≤ k
        · have d1 : decide ((148 : Int) ≤ (k : Int)) = true := decide_eq_true (by omega)
          have d2 : decide ((k : Int) < 156) = false := decide_eq_false (by omega)
          go_wp2
          go_roundw
          case rel => exact ⟨trivial, k + 1, by omega, by go_num, by rw [HE.out, IntKind.wrap_i64, wrap64]⟩
          case measure => simp [intOf]; omega
        · have d1 : decide ((148 : Int) ≤ (k : Int)) = false := decide_eq_false (by omega)
          go_wp2
          go_roundw
          case rel => exact ⟨trivial, k + 1, by omega, by go_num, by rw [HE.out, IntKind.wrap_i64, wrap64]⟩
          case measure => simp [intOf]; omega
    · obtain rfl : k = n := by omega
      go_wp2
      go_ret
      exact ⟨by rw [HN.out]; rfl, Below.refl _ _⟩
end Go.Proofs.YtbjekhhefepnlaaDoor
