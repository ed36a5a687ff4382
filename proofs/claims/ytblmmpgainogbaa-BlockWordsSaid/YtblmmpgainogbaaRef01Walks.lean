/-
What each plain function of the document's own answers for layer 1 returns, for every argument and in every memory.
-/
import Derived.Test.YtblmmpgainogbaaProg
import Derived.Test.YtblmmpgainogbaaBits
import Derived.WalkKit
import Derived.Lib.Hide
import Derived.WalkSpells
import Derived.WalkLawsBesides
namespace Go.Proofs.Ytblmmpgainogbaa
open Go.RowKit
set_option maxHeartbeats 400000 in
theorem refShift_any (x : BitVec 32) (n : Nat) (hn : n < 100) (w : World) :
    Calls Try.prog 32 #[.int .u32 (u32 x), .int .i64 n] w fun e w' => e = .returned (.int .u32 (u32 (x >>> n))) ∧ w = w' := by
  go_enter Try.func32, Try.ntmps32
  go_wp2
  go_loop [0, 5] (fun a i => ∃ k : Nat, k ≤ n ∧ i = .int .i64 k ∧ a = .int .u32 (u32 (x >>> k))) (fun _ i => n - (intOf i).toNat)
  case atStart => exact ⟨0, by omega, rfl, by simp⟩
  case round =>
    obtain ⟨k, hk, rfl, rfl⟩ := hrel
    have h0 := u32_lo (x >>> k)
    have h1 := u32_hi (x >>> k)
    by_cases hlt : k < n
    · go_wp2
      go_round
      case rel => exact ⟨k + 1, by omega, by go_num, by rw [u32_half]⟩
      case measure => simp [intOf]; omega
    · obtain rfl : k = n := by omega
      go_wp2
      go_ret
      exact ⟨rfl, rfl⟩
set_option maxHeartbeats 400000 in
theorem refRot_any (x : BitVec 32) (n : Int) (w : World) :
    Calls Try.prog 31 #[.int .u32 (u32 x), .int .i64 n] w fun e w' => e = .returned (.int .u32 (u32 (rot x n))) ∧ w = w' := by
  have hl := (tmod32 n).1.1
  have hh := (tmod32 n).1.2
  by_cases h : n.tmod 32 < 0
  · go_enter Try.func31, Try.ntmps31
    go_wp2
    go_loop [0, 5] (fun a i => ∃ k : Nat, (k : Int) ≤ n.tmod 32 + 32 ∧ i = .int .i64 k ∧ a = .int .u32 (u32 (rot x k))) (fun _ i => (n.tmod 32 + 32 - (intOf i)).toNat)
    case atStart => exact ⟨0, by omega, rfl, by rw [show ((0 : Nat) : Int) = 0 from rfl, rot_zero]⟩
    case round =>
      obtain ⟨k, hk, rfl, rfl⟩ := hrel
      have h0 := u32_lo (rot x k)
      have h1 := u32_hi (rot x k)
      by_cases hlt : (k : Int) < n.tmod 32 + 32
      · go_wp2
        go_round
        case rel => exact ⟨k + 1, by omega, by go_num, by rw [rot_step, rot_rot]; rfl⟩
        case measure => simp [intOf]; omega
      · have e := rot_tmod x n k (by omega)
        go_wp2
        go_ret
        exact ⟨rfl, rfl⟩
  · go_enter Try.func31, Try.ntmps31
    go_wp2
    go_loop [0, 5] (fun a i => ∃ k : Nat, (k : Int) ≤ n.tmod 32 ∧ i = .int .i64 k ∧ a = .int .u32 (u32 (rot x k))) (fun _ i => (n.tmod 32 - (intOf i)).toNat)
    case atStart => exact ⟨0, by omega, rfl, by rw [show ((0 : Nat) : Int) = 0 from rfl, rot_zero]⟩
    case round =>
      obtain ⟨k, hk, rfl, rfl⟩ := hrel
      have h0 := u32_lo (rot x k)
      have h1 := u32_hi (rot x k)
      by_cases hlt : (k : Int) < n.tmod 32
      · go_wp2
        go_round
        case rel => exact ⟨k + 1, by omega, by go_num, by rw [rot_step, rot_rot]; rfl⟩
        case measure => simp [intOf]; omega
      · have e := rot_tmod x n k (by omega)
        go_wp2
        go_ret
        exact ⟨rfl, rfl⟩
set_option maxHeartbeats 400000 in
theorem refSmall0_any (x : BitVec 32) (w : World) :
    Calls Try.prog 16 #[.int .u32 (u32 x)] w fun e w' => e = .returned (.int .u32 (u32 (small0 x))) ∧ w = w' := by
  go_enter Try.func16, Try.ntmps16
  go_wp2_with (first | (go_at_call 31; refine (refRot_any _ _ _).mono ?_; rintro e w' ⟨rfl, rfl⟩) | (go_at_call 32; refine (refShift_any _ 3 (by omega) _).mono ?_; rintro e w' ⟨rfl, rfl⟩))
  go_ret
  exact ⟨rfl, rfl⟩
set_option maxHeartbeats 400000 in
theorem refSmall1_any (x : BitVec 32) (w : World) :
    Calls Try.prog 15 #[.int .u32 (u32 x)] w fun e w' => e = .returned (.int .u32 (u32 (small1 x))) ∧ w = w' := by
  go_enter Try.func15, Try.ntmps15
  go_wp2_with (first | (go_at_call 31; refine (refRot_any _ _ _).mono ?_; rintro e w' ⟨rfl, rfl⟩) | (go_at_call 32; refine (refShift_any _ 10 (by omega) _).mono ?_; rintro e w' ⟨rfl, rfl⟩))
  go_ret
  exact ⟨rfl, rfl⟩
end Go.Proofs.Ytblmmpgainogbaa
