/-
What each plain function of the document's own answers for layer 1 returns, for every argument and in every memory.
-/
import Derived.Test.YtnlnjgjggohdfaaDoorProg
import Derived.Test.YtnlnjgjggohdfaaDoorBits
import Derived.WalkKit
import Derived.Lib.Hide
import Derived.WalkSpells
import Derived.WalkLawsBesides
namespace Go.Proofs.YtnlnjgjggohdfaaDoor
open Go.RowKit
set_option maxHeartbeats 400000 in
theorem refShift_any (x : BitVec 32) (n : Nat) (hn : n < 100) (w : World) :
    Calls Tryd.prog 29 #[.int .u32 (u32 x), .int .i64 n] w fun e w' => e = .returned (.int .u32 (u32 (x >>> n))) ∧ w = w' := by
  go_enter Tryd.func29, Tryd.ntmps29
  go_wp2
  go_loop [0, 5] (fun a i => ∃ k : Nat, k ≤ n ∧ i = .int .i64 k ∧ a = .int .u32 (u32 (x >>> k))) (fun _ i => n - (intOf i).toNat)
  case atStart => exact ⟨0, by omega, rfl, by simp⟩
  case round =>
    obtain ⟨k, hk, rfl, rfl⟩ := hrel
    have h0 := u32_lo (x >>> k)
    have h1 := u32_hi (x >>> k)
    by_cases hlt : k < n
    · go_wp2
      go_round
      case rel => exact ⟨k + 1, by omega, by go_num, by rw [u32_half]⟩
      case measure => simp [intOf]; omega
    · obtain rfl : k = n := by omega
      go_wp2
      go_ret
      exact ⟨rfl, rfl⟩
set_option maxHeartbeats 400000 in
theorem refRot_any (x : BitVec 32) (n : Int) (w : World) :
    Calls Tryd.prog 11 #[.int .u32 (u32 x), .int .i64 n] w fun e w' => e = .returned (.int .u32 (u32 (rot x n))) ∧ w = w' := by
  have hl := (tmod32 n).1.1
  have hh := (tmod32 n).1.2
  by_cases h : n.tmod 32 < 0
  · go_enter Tryd.func11, Tryd.ntmps11
    go_wp2
    go_loop [0, 5] (fun a i => ∃ k : Nat, (k : Int) ≤ n.tmod 32 + 32 ∧ i = .int .i64 k ∧ a = .int .u32 (u32 (rot x k))) (fun _ i => (n.tmod 32 + 32 - (intOf i)).toNat)
    case atStart => exact ⟨0, by omega, rfl, by rw [show ((0 : Nat) : Int) = 0 from rfl, rot_zero]⟩
    case round =>
      obtain ⟨k, hk, rfl, rfl⟩ := hrel
      have h0 := u32_lo (rot x k)
      have h1 := u32_hi (rot x k)
      by_cases hlt : (k : Int) < n.tmod 32 + 32
      · go_wp2
        go_round
        case rel => exact ⟨k + 1, by omega, by go_num, by rw [rot_step, rot_rot]; rfl⟩
        case measure => simp [intOf]; omega
      · have e := rot_tmod x n k (by omega)
        go_wp2
        go_ret
        exact ⟨rfl, rfl⟩
  · go_enter Tryd.func11, Tryd.ntmps11
    go_wp2
    go_loop [0, 5] (fun a i => ∃ k : Nat, (k : Int) ≤ n.tmod 32 ∧ i = .int .i64 k ∧ a = .int .u32 (u32 (rot x k))) (fun _ i => (n.tmod 32 - (intOf i)).toNat)
    case atStart => exact ⟨0, by omega, rfl, by rw [show ((0 : Nat) : Int) = 0 from rfl, rot_zero]⟩
    case round =>
      obtain ⟨k, hk, rfl, rfl⟩ := hrel
      have h0 := u32_lo (rot x k)
      have h1 := u32_hi (rot x k)
      by_cases hlt : (k : Int) < n.tmod 32
      · go_wp2
        go_round
        case rel => exact ⟨k + 1, by omega, by go_num, by rw [rot_step, rot_rot]; rfl⟩
        case measure => simp [intOf]; omega
      · have e := rot_tmod x n k (by omega)
        go_wp2
        go_ret
        exact ⟨rfl, rfl⟩
set_option maxHeartbeats 400000 in
theorem refBig0_any (x : BitVec 32) (w : World) :
    Calls Tryd.prog 17 #[.int .u32 (u32 x)] w fun e w' => e = .returned (.int .u32 (u32 (big0 x))) ∧ w = w' := by
  go_enter Tryd.func17, Tryd.ntmps17
  go_wp2_with (first | (go_at_call 11; refine (refRot_any _ _ _).mono ?_; rintro e w' ⟨rfl, rfl⟩))
  go_ret
  exact ⟨rfl, rfl⟩
set_option maxHeartbeats 400000 in
theorem refBig1_any (x : BitVec 32) (w : World) :
    Calls Tryd.prog 19 #[.int .u32 (u32 x)] w fun e w' => e = .returned (.int .u32 (u32 (big1 x))) ∧ w = w' := by
  go_enter Tryd.func19, Tryd.ntmps19
  go_wp2_with (first | (go_at_call 11; refine (refRot_any _ _ _).mono ?_; rintro e w' ⟨rfl, rfl⟩))
  go_ret
  exact ⟨rfl, rfl⟩
set_option maxHeartbeats 400000 in
theorem refSmall0_any (x : BitVec 32) (w : World) :
    Calls Tryd.prog 21 #[.int .u32 (u32 x)] w fun e w' => e = .returned (.int .u32 (u32 (small0 x))) ∧ w = w' := by
  go_enter Tryd.func21, Tryd.ntmps21
  go_wp2_with (first | (go_at_call 11; refine (refRot_any _ _ _).mono ?_; rintro e w' ⟨rfl, rfl⟩) | (go_at_call 29; refine (refShift_any _ 3 (by omega) _).mono ?_; rintro e w' ⟨rfl, rfl⟩))
  go_ret
  exact ⟨rfl, rfl⟩
set_option maxHeartbeats 400000 in
theorem refSmall1_any (x : BitVec 32) (w : World) :
    Calls Tryd.prog 23 #[.int .u32 (u32 x)] w fun e w' => e = .returned (.int .u32 (u32 (small1 x))) ∧ w = w' := by
  go_enter Tryd.func23, Tryd.ntmps23
  go_wp2_with (first | (go_at_call 11; refine (refRot_any _ _ _).mono ?_; rintro e w' ⟨rfl, rfl⟩) | (go_at_call 29; refine (refShift_any _ 10 (by omega) _).mono ?_; rintro e w' ⟨rfl, rfl⟩))
  go_ret
  exact ⟨rfl, rfl⟩
set_option maxHeartbeats 400000 in
theorem refBit_any (x : BitVec 32) (n : Nat) (hn : n < 100) (w : World) :
    Calls Tryd.prog 28 #[.int .u32 (u32 x), .int .i64 n] w fun e w' => e = .returned (.int .u32 (bt x n)) ∧ w = w' := by
  go_enter Tryd.func28, Tryd.ntmps28
  go_wp2
  go_loop [0, 5] (fun a i => ∃ k : Nat, k ≤ n ∧ i = .int .i64 k ∧ a = .int .u32 (u32 (x >>> k))) (fun _ i => n - (intOf i).toNat)
  case atStart => exact ⟨0, by omega, rfl, by simp⟩
  case round =>
    obtain ⟨k, hk, rfl, rfl⟩ := hrel
    have h0 := u32_lo (x >>> k)
    have h1 := u32_hi (x >>> k)
    by_cases hlt : k < n
    · go_wp2
      go_round
      case rel => exact ⟨k + 1, by omega, by go_num, by rw [u32_half]⟩
      case measure => simp [intOf]; omega
    · obtain rfl : k = n := by omega
      go_wp2
      go_ret
      exact ⟨rfl, rfl⟩
set_option maxHeartbeats 400000 in
theorem refCh_any (x y z : BitVec 32) (w : World) :
    Calls Tryd.prog 13 #[.int .u32 (u32 x), .int .u32 (u32 y), .int .u32 (u32 z)] w fun e w' => e = .returned (.int .u32 (u32 (ch x y z))) ∧ w = w' := by
  go_enter Tryd.func13, Tryd.ntmps13
  go_wp2
  go_loop [7, 8] (fun a i => ∃ k : Int, -1 ≤ k ∧ k ≤ 31 ∧ i = .int .i64 k ∧ a = .int .u32 (u32 (ch x y z >>> (k + 1).toNat))) (fun _ i => (intOf i + 1).toNat)
  case atStart => exact ⟨31, by omega, by omega, rfl, by rw [show ch x y z >>> ((31 : Int) + 1).toNat = 0#32 from BitVec.ushiftRight_eq_zero (by decide)]; rfl⟩
  case round =>
    obtain ⟨k, hk0, hk1, rfl, rfl⟩ := hrel
    by_cases hk : 0 ≤ k
    · obtain ⟨j, rfl⟩ := Int.eq_ofNat_of_zero_le hk
      rw [show ((j : Int) + 1).toNat = j + 1 from by omega]
      have h0 := u32_lo (ch x y z >>> (j + 1))
      have hd := u32_down (ch x y z) j
      have hh := u32_hi (ch x y z >>> j)
      have b1 := bt_bd y j
      have b2 := bt_bd z j
      cases hb : bt x j == 1
      · rw [bt_ch0 x y z j (by omega) hb] at hd
        have hs : 2 * u32 (ch x y z >>> (j + 1)) + bt z j < 4294967296 := by omega
        have HD := Lib.hid hd
        clear hd hh
        go_wp2_with (go_at_call 28; refine (refBit_any _ _ (by omega) _).mono ?_; rintro e w' ⟨rfl, rfl⟩)
        go_round
        case rel => exact ⟨j - 1, by omega, by omega, by go_num, by rw [HD.out, show ((j : Int) - 1 + 1).toNat = j from by omega]⟩
        case measure => simp [intOf]
      · rw [bt_ch1 x y z j hb] at hd
        have hs : 2 * u32 (ch x y z >>> (j + 1)) + bt y j < 4294967296 := by omega
        have HD := Lib.hid hd
        clear hd hh
        go_wp2_with (go_at_call 28; refine (refBit_any _ _ (by omega) _).mono ?_; rintro e w' ⟨rfl, rfl⟩)
        go_round
        case rel => exact ⟨j - 1, by omega, by omega, by go_num, by rw [HD.out, show ((j : Int) - 1 + 1).toNat = j from by omega]⟩
        case measure => simp [intOf]
    · obtain rfl : k = -1 := by omega
      go_wp2
      go_ret
      exact ⟨by simp, rfl⟩
set_option maxHeartbeats 400000 in
theorem refMaj_any (x y z : BitVec 32) (w : World) :
    Calls Tryd.prog 15 #[.int .u32 (u32 x), .int .u32 (u32 y), .int .u32 (u32 z)] w fun e w' => e = .returned (.int .u32 (u32 (maj x y z))) ∧ w = w' := by
  go_enter Tryd.func15, Tryd.ntmps15
  go_wp2
  go_loop [7, 8] (fun a i => ∃ k : Int, -1 ≤ k ∧ k ≤ 31 ∧ i = .int .i64 k ∧ a = .int .u32 (u32 (maj x y z >>> (k + 1).toNat))) (fun _ i => (intOf i + 1).toNat)
  case atStart => exact ⟨31, by omega, by omega, rfl, by rw [show maj x y z >>> ((31 : Int) + 1).toNat = 0#32 from BitVec.ushiftRight_eq_zero (by decide)]; rfl⟩
  case round =>
    obtain ⟨k, hk0, hk1, rfl, rfl⟩ := hrel
    by_cases hk : 0 ≤ k
    · obtain ⟨j, rfl⟩ := Int.eq_ofNat_of_zero_le hk
      rw [show ((j : Int) + 1).toNat = j + 1 from by omega]
      have h0 := u32_lo (maj x y z >>> (j + 1))
      have hd := u32_down (maj x y z) j
      have hh := u32_hi (maj x y z >>> j)
      have b0 := bt_bd x j
      have b1 := bt_bd y j
      have b2 := bt_bd z j
      by_cases hb : 2 ≤ bt x j + bt y j + bt z j
      · rw [bt_maj x y z j, if_pos hb] at hd
        have hs : 2 * u32 (maj x y z >>> (j + 1)) + 1 < 4294967296 := by omega
        have HD := Lib.hid hd
        clear hd hh
        go_wp2_with (go_at_call 28; refine (refBit_any _ _ (by omega) _).mono ?_; rintro e w' ⟨rfl, rfl⟩)
        go_round
        case rel => exact ⟨j - 1, by omega, by omega, by go_num, by rw [HD.out, show ((j : Int) - 1 + 1).toNat = j from by omega]⟩
        case measure => simp [intOf]
      · rw [bt_maj x y z j, if_neg hb, Int.add_zero] at hd
        have hs : u32 (maj x y z >>> (j + 1)) < 2147483648 := by omega
        replace hb : decide (2 ≤ bt x j + bt y j + bt z j) = false := decide_eq_false hb
        have HD := Lib.hid hd
        clear hd hh
        go_wp2_with (go_at_call 28; refine (refBit_any _ _ (by omega) _).mono ?_; rintro e w' ⟨rfl, rfl⟩)
        go_round
        case rel => exact ⟨j - 1, by omega, by omega, by go_num, by rw [HD.out, show ((j : Int) - 1 + 1).toNat = j from by omega]⟩
        case measure => simp [intOf]
    · obtain rfl : k = -1 := by omega
      go_wp2
      go_ret
      exact ⟨by simp, rfl⟩
end Go.Proofs.YtnlnjgjggohdfaaDoor
