/-
The walk that all statements of layer 1 begin with, and the walks of the statements themselves.
-/
import Derived.Test.YtnlnjgjggohdfaaDoorBitsWalks
namespace Go.Proofs.YtnlnjgjggohdfaaDoor
open Go.RowKit
theorem rot_one (w : World) : Calls Tryd.prog 10 #[.int .u32 1, .int .i64 1] w fun e w' => e = .returned (.int .u32 2147483648) ∧ w = w' := by
  have h := rot_any (1#32) 1 w
  rwa [show u32 1#32 = 1 from by decide, show u32 (rot 1#32 1) = 2147483648 from by decide] at h
set_option maxHeartbeats 400000 in
/-- awake: true, where the table's first cell holds its first constant. -/
theorem awake_any (w : World) (hc : w.cell? ⟨0, 0, none⟩ = some (.int .u32 1116352408)) :
    Calls Tryd.prog 9 #[] w fun e w' => e = .returned (.bool true) ∧ w.alloc firstO = w' := by
  have i0 : ∀ w, (Instr.index 31 firstV (.int .i64 0)).run Tryd.prog w = .ok (.int .u32 1779033703) w := fun _ => by kernel_rfl
  unfold firstV at i0
  go_enter Tryd.func9, Tryd.ntmps9
  go_wp2_with (first | (go_at_call 10; refine (rot_one _).mono ?_; rintro e w' ⟨rfl, rfl⟩) | (go_at_call 24; refine (k_in _ _ _ (by omega) (by omega) hc).mono ?_; rintro e w' ⟨rfl, rfl⟩) | (go_at_call 26; refine (first_any _).mono ?_; rintro e w' ⟨rfl, rfl⟩; unfold firstV))
  go_ret
  exact ⟨rfl, rfl⟩
theorem big0_zero (w : World) : Calls Tryd.prog 16 #[.int .u32 0] w fun e w' => e = .returned (.int .u32 0) ∧ w = w' := by
  have h := big0_any (0#32) w
  rwa [show u32 0#32 = 0 from by decide, show u32 (big0 0#32) = 0 from by decide] at h
theorem small1_zero (w : World) : Calls Tryd.prog 22 #[.int .u32 0] w fun e w' => e = .returned (.int .u32 0) ∧ w = w' := by
  have h := small1_any (0#32) w
  rwa [show u32 0#32 = 0 from by decide, show u32 (small1 0#32) = 0 from by decide] at h
set_option maxHeartbeats 400000 in
theorem bitsAdds_walk (x y : BitVec 32) (w : World) (hc : w.cell? ⟨0, 0, none⟩ = some (.int .u32 1116352408)) :
    Calls Tryd.prog 6 #[.int .u32 (u32 x), .int .u32 (u32 y)] w fun e w' => e = .returned (.bool true) ∧ w.alloc firstO = w' := by
  have e1 := big0_xor x y
  have e2 := big1_xor x y
  have e3 := small0_xor x y
  have e4 := small1_xor x y
  go_enter Tryd.func6, Tryd.ntmps6
  go_wp2_with (first | (go_at_call 9; refine (awake_any _ hc).mono ?_; rintro e w' ⟨rfl, rfl⟩) | (go_at_call 16; (with_reducible refine (big0_any _ _).mono ?_); rintro e w' ⟨rfl, rfl⟩) | (go_at_call 18; (with_reducible refine (big1_any _ _).mono ?_); rintro e w' ⟨rfl, rfl⟩) | (go_at_call 20; (with_reducible refine (small0_any _ _).mono ?_); rintro e w' ⟨rfl, rfl⟩) | (go_at_call 22; (with_reducible refine (small1_any _ _).mono ?_); rintro e w' ⟨rfl, rfl⟩) | (go_at_call 16; (with_reducible refine (big0_zero _).mono ?_); rintro e w' ⟨rfl, rfl⟩) | (go_at_call 22; (with_reducible refine (small1_zero _).mono ?_); rintro e w' ⟨rfl, rfl⟩))
  go_ret
  exact ⟨rfl, rfl⟩
set_option maxHeartbeats 400000 in
theorem bitsBack_walk (x : BitVec 32) (n m : Int) (hn0 : -32768 ≤ n) (hn1 : n ≤ 32767) (hm0 : -32768 ≤ m) (hm1 : m ≤ 32767) (w : World) (hc : w.cell? ⟨0, 0, none⟩ = some (.int .u32 1116352408)) :
    Calls Tryd.prog 7 #[.int .u32 (u32 x), .int .i16 n, .int .i16 m] w fun e w' => e = .returned (.bool true) ∧ w.alloc firstO = w' := by
  have e1 := rot_rot x n m
  have e2 : rot (rot x n) (-n) = x := by rw [rot_rot, show n + -n = 0 from by omega, rot_zero]
  have e3 := rot_mod x n
  go_enter Tryd.func7, Tryd.ntmps7
  go_wp2_with (first | (go_at_call 9; refine (awake_any _ hc).mono ?_; rintro e w' ⟨rfl, rfl⟩) | (go_at_call 10; (with_reducible refine (rot_any _ _ _).mono ?_); rintro e w' ⟨rfl, rfl⟩))
  go_ret
  exact ⟨rfl, rfl⟩
set_option maxHeartbeats 400000 in
theorem bitsChoice_walk (x y z : BitVec 32) (w : World) (hc : w.cell? ⟨0, 0, none⟩ = some (.int .u32 1116352408)) :
    Calls Tryd.prog 8 #[.int .u32 (u32 x), .int .u32 (u32 y), .int .u32 (u32 z)] w fun e w' => e = .returned (.bool true) ∧ w.alloc firstO = w' := by
  have e1 := ch_not x y z
  have e2 := ch_same x y
  have e3 : (maj x y z == maj y x z) = true := by rw [maj_12]; simp
  have e4 : (maj x y z == maj z y x) = true := by rw [maj_13]; simp
  have e5 := maj_same x z
  have e6 := maj_not x y z
  have e7 : (maj x y z == ch (x ^^^ y) z y) = true := by rw [maj_ch]; simp
  go_enter Tryd.func8, Tryd.ntmps8
  go_wp2_with (first | (go_at_call 9; refine (awake_any _ hc).mono ?_; rintro e w' ⟨rfl, rfl⟩) | (go_at_call 12; (with_reducible refine (ch_any _ _ _ _).mono ?_); rintro e w' ⟨rfl, rfl⟩) | (go_at_call 14; (with_reducible refine (maj_any _ _ _ _).mono ?_); rintro e w' ⟨rfl, rfl⟩))
  go_ret
  exact ⟨rfl, rfl⟩
end Go.Proofs.YtnlnjgjggohdfaaDoor
