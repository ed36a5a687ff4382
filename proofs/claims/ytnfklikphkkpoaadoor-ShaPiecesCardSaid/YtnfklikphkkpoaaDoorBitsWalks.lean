/-
What each function of package bits returns, for every argument and in every memory (K and First apart: K reads its table, so its table's cells are conditions).
-/
import Derived.Test.YtnfklikphkkpoaaDoorProg
import Derived.Test.YtnfklikphkkpoaaDoorBits
import Derived.WalkKit
import Derived.WalkSpells
import Derived.WalkLawsBesides
namespace Go.Proofs.YtnfklikphkkpoaaDoor
open Go.RowKit
set_option maxHeartbeats 400000 in
theorem rot_any (x : BitVec 32) (n : Int) (w : World) :
    Calls Tryd.prog 40 #[.int .u32 (u32 x), .int .i64 n] w fun e w' => e = .returned (.int .u32 (u32 (rot x n))) ∧ w = w' := by
  go_enter Tryd.func40, Tryd.ntmps40
  go_wp2
  go_ret
  exact ⟨rfl, rfl⟩
set_option maxHeartbeats 400000 in
theorem ch_any (x y z : BitVec 32) (w : World) :
    Calls Tryd.prog 31 #[.int .u32 (u32 x), .int .u32 (u32 y), .int .u32 (u32 z)] w fun e w' => e = .returned (.int .u32 (u32 (ch x y z))) ∧ w = w' := by
  go_enter Tryd.func31, Tryd.ntmps31
  go_wp2
  go_ret
  exact ⟨rfl, rfl⟩
set_option maxHeartbeats 400000 in
theorem maj_any (x y z : BitVec 32) (w : World) :
    Calls Tryd.prog 33 #[.int .u32 (u32 x), .int .u32 (u32 y), .int .u32 (u32 z)] w fun e w' => e = .returned (.int .u32 (u32 (maj x y z))) ∧ w = w' := by
  go_enter Tryd.func33, Tryd.ntmps33
  go_wp2
  go_ret
  exact ⟨rfl, rfl⟩
set_option maxHeartbeats 400000 in
theorem big0_any (x : BitVec 32) (w : World) :
    Calls Tryd.prog 32 #[.int .u32 (u32 x)] w fun e w' => e = .returned (.int .u32 (u32 (big0 x))) ∧ w = w' := by
  go_enter Tryd.func32, Tryd.ntmps32
  go_wp2_with (go_at_call 40; refine (rot_any _ _ _).mono ?_; rintro e w' ⟨rfl, rfl⟩)
  go_ret
  exact ⟨rfl, rfl⟩
set_option maxHeartbeats 400000 in
theorem big1_any (x : BitVec 32) (w : World) :
    Calls Tryd.prog 30 #[.int .u32 (u32 x)] w fun e w' => e = .returned (.int .u32 (u32 (big1 x))) ∧ w = w' := by
  go_enter Tryd.func30, Tryd.ntmps30
  go_wp2_with (go_at_call 40; refine (rot_any _ _ _).mono ?_; rintro e w' ⟨rfl, rfl⟩)
  go_ret
  exact ⟨rfl, rfl⟩
set_option maxHeartbeats 400000 in
theorem small0_any (x : BitVec 32) (w : World) :
    Calls Tryd.prog 29 #[.int .u32 (u32 x)] w fun e w' => e = .returned (.int .u32 (u32 (small0 x))) ∧ w = w' := by
  go_enter Tryd.func29, Tryd.ntmps29
  go_wp2_with (go_at_call 40; refine (rot_any _ _ _).mono ?_; rintro e w' ⟨rfl, rfl⟩)
  go_ret
  exact ⟨rfl, rfl⟩
set_option maxHeartbeats 400000 in
theorem small1_any (x : BitVec 32) (w : World) :
    Calls Tryd.prog 28 #[.int .u32 (u32 x)] w fun e w' => e = .returned (.int .u32 (u32 (small1 x))) ∧ w = w' := by
  go_enter Tryd.func28, Tryd.ntmps28
  go_wp2_with (go_at_call 40; refine (rot_any _ _ _).mono ?_; rintro e w' ⟨rfl, rfl⟩)
  go_ret
  exact ⟨rfl, rfl⟩
set_option maxHeartbeats 400000 in
/-- K of a round: what its table's cell holds. -/
theorem k_in (i : Int) (c : Int) (w : World) (h0 : 0 ≤ i) (h1 : i < 64) (hc : w.cell? ⟨0, i.toNat, none⟩ = some (.int .u32 c)) :
    Calls Tryd.prog 24 #[.int .i64 i] w fun e w' => e = .returned (.int .u32 c) ∧ w = w' := by
  go_enter Tryd.func24, Tryd.ntmps24
  go_wp2
  go_ret
  exact ⟨rfl, rfl⟩
set_option maxHeartbeats 400000 in
theorem k_out (i : Int) (w : World) (h : i < 0 ∨ 64 ≤ i) :
    Calls Tryd.prog 24 #[.int .i64 i] w fun e w' => e = .returned (.int .u32 0) ∧ w = w' := by
  by_cases h0 : i < 0
  · go_enter Tryd.func24, Tryd.ntmps24
    go_wp2
    go_ret
    exact ⟨rfl, rfl⟩
  · have h1 : 64 ≤ i := by omega
    go_enter Tryd.func24, Tryd.ntmps24
    go_wp2
    go_ret
    exact ⟨rfl, rfl⟩
def firstV : Value := .agg #[.int .u32 1779033703, .int .u32 3144134277, .int .u32 1013904242, .int .u32 2773480762, .int .u32 1359893119, .int .u32 2600822924, .int .u32 528734635, .int .u32 1541459225]
def firstO : Obj := .cells #[.int .u32 1779033703, .int .u32 3144134277, .int .u32 1013904242, .int .u32 2773480762, .int .u32 1359893119, .int .u32 2600822924, .int .u32 528734635, .int .u32 1541459225] 38
set_option maxHeartbeats 400000 in
theorem first_any (w : World) :
    Calls Tryd.prog 18 #[] w fun e w' => e = .returned firstV ∧ w.alloc firstO = w' := by
  go_enter Tryd.func18, Tryd.ntmps18
  go_wp2
  exact bodyPost_ret (v := firstV) (by simp [results, Tryd.results18, go_sem, firstV]) rfl ⟨rfl, rfl⟩
end Go.Proofs.YtnfklikphkkpoaaDoor
