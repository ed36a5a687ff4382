/-
The walks of the statements of layer 1 that hold the program's answers against the document's.
-/
import Derived.Test.YtnlnjgjggohdfaaDoorLaw01Walks
import Derived.Test.YtnlnjgjggohdfaaDoorRef01Walks
namespace Go.Proofs.YtnlnjgjggohdfaaDoor
open Go.RowKit
set_option maxHeartbeats 400000 in
theorem bitsSigmas_walk (x : BitVec 32) (w : World) (hc : w.cell? ⟨0, 0, none⟩ = some (.int .u32 1116352408)) :
    Calls Tryd.prog 4 #[.int .u32 (u32 x)] w fun e w' => e = .returned (.bool true) ∧ w.alloc firstO = w' := by
  go_enter Tryd.func4, Tryd.ntmps4
  go_wp2_with (first | (go_at_call 9; refine (awake_any _ hc).mono ?_; rintro e w' ⟨rfl, rfl⟩) | (go_at_call 16; (with_reducible refine (big0_any _ _).mono ?_); rintro e w' ⟨rfl, rfl⟩) | (go_at_call 18; (with_reducible refine (big1_any _ _).mono ?_); rintro e w' ⟨rfl, rfl⟩) | (go_at_call 20; (with_reducible refine (small0_any _ _).mono ?_); rintro e w' ⟨rfl, rfl⟩) | (go_at_call 22; (with_reducible refine (small1_any _ _).mono ?_); rintro e w' ⟨rfl, rfl⟩) | (go_at_call 17; (with_reducible refine (refBig0_any _ _).mono ?_); rintro e w' ⟨rfl, rfl⟩) | (go_at_call 19; (with_reducible refine (refBig1_any _ _).mono ?_); rintro e w' ⟨rfl, rfl⟩) | (go_at_call 21; (with_reducible refine (refSmall0_any _ _).mono ?_); rintro e w' ⟨rfl, rfl⟩) | (go_at_call 23; (with_reducible refine (refSmall1_any _ _).mono ?_); rintro e w' ⟨rfl, rfl⟩))
  go_ret
  exact ⟨rfl, rfl⟩
set_option maxHeartbeats 400000 in
theorem bitsTurns_walk (x y z : BitVec 32) (n : Int) (w : World) (hc : w.cell? ⟨0, 0, none⟩ = some (.int .u32 1116352408)) :
    Calls Tryd.prog 3 #[.agg #[.int .u32 (u32 x), .int .u32 (u32 y), .int .u32 (u32 z)], .int .i64 n] w fun e w' => e = .returned (.bool true) ∧ Below w.heap.size w w' := by
  have hw : ∀ o, (w.alloc o).cell? ⟨0, 0, none⟩ = some (.int .u32 1116352408) := fun o => (World.cell?_alloc_lt _ _ _ (World.block_lt_of_cell? _ _ hc)).trans hc
  have i0 : ∀ w, (Instr.index 23 (.agg #[.int .u32 (u32 x), .int .u32 (u32 y), .int .u32 (u32 z)]) (.int .i64 0)).run Tryd.prog w = .ok (.int .u32 (u32 x)) w := fun _ => by kernel_rfl
  have i1 : ∀ w, (Instr.index 23 (.agg #[.int .u32 (u32 x), .int .u32 (u32 y), .int .u32 (u32 z)]) (.int .i64 1)).run Tryd.prog w = .ok (.int .u32 (u32 y)) w := fun _ => by kernel_rfl
  have i2 : ∀ w, (Instr.index 23 (.agg #[.int .u32 (u32 x), .int .u32 (u32 y), .int .u32 (u32 z)]) (.int .i64 2)).run Tryd.prog w = .ok (.int .u32 (u32 z)) w := fun _ => by kernel_rfl
  go_enter Tryd.func3, Tryd.ntmps3
  go_wp2_with (first | (go_at_call 9; refine (awake_any _ (hw _)).mono ?_; rintro e w' ⟨rfl, rfl⟩) | (go_at_call 10; (with_reducible refine (rot_any _ _ _).mono ?_); rintro e w' ⟨rfl, rfl⟩) | (go_at_call 11; (with_reducible refine (refRot_any _ _ _).mono ?_); rintro e w' ⟨rfl, rfl⟩) | (go_at_call 12; (with_reducible refine (ch_any _ _ _ _).mono ?_); rintro e w' ⟨rfl, rfl⟩) | (go_at_call 14; (with_reducible refine (maj_any _ _ _ _).mono ?_); rintro e w' ⟨rfl, rfl⟩) | (go_at_call 13; (with_reducible refine (refCh_any _ _ _ _).mono ?_); rintro e w' ⟨rfl, rfl⟩) | (go_at_call 15; (with_reducible refine (refMaj_any _ _ _ _).mono ?_); rintro e w' ⟨rfl, rfl⟩))
  go_ret
  exact ⟨rfl, ((Below.refl _ _).alloc (Nat.le_refl _) _).alloc (by simp) _⟩
end Go.Proofs.YtnlnjgjggohdfaaDoor
