/-
The walks of the statements of layer 2 on rounds, and on rounds undone.
-/
import Derived.Test.YtblmmpgainogbaaLaw02Awake
import Derived.Test.YtblmmpgainogbaaHeld
namespace Go.Proofs.Ytblmmpgainogbaa
open Go.RowKit
theorem cellsU32 : Try.prog.cellsOf 24 = 1 := by kernel_rfl
theorem guardRow8 : Try.prog.eqGuardType Try.prog.depth 28 = false := by kernel_rfl
theorem round_L (h : Nat → BitVec 32) (k x : BitVec 32) (w : World) : Calls Try.prog 11 #[.agg #[.int .u32 (u32 (h 0)), .int .u32 (u32 (h 1)), .int .u32 (u32 (h 2)), .int .u32 (u32 (h 3)), .int .u32 (u32 (h 4)), .int .u32 (u32 (h 5)), .int .u32 (u32 (h 6)), .int .u32 (u32 (h 7))], .int .u32 (u32 k), .int .u32 (u32 x)] w fun e w' => e = .returned (rowV .u32 8 (roundF h k x)) ∧ Below w.heap.size w w' := round_any h k x w
theorem round_V (h : Nat → BitVec 32) (k x : BitVec 32) (w : World) : Calls Try.prog 11 #[rowV .u32 8 h, .int .u32 (u32 k), .int .u32 (u32 x)] w fun e w' => e = .returned (rowV .u32 8 (roundF h k x)) ∧ Below w.heap.size w w' := round_any h k x w
theorem ref2Round_L (h : Nat → BitVec 32) (k x : BitVec 32) (w : World) : Calls Try.prog 12 #[.agg #[.int .u32 (u32 (h 0)), .int .u32 (u32 (h 1)), .int .u32 (u32 (h 2)), .int .u32 (u32 (h 3)), .int .u32 (u32 (h 4)), .int .u32 (u32 (h 5)), .int .u32 (u32 (h 6)), .int .u32 (u32 (h 7))], .int .u32 (u32 k), .int .u32 (u32 x)] w fun e w' => e = .returned (rowV .u32 8 (roundF h k x)) ∧ Below w.heap.size w w' := ref2Round_any h k x w
theorem ref2Round_V (h : Nat → BitVec 32) (k x : BitVec 32) (w : World) : Calls Try.prog 12 #[rowV .u32 8 h, .int .u32 (u32 k), .int .u32 (u32 x)] w fun e w' => e = .returned (rowV .u32 8 (roundF h k x)) ∧ Below w.heap.size w w' := ref2Round_any h k x w
theorem ref2Undo_L (h : Nat → BitVec 32) (k x : BitVec 32) (w : World) : Calls Try.prog 14 #[.agg #[.int .u32 (u32 (h 0)), .int .u32 (u32 (h 1)), .int .u32 (u32 (h 2)), .int .u32 (u32 (h 3)), .int .u32 (u32 (h 4)), .int .u32 (u32 (h 5)), .int .u32 (u32 (h 6)), .int .u32 (u32 (h 7))], .int .u32 (u32 k), .int .u32 (u32 x)] w fun e w' => e = .returned (rowV .u32 8 (undoF h k x)) ∧ Below w.heap.size w w' := ref2Undo_any h k x w
theorem ref2Undo_V (h : Nat → BitVec 32) (k x : BitVec 32) (w : World) : Calls Try.prog 14 #[rowV .u32 8 h, .int .u32 (u32 k), .int .u32 (u32 x)] w fun e w' => e = .returned (rowV .u32 8 (undoF h k x)) ∧ Below w.heap.size w w' := ref2Undo_any h k x w
theorem eql_VL {t e : TypeId} {P : Program} (ht : P.underlying t = some (.array 8 e)) (he : P.underlying e = some (.int .u32)) (hc : P.cellsOf e = 1) (g h : Nat → BitVec 32) {b : Bool} (hb : sameRow 8 g h = b) :
    ∀ w, (binOp .eql t (rowV .u32 8 g) (.agg #[.int .u32 (u32 (h 0)), .int .u32 (u32 (h 1)), .int .u32 (u32 (h 2)), .int .u32 (u32 (h 3)), .int .u32 (u32 (h 4)), .int .u32 (u32 (h 5)), .int .u32 (u32 (h 6)), .int .u32 (u32 (h 7))])).run P w = .ok (.bool b) w := eql_rowV (P := P) ht he hc g h hb
theorem guard_VL {P : Program} {t : TypeId} (hm : P.eqGuardType P.depth t = false) (x y : Operand) (g h : Nat → BitVec 32) :
    ∀ w, (eqGuard .eql t x y (rowV .u32 8 g) (.agg #[.int .u32 (u32 (h 0)), .int .u32 (u32 (h 1)), .int .u32 (u32 (h 2)), .int .u32 (u32 (h 3)), .int .u32 (u32 (h 4)), .int .u32 (u32 (h 5)), .int .u32 (u32 (h 6)), .int .u32 (u32 (h 7))])).run P w = .ok () w := guard_rowV hm x y .u32 8 g h
set_option maxHeartbeats 2000000 in
theorem blockUndone_walk (h : Nat → BitVec 32) (k x : BitVec 32) (w : World) :
    Calls Try.prog 5 #[.agg (row .u32 8 h), .int .u32 (u32 k), .int .u32 (u32 x)] w fun e w' => e = .returned (.bool true) ∧ Below w.heap.size w w' := by
  have hq1 := eql_VL Try.underlying28 Try.underlying24 cellsU32 (undoF (roundF h k x) k x) h (undo_round h k x)
  have hq2 := eql_VL Try.underlying28 Try.underlying24 cellsU32 (roundF (undoF h k x) k x) h (round_undo h k x)
  have hg1 := guard_VL guardRow8 (.tmp 17) (.tmp 18) (undoF (roundF h k x) k x) h
  have hg2 := guard_VL guardRow8 (.tmp 28) (.tmp 29) (roundF (undoF h k x) k x) h
  go_enter Try.func5, Try.ntmps5
  go_wp2_with (first | (go_at_call 7; refine (awake2_any _).mono ?_; rintro e w1 ⟨rfl, hb1⟩))
  have H0 := heap_last w (.cells (row .u32 8 h) 28 (0, 0))
  have hlt : w.heap.size < w1.heap.size := Nat.lt_of_lt_of_le (by simp) hb1.size
  have H1 := (hb1.block w.heap.size (by simp)).trans H0
  have B1 : Below w.heap.size w w1 := below_next ((Below.refl _ _).alloc (Nat.le_refl _) _) hb1
  have HS := Lib.hid (cells8_of H1)
  clear H0 H1 hb1
  go_region_held3 (fun w' => w'.cell? ⟨w.heap.size, 0, none⟩ = some (.int .u32 (u32 (h 0))) ∧ w'.cell? ⟨w.heap.size, 1, none⟩ = some (.int .u32 (u32 (h 1))) ∧ w'.cell? ⟨w.heap.size, 2, none⟩ = some (.int .u32 (u32 (h 2))) ∧ w'.cell? ⟨w.heap.size, 3, none⟩ = some (.int .u32 (u32 (h 3))) ∧ w'.cell? ⟨w.heap.size, 4, none⟩ = some (.int .u32 (u32 (h 4))) ∧ w'.cell? ⟨w.heap.size, 5, none⟩ = some (.int .u32 (u32 (h 5))) ∧ w'.cell? ⟨w.heap.size, 6, none⟩ = some (.int .u32 (u32 (h 6))) ∧ w'.cell? ⟨w.heap.size, 7, none⟩ = some (.int .u32 (u32 (h 7))) ∧ Below w1.heap.size w1 w') (first | exact cells8S_draw HS.out (Below.refl _ _) | exact cells8S_keep hlt (by assumption) hb5 | exact cells8S_keep hlt (by assumption) hb4 | exact cells8S_keep hlt (by assumption) hb3 | exact cells8S_keep hlt (by assumption) hb2)
    (first | (go_at_call 11; (with_reducible refine (round_L h k x _).mono ?_); rintro e w2 ⟨rfl, hb2⟩) | (go_at_call 14; (with_reducible refine (ref2Undo_V (roundF h k x) k x _).mono ?_); rintro e w3 ⟨rfl, hb3⟩) | (go_at_call 14; (with_reducible refine (ref2Undo_L h k x _).mono ?_); rintro e w4 ⟨rfl, hb4⟩) | (go_at_call 11; (with_reducible refine (round_V (undoF h k x) k x _).mono ?_); rintro e w5 ⟨rfl, hb5⟩))
  have hz : w5.cell? ⟨w.heap.size, 0, none⟩ = some (.int .u32 (u32 (h 0))) ∧ w5.cell? ⟨w.heap.size, 1, none⟩ = some (.int .u32 (u32 (h 1))) ∧ w5.cell? ⟨w.heap.size, 2, none⟩ = some (.int .u32 (u32 (h 2))) ∧ w5.cell? ⟨w.heap.size, 3, none⟩ = some (.int .u32 (u32 (h 3))) ∧ w5.cell? ⟨w.heap.size, 4, none⟩ = some (.int .u32 (u32 (h 4))) ∧ w5.cell? ⟨w.heap.size, 5, none⟩ = some (.int .u32 (u32 (h 5))) ∧ w5.cell? ⟨w.heap.size, 6, none⟩ = some (.int .u32 (u32 (h 6))) ∧ w5.cell? ⟨w.heap.size, 7, none⟩ = some (.int .u32 (u32 (h 7))) ∧ Below w1.heap.size w1 w5 := by assumption
  have B5 := below_next B1 hz.2.2.2.2.2.2.2.2
  clear hz hb2 hb3 hb4 hb5
  go_wp2
  go_ret
  exact ⟨rfl, B5⟩
end Go.Proofs.Ytblmmpgainogbaa
