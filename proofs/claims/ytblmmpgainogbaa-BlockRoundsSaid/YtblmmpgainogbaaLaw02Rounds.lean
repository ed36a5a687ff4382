/-
The walk of the statement of layer 2 on rounds and their constants.
-/
import Derived.Test.YtblmmpgainogbaaLaw02Undone
import Derived.Test.YtblmmpgainogbaaRef01Consts
namespace Go.Proofs.Ytblmmpgainogbaa
open Go.RowKit
theorem refK_B (i : Nat) (hi : i < 64) (w : World) : Calls Try.prog 13 #[.int .i64 i] w fun e w' => e = .returned (.int .u32 (u32 (kB i))) ∧ Below w.heap.size w w' := by
  rw [← kTab_at i hi]; exact refK_in i hi w
theorem ref2Constants_V (w : World) : Calls Try.prog 10 #[] w fun e w' => e = .returned (rowV .u32 64 kB) ∧ Below w.heap.size w w' := ref2Constants_any w
theorem index_kB (i : Nat) (hi : i < 64) : ∀ w, (Instr.index 25 (rowV .u32 64 kB) (.int .i64 i)).run Try.prog w = .ok (.int .u32 (u32 (kB i))) w := fun w =>
  index_row w kB i hi Try.underlying25 Try.underlying24 cellsU32
theorem eql_VV {t e : TypeId} {P : Program} (ht : P.underlying t = some (.array 8 e)) (he : P.underlying e = some (.int .u32)) (hc : P.cellsOf e = 1) (g : Nat → BitVec 32) :
    ∀ w, (binOp .eql t (rowV .u32 8 g) (rowV .u32 8 g)).run P w = .ok (.bool true) w := eql_rowV (P := P) ht he hc g g (sameRow_self 8 g)
set_option maxHeartbeats 2000000 in
theorem blockRounds_walk (h : Nat → BitVec 32) (k x : BitVec 32) (w : World) :
    Calls Try.prog 4 #[.agg (row .u32 8 h), .int .u32 (u32 k), .int .u32 (u32 x)] w fun e w' => e = .returned (.bool true) ∧ Below w.heap.size w w' := by
  have hx0 := u32_lo x
  obtain ⟨i, hi⟩ : ∃ i : Nat, (i : Int) = u32 x % 64 := ⟨(u32 x % 64).toNat, by omega⟩
  have hi64 : i < 64 := by omega
  have hmod : u32 x % 64 = (i : Int) := hi.symm
  clear hi
  have hix := index_kB i hi64
  have hq1 := eql_VV Try.underlying28 Try.underlying24 cellsU32 (roundF h k x)
  have hg1 := guard_rowV guardRow8 (.tmp 22) (.tmp 26) .u32 8 (roundF h k x) (roundF h k x)
  go_enter Try.func4, Try.ntmps4
  go_wp2_with (first | (go_at_call 7; refine (awake2_any _).mono ?_; rintro e w1 ⟨rfl, hb1⟩) | (go_at_call 10; refine (ref2Constants_V _).mono ?_; rintro e w2 ⟨rfl, hb2⟩))
  have H0 := heap_last w (.cells (row .u32 8 h) 28 (0, 0))
  have hlt : w.heap.size < w1.heap.size := Nat.lt_of_lt_of_le (by simp) hb1.size
  have H1 := (hb1.block w.heap.size (by simp)).trans H0
  have H2 := (hb2.block w.heap.size hlt).trans H1
  have hlt2 : w.heap.size < w2.heap.size := Nat.lt_of_lt_of_le hlt hb2.size
  have B2 : Below w.heap.size w w2 := below_next (below_next ((Below.refl _ _).alloc (Nat.le_refl _) _) hb1) hb2
  have HS := Lib.hid (cells8_of H2)
  clear H0 H1 H2 hb1 hb2 hlt
  go_region_held3 (fun w' => w'.cell? ⟨w.heap.size, 0, none⟩ = some (.int .u32 (u32 (h 0))) ∧ w'.cell? ⟨w.heap.size, 1, none⟩ = some (.int .u32 (u32 (h 1))) ∧ w'.cell? ⟨w.heap.size, 2, none⟩ = some (.int .u32 (u32 (h 2))) ∧ w'.cell? ⟨w.heap.size, 3, none⟩ = some (.int .u32 (u32 (h 3))) ∧ w'.cell? ⟨w.heap.size, 4, none⟩ = some (.int .u32 (u32 (h 4))) ∧ w'.cell? ⟨w.heap.size, 5, none⟩ = some (.int .u32 (u32 (h 5))) ∧ w'.cell? ⟨w.heap.size, 6, none⟩ = some (.int .u32 (u32 (h 6))) ∧ w'.cell? ⟨w.heap.size, 7, none⟩ = some (.int .u32 (u32 (h 7))) ∧ Below w2.heap.size w2 w') (first | exact cells8S_draw HS.out (Below.refl _ _) | exact cells8S_keep hlt2 (by assumption) hb5 | exact cells8S_keep hlt2 (by assumption) hb4 | exact cells8S_keep hlt2 (by assumption) hb3)
    (first | (go_at_call 11; (with_reducible refine (round_L h k x _).mono ?_); rintro e w3 ⟨rfl, hb3⟩) | (go_at_call 12; (with_reducible refine (ref2Round_L h k x _).mono ?_); rintro e w4 ⟨rfl, hb4⟩) | (go_at_call 13; refine (refK_B i hi64 _).mono ?_; rintro e w5 ⟨rfl, hb5⟩))
  have hz : w5.cell? ⟨w.heap.size, 0, none⟩ = some (.int .u32 (u32 (h 0))) ∧ w5.cell? ⟨w.heap.size, 1, none⟩ = some (.int .u32 (u32 (h 1))) ∧ w5.cell? ⟨w.heap.size, 2, none⟩ = some (.int .u32 (u32 (h 2))) ∧ w5.cell? ⟨w.heap.size, 3, none⟩ = some (.int .u32 (u32 (h 3))) ∧ w5.cell? ⟨w.heap.size, 4, none⟩ = some (.int .u32 (u32 (h 4))) ∧ w5.cell? ⟨w.heap.size, 5, none⟩ = some (.int .u32 (u32 (h 5))) ∧ w5.cell? ⟨w.heap.size, 6, none⟩ = some (.int .u32 (u32 (h 6))) ∧ w5.cell? ⟨w.heap.size, 7, none⟩ = some (.int .u32 (u32 (h 7))) ∧ Below w2.heap.size w2 w5 := by assumption
  have B5 := below_next B2 hz.2.2.2.2.2.2.2.2
  clear hz hb3 hb4 hb5
  go_wp2
  go_ret
  exact ⟨rfl, B5⟩
end Go.Proofs.Ytblmmpgainogbaa
