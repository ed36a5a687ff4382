/-
What package hexa owes, as contracts; and the walk that all statements of layer 4 begin with.
-/
import Derived.Test.YtfechljjkblkhaaDoorHexa
import Derived.Test.YtfechljjkblkhaaDoorProg
import Derived.WalkKit
import Derived.Lib.Hide
import Derived.WalkLawsBesides
import Derived.Lib.ItoaNum
import Derived.Lib.LaidTab
namespace Go.Proofs.YtfechljjkblkhaaDoor
open Go.RowKit
/-- The table of the powers of ten, as strconv lays it. -/
def PowTab (w : World) : Prop := Lib.TabIs Tryd.prog w "internal/strconv.uint64pow10" .u64 Lib.pow10Tab
theorem gPow : Tryd.prog.globalNamed "internal/strconv.uint64pow10" = some 1 := by kernel_rfl
theorem powTab_below {w w' : World} (h : PowTab w) (hb : Below w.heap.size w w') : PowTab w' := by
  unfold PowTab Lib.TabIs World.var? at h ⊢
  rw [gPow] at h ⊢
  simp only [Option.bind_some] at h ⊢
  have hlt : 1 < w.heap.size := by
    rcases Nat.lt_or_ge 1 w.heap.size with h' | h'
    · exact h'
    · rw [Array.getElem?_eq_none h'] at h; cases h
  rw [hb.block _ hlt]
  exact h
theorem powTab_alloc {w : World} (h : PowTab w) (o : Obj) : PowTab (w.alloc o) := powTab_below h ((Below.refl _ _).alloc (Nat.le_refl _) _)
def dF (i : Nat) : BitVec 32 := if i = 0 then 255#32 else 0#32
theorem dF_lt (i : Nat) : u32 (dF i) < 256 := by unfold dF; split <;> decide
theorem cellsByte : Tryd.prog.cellsOf 5 = 1 := by kernel_rfl
theorem parsed_text (f : Nat → BitVec 32) (hf : ∀ i, u32 (f i) < 256) : rowV .u8 32 (parsed (textF f)) = rowV .u8 32 f ∧ parseErr (textF f) = 0 := by
  have h := isText_textF f hf
  refine ⟨?_, by simp [parseErr, h]⟩
  unfold rowV
  rw [show parsed (textF f) = parseF (textF f) by simp [parsed, h]]
  exact congrArg _ (row_congr _ _ _ _ fun j hj => parse_text f hf j hj)
theorem ff_two : (textF dF).take 2 = [102, 102] := by decide +kernel
theorem num12 : numL (-12) = [45, 49, 50] := by
  rw [show (-12 : Int) = -((12 : Nat) : Int) from rfl]
  unfold numL
  rw [if_pos (by omega), show (-((12 : Nat) : Int)).natAbs = 12 from rfl, digs_hi 12 (by omega), digs_lo (12 / 10) (by omega)]; rfl
theorem read7 : readErr [55] 6 = 8 ∧ readN [55] 6 = 0 := by
  have h : isNum [55] = true := by
    have := isNum_digs 7 (by omega)
    rwa [digs_lo 7 (by omega)] at this
  have hv : valN [55] = 7 := by have := valN_digs 7; rwa [digs_lo 7 (by omega)] at this
  simp [readErr, readN, h, hv]
theorem read07 : readErr [48, 55] 9 = 2 ∧ readN [48, 55] 9 = 0 := by
  have hv : valN [48, 55] = 7 := by
    rw [show ([48, 55] : List UInt8) = ([] ++ [48]) ++ [55] from rfl, valN_snoc, valN_snoc, valN_nil]; rfl
  have h : isNum [48, 55] = false := by simp [isNum, hv, digs_lo]
  simp [readErr, readN, h]
theorem slice_to {P : Program} (w : World) (t : TypeId) (l : List UInt8) (n : Nat) (hn : n ≤ l.length) (ht : P.underlying t = some .string) : (Instr.slice t (.string (str l)) none (some (.int .i64 (n : Int))) none).run P w = .ok (.string (str (l.take n))) w := by
  rw [run_slice_string_h w t (str l) ht .i64 n (by omega) (by rw [str_size]; omega)]
  have e : (str l).extract 0 (n : Int).toNat = str (l.take n) := by
    unfold str; rw [ByteArray.extract_mk]; simp
  rw [e]
end Go.Proofs.YtfechljjkblkhaaDoor
