/-
What the document's own answers for layer 6 return: a path's two fields, and whether it is one.
-/
import Derived.Test.YtfechljjkblkhaaDoorRef06
import Derived.BigQuiet
import Derived.Deep.QuietTactic
namespace Go.Proofs.YtfechljjkblkhaaDoor
open Go.RowKit
theorem split_bad {s : List UInt8} (h : splitR s = none) : splitA s = [] ∧ splitB s = [] ∧ splitErr s = 9 := by simp [splitA, splitB, splitErr, h]
theorem split_good {s a b : List UInt8} (h : splitR s = some (a, b)) : splitA s = a ∧ splitB s = b ∧ splitErr s = 0 := by simp [splitA, splitB, splitErr, h]
theorem wrap_small6 (p : Nat) (h : p < 9223372036854775808) : IntKind.i64.wrap (p : Int) = (p : Int) := by rw [IntKind.wrap_i64]; omega
theorem splitR_cut {s : List UInt8} (hp : isParts s = true) (h1 : s.length ≤ 254) (h2 : 100 < s.length) : splitR s = match cutI s with
    | some i => if 155 < i then none else some (s.take i, s.drop (i + 1))
    | none => none := by
  unfold splitR
  rw [if_neg (by rw [hp]; simp; omega), if_neg (by omega)]
  rfl
theorem slice_to6 {P : Program} (w : World) (t : TypeId) (s : List UInt8) (k : Nat) (hk : k ≤ s.length) (ht : P.underlying t = some .string) :
    (Instr.slice t (.string (str s)) none (some (.int .i64 (k : Int))) none).run P w = .ok (.string (str (s.take k))) w := by
  rw [run_slice_string_h w t (str s) ht .i64 k (by omega) (by rw [str_size]; omega)]
  congr 2
  unfold str
  rw [ByteArray.extract_mk]; simp
theorem slice_from6 {P : Program} (w : World) (t : TypeId) (s : List UInt8) (k : Nat) (hk : k ≤ s.length) (ht : P.underlying t = some .string) :
    (Instr.slice t (.string (str s)) (some (.int .i64 (k : Int))) none none).run P w = .ok (.string (str (s.drop k))) w := by
  rw [run_slice_string_l w t (str s) ht .i64 k (by omega) (by rw [str_size]; omega)]
  congr 2
  rw [str_size]; unfold str
  rw [ByteArray.extract_mk, List.take_of_length_le (by simp)]; simp
end Go.Proofs.YtfechljjkblkhaaDoor
