/-
What the document's own answers for layer 6 return: whether a text is a part, and parts with / between.
-/
import Derived.Test.YtfechljjkblkhaaDoorPath
import Derived.Test.YtfechljjkblkhaaDoorProg
import Derived.WalkKit
import Derived.Lib.Hide
import Derived.WalkLawsBesides
import Derived.Laws.DeepStrings4
namespace Go.Proofs.YtfechljjkblkhaaDoor
open Go.RowKit
theorem isLet_of (c : UInt8) (x : Nat) (hx : x = c.toNat) : isLet c = ((decide (97 ≤ x) && decide (x ≤ 122)) || (decide (65 ≤ x) && decide (x ≤ 90)) || (decide (48 ≤ x) && decide (x ≤ 57)) || decide (x = 45) || decide (x = 46) || decide (x = 95) || decide (x = 43) || decide (x = 126)) := by
  have e : ∀ k : UInt8, (c == k) = decide (x = k.toNat) := fun k => by
    rw [Bool.eq_iff_iff, beq_iff_eq, decide_eq_true_eq, hx]
    exact ⟨fun h => by rw [h], fun h => UInt8.toNat_inj.1 h⟩
  unfold isLet
  rw [e, e, e, e, e, hx]; rfl
/-- A text's beginning with one byte more. -/
theorem take_next {s : List UInt8} {k : Nat} {c : UInt8} (h : s[k]? = some c) : s.take (k + 1) = s.take k ++ [c] := by
  obtain ⟨hk, rfl⟩ := List.getElem?_eq_some_iff.1 h
  exact List.take_succ_eq_append_getElem hk
/-- A piece of a text. -/
theorem slice_mid {P : Program} (w : World) (t : TypeId) (s : List UInt8) (f k : Nat) (hf : f ≤ k) (hk : k ≤ s.length) (ht : P.underlying t = some .string) :
    (Instr.slice t (.string (str s)) (some (.int .i64 (f : Int))) (some (.int .i64 (k : Int))) none).run P w = .ok (.string (str ((s.take k).drop f))) w := by
  rw [run_slice_string_if w t (str s) .i64 .i64 f k ht, if_pos ⟨by omega, by rw [str_size]; omega⟩, if_pos ⟨by omega, by omega⟩, Int.toNat_natCast, Int.toNat_natCast]
  congr 2
  unfold str
  rw [ByteArray.extract_mk]
  simp [List.drop_take]
theorem piece_ok {s : List UInt8} {f i : Nat} (hi : i ≤ s.length) (hn : ∀ j, f ≤ j → j < i → s.getD j 0 ≠ 47) : ∀ c ∈ (s.take i).drop f, c ≠ 47 := fun c hc e => by
  obtain ⟨j, hj, rfl⟩ := List.mem_iff_getElem.1 hc
  rw [List.length_drop, List.length_take] at hj
  rw [List.getElem_drop, List.getElem_take] at e
  exact hn (f + j) (by omega) (by omega) (by rw [List.getD_eq_getElem?_getD, List.getElem?_eq_getElem (by omega), Option.getD_some, e])
/-- The rest of a text from a place on, parted at a byte /. -/
theorem rest_slash {s : List UInt8} {f i : Nat} (hf : f ≤ i) (hi : i < s.length) (hs : s.getD i 0 = 47) : s.drop f = (s.take i).drop f ++ 47 :: s.drop (i + 1) := by
  conv => lhs; rw [take_slash hi hs]
  rw [List.drop_append_of_le_length (by rw [List.length_take]; omega)]
theorem rest_end {s : List UInt8} {f : Nat} : s.drop f = (s.take s.length).drop f := by rw [List.take_length]
end Go.Proofs.YtfechljjkblkhaaDoor
