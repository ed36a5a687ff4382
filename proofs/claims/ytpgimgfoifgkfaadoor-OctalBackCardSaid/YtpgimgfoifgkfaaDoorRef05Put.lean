/-
What the document's own Put returns for layer 5: a number as a field of some width.
-/
import Derived.Test.YtpgimgfoifgkfaaDoorRef05Text
namespace Go.Proofs.YtpgimgfoifgkfaaDoor
open Go.RowKit
theorem ownsB_one (w : World) (e : TypeId) (c : UInt8) (n : Nat) (hn : c.toNat = n) (base : Nat) (hb : base ≤ w.heap.size) : OwnsB (w.alloc (.cells #[.int .u8 (n : Int)] e (0, 0))) base e (.slice (some ⟨w.heap.size, 0, none⟩) 1 1) [c] := by
  subst hn
  exact ⟨w.heap.size, 1, _, (0, 0), rfl, hb, heap_last _ _, .inl rfl, Nat.le_refl 1, by decide, rfl, rfl⟩
theorem text_below {w w' : World} {v : Value} {l : List UInt8} (h : HasText w v l) (hb : Below w.heap.size w w') : HasText w' v l := has_below h hb
theorem put_bad {n w x : Int} (h : putErr n w = x) (hx : x ≠ 0) : putT n w = [] := by rw [putT, if_neg (by rw [h]; exact hx)]
end Go.Proofs.YtpgimgfoifgkfaaDoor
