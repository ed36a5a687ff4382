/-
What package octal owes, as contracts; and the walk that all statements of layer 5 begin with.
-/
import Derived.Test.YtbjekhhefepnlaaDoorOctal
import Derived.Test.YtbjekhhefepnlaaDoorMark
import Derived.Test.YtbjekhhefepnlaaDoorProg
import Derived.WalkKit
import Derived.Lib.Hide
import Derived.WalkLawsBesides
namespace Go.Proofs.YtbjekhhefepnlaaDoor
open Go.RowKit
structure OctalFace : Prop where
  put : ∀ w (n width : Int), -9223372036854775808 ≤ n → n < 9223372036854775808 → -9223372036854775808 ≤ width → width < 9223372036854775808 → Calls Tryd.prog 33 #[.int .i64 n, .int .i64 width] w fun e w' => ∃ v, e = .returned (.tuple #[v, .int .i64 (putErr n width)]) ∧ HasText w' v (putT n width) ∧ Below w.heap.size w w'
  get : ∀ w v (b : List UInt8), b.length < 4611686018427387904 → HasText w v b → Calls Tryd.prog 24 #[v] w fun e w' => e = .returned (.tuple #[.int .i64 (getN b), .int .i64 (getErr b)]) ∧ Below w.heap.size w w'
  text : ∀ w (s : List UInt8) (width : Int), s.length < 4611686018427387904 → -9223372036854775808 ≤ width → width < 9223372036854775808 → Calls Tryd.prog 32 #[.string (str s), .int .i64 width] w fun e w' => ∃ v, e = .returned (.tuple #[v, .int .i64 (fieldErr s width)]) ∧ HasText w' v (fieldT s width) ∧ Below w.heap.size w w'
  check : ∀ w v (b : List UInt8), b.length < 4611686018427387904 → HasText w v b → Calls Tryd.prog 34 #[v] w fun e w' => e = .returned (.int .i64 (IntKind.i64.wrap (sumL b))) ∧ Below w.heap.size w w'
structure NameFace : Prop where
  name : ∀ w v (b : List UInt8), b.length < 4611686018427387904 → HasText w v b → Calls Tryd.prog 23 #[v] w fun e w' => e = .returned (.tuple #[.string (str (nameT b)), .int .i64 (nameErr b)]) ∧ Below w.heap.size w w'
theorem text_keep {w w' : World} {v : Value} {l : List UInt8} (h : HasText w v l) (hb : Below w.heap.size w w') : HasText w' v l := has_below h hb
/-- A slice that has bytes, as a text. -/
theorem text_of_bytes {w : World} {v : Value} {bs : List (BitVec 32)} (h : HasBytes w v bs) (hb : ∀ x ∈ bs, u32 x < 256) : ∃ l : List UInt8, HasText w v l ∧ l.length = bs.length := by
  have e : bs = (bs.map fun x => UInt8.ofNat x.toNat).map w8 := by
    rw [List.map_map]
    conv => lhs; rw [← List.map_id bs]
    apply List.map_congr_left
    intro x hx
    have h1 := hb x hx
    unfold u32 at h1
    apply BitVec.eq_of_toNat_eq
    simp only [Function.comp, w8, BitVec.toNat_ofNat, UInt8.toNat_ofNat', id]
    omega
  exact ⟨_, by unfold HasText; rw [← e]; exact h, by simp⟩
theorem text_shape {w : World} {v : Value} {l : List UInt8} (h : HasText w v l) (n : Nat) (hn : l.length = n) : ∃ ao cap, v = .slice ao n cap := by
  obtain ⟨ao, cap, rfl, -⟩ := h
  exact ⟨ao, cap, by rw [List.length_map, hn]⟩
theorem text_pos {w : World} {v : Value} {l : List UInt8} (h : HasText w v l) (n k : Nat) (hn : l.length = n) (hk : k < n) (c : UInt8) (hc : l.getD k 0 = c) : ∃ ad cap, v = .slice (some ad) n cap ∧ w.cell? (ad.add k) = some (.int .u8 (c.toNat : Int)) := by
  obtain ⟨ao, cap, rfl, hnil, hcs⟩ := h
  subst hn; subst hc
  rw [List.length_map]
  cases ao with
  | none => obtain ⟨hl, _⟩ := hnil rfl; simp at hl; subst hl; simp at hk
  | some ad =>
    refine ⟨ad, cap, rfl, (hcs ad rfl).2 k _ ?_⟩
    rw [bytesL_map]; simp [hk]
/-- A slice of bytes that was just written out. -/
theorem text_lit (w : World) (t : TypeId) (l : List UInt8) (cs : Array Value) (n : Nat) (h : cs = (l.map fun b => Value.int .u8 b.toNat).toArray) (hn : n = l.length) :
    HasText (w.alloc (.cells cs t (0, 0))) (.slice (some ⟨w.heap.size, 0, none⟩) n n) l := by
  subst h; subst hn
  have h := has_new w t (0, 0) (l.map w8)
  rw [bytesL_map, List.length_map] at h
  exact h
end Go.Proofs.YtbjekhhefepnlaaDoor
