/-
What package sha owes, as contracts over whatever a Hash is in memory: one block, that holds what was written. (The walks of the statements lean on these alone.)
-/
import Derived.Test.YtnfklikphkkpoaaDoorCompress
import Derived.Test.YtnfklikphkkpoaaDoorBytes
import Derived.Test.YtnfklikphkkpoaaDoorShaAbc
namespace Go.Proofs.YtnfklikphkkpoaaDoor
open Go.RowKit
/-- A slice of bytes that does not lie in block g. -/
def Apart (v : Value) (g : Nat) : Prop := ∀ ad len cap, v = .slice (some ad) len cap → ad.block ≠ g
/-- Bytes in older memory lie apart from a newer block. -/
theorem apart_of_has {w : World} {v : Value} {cs : List (BitVec 32)} {g : Nat} (h : HasBytes w v cs) (hg : w.heap.size ≤ g) (hc : cs ≠ []) : Apart v g := by
  intro ad len cap hv
  obtain ⟨ao, cap', rfl, -, hcell⟩ := h
  cases hv
  have hpos : 0 < cs.length := List.length_pos_iff.2 hc
  have h0 := (hcell ad rfl).2 0 _ (bytesL_get cs 0 hpos)
  have h1 := World.block_lt_of_cell? w _ h0
  rw [show (ad.add 0).block = ad.block from by unfold Addr.add; split <;> rfl] at h1
  omega
/-- Of old memory nothing but block g has changed. -/
structure OnlyAt (g : Nat) (w w' : World) : Prop where
  os : w'.os = w.os
  tape : w'.tape = w.tape
  output : w'.output = w.output
  size : w.heap.size ≤ w'.heap.size
  block : ∀ k, k < w.heap.size → k ≠ g → w'.heap[k]? = w.heap[k]?
theorem OnlyAt.below {g B : Nat} {w0 w w' : World} (h : OnlyAt g w w') (hb : Below B w0 w) (hg : B ≤ g) (hB : B ≤ w.heap.size) : Below B w0 w' :=
  ⟨h.os.trans hb.os, h.tape.trans hb.tape, h.output.trans hb.output, Nat.le_trans hb.size h.size, fun k hk => (h.block k (Nat.lt_of_lt_of_le hk hB) (by omega)).trans (hb.block k hk)⟩
structure HashFace (Inv : World → Nat → List (BitVec 32) → Prop) : Prop where
  lt : ∀ w g bs, Inv w g bs → g < w.heap.size
  keep : ∀ w w' g bs, Inv w g bs → w'.heap[g]? = w.heap[g]? → Inv w' g bs
  new : ∀ w, Tab w → Calls Tryd.prog 14 #[] w fun e w' => ∃ g, e = .returned (.pointer (some ⟨g, 0, none⟩)) ∧ w.heap.size ≤ g ∧ Inv w' g [] ∧ Below w.heap.size w w'
  write : ∀ w g bs v cs, Tab w → Inv w g bs → HasBytes w v cs → (cs ≠ [] → Apart v g) → (∀ x ∈ bs, u32 x < 256) → (∀ x ∈ cs, u32 x < 256) → bs.length + cs.length ≤ 1099511627776 →
    Calls Tryd.prog 15 #[.pointer (some ⟨g, 0, none⟩), v] w fun e w' => e = .returned (.tuple #[]) ∧ Inv w' g (bs ++ cs) ∧ OnlyAt g w w'
  told : ∀ w g bs, Tab w → Inv w g bs → (∀ x ∈ bs, u32 x < 256) → bs.length ≤ 1099511627776 →
    Calls Tryd.prog 16 #[.pointer (some ⟨g, 0, none⟩)] w fun e w' => e = .returned (rowV .u8 32 (sumF bs)) ∧ Below w.heap.size w w'
  len : ∀ w g bs, Inv w g bs → bs.length ≤ 1099511627776 →
    Calls Tryd.prog 17 #[.pointer (some ⟨g, 0, none⟩)] w fun e w' => e = .returned (.int .i64 bs.length) ∧ Below w.heap.size w w'
  sum : ∀ w v bs, Tab w → HasBytes w v bs → (∀ x ∈ bs, u32 x < 256) → bs.length ≤ 1099511627776 →
    Calls Tryd.prog 10 #[v] w fun e w' => e = .returned (rowV .u8 32 (sumF bs)) ∧ Below w.heap.size w w'
  pad : ∀ w (n : Nat), n ≤ 1099511627776 → Calls Tryd.prog 12 #[.int .i64 n] w fun e w' => ∃ v, e = .returned v ∧ HasBytes w' v (padB n) ∧ Below w.heap.size w w'
  padOut : ∀ w (n : Int), n < 0 ∨ 1099511627776 < n → Calls Tryd.prog 12 #[.int .i64 n] w fun e w' => ∃ v, e = .returned v ∧ HasBytes w' v [] ∧ Below w.heap.size w w'
  writeNil : ∀ w v cs, HasBytes w v cs → Calls Tryd.prog 15 #[.pointer none, v] w fun e w' => e = .returned (.tuple #[]) ∧ Below w.heap.size w w'
  toldNil : ∀ w, Calls Tryd.prog 16 #[.pointer none] w fun e w' => e = .returned (rowV .u8 32 fun _ => 0#32) ∧ Below w.heap.size w w'
  lenNil : ∀ w, Calls Tryd.prog 17 #[.pointer none] w fun e w' => e = .returned (.int .i64 0) ∧ Below w.heap.size w w'
/-- The digest of a, b, c, as a value. -/
def knownV : Value := rowV .u8 32 fun i => BitVec.ofNat 32 (knownB.getD i 0)
theorem sum_abc_V : rowV .u8 32 (sumF abc) = knownV := by unfold rowV knownV rowV; rw [sum_abc]
theorem knownEq : ∀ w, (binOp .eql 25 knownV knownV).run Tryd.prog w = .ok (.bool true) w :=
  eql_rowV Tryd.underlying25 Tryd.underlying5 (by kernel_rfl) _ _ (sameRow_self _ _)
theorem digestGuard : Tryd.prog.eqGuardType Tryd.prog.depth 25 = false := by kernel_rfl
set_option maxRecDepth 100000 in
set_option maxHeartbeats 1000000 in
theorem known_any (w : World) : Calls Tryd.prog 20 #[] w fun e w' => e = .returned knownV ∧ Below w.heap.size w w' := by
  have H0 := heap_last w (.cells (row .u8 32 fun _ => 0#32) 25 (0, 0))
  have B0 := (Below.refl w.heap.size w).alloc (Nat.le_refl _) (.cells (row .u8 32 fun _ => 0#32) 25 (0, 0))
  go_enter Tryd.func20, Tryd.ntmps20
  go_wp2_with (first | (refine wpList_store_row rfl 25 (.tmp 0) (.tmp 1) rfl w.heap.size _ rfl rfl 25 _ H0 (by kernel_rfl) rfl (by kernel_rfl) ?_))
  exact bodyPost_ret (results_cell_row Tryd.results20 _ _ w.heap.size 25 _ (0, 0) _ rfl (setRow_heap _ _ _ _ _ _ H0) Tryd.underlying25 rfl (by kernel_rfl)) rfl ⟨rfl, below_setRow B0 (by omega) _⟩
end Go.Proofs.YtnfklikphkkpoaaDoor
