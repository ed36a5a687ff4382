/-
Small facts on memory: which object a block holds behind new blocks.
-/
import Derived.WalkKit
import Derived.Deep.Draws
namespace Go.Proofs.YtnlnjgjggohdfaaDoor
open Go.RowKit
theorem heap_at_alloc (w : World) (o : Obj) (i : Nat) : (w.alloc o).heap[i]? = if i = w.heap.size then some o else w.heap[i]? := by
  show (w.heap.push o)[i]? = _
  rw [Array.getElem?_push]
theorem size_of_alloc (w : World) (o : Obj) : (w.alloc o).heap.size = w.heap.size + 1 := by
  show (w.heap.push o).size = _
  rw [Array.size_push]
theorem alloc2_0 (w : World) (a b : Obj) : ((w.alloc a).alloc b).heap[w.heap.size]? = some a := by
  rw [heap_at_alloc, if_neg (by rw [size_of_alloc]; omega), heap_at_alloc, if_pos rfl]
theorem alloc2_1 (w : World) (a b : Obj) : ((w.alloc a).alloc b).heap[w.heap.size + 1]? = some b := by
  rw [heap_at_alloc, if_pos (by rw [size_of_alloc])]
theorem alloc3_0 (w : World) (a b c : Obj) : (((w.alloc a).alloc b).alloc c).heap[w.heap.size]? = some a := by
  rw [heap_at_alloc, if_neg (by rw [size_of_alloc, size_of_alloc]; omega), alloc2_0]
theorem alloc3_1 (w : World) (a b c : Obj) : (((w.alloc a).alloc b).alloc c).heap[w.heap.size + 1]? = some b := by
  rw [heap_at_alloc, if_neg (by rw [size_of_alloc, size_of_alloc]; omega), alloc2_1]
theorem alloc3_2 (w : World) (a b c : Obj) : (((w.alloc a).alloc b).alloc c).heap[w.heap.size + 2]? = some c := by
  rw [heap_at_alloc, if_pos (by rw [size_of_alloc, size_of_alloc])]
theorem below_draws {B : Nat} {a w : World} (h : Below B a w) (n : Nat) : Below B a (w.drewN n) := ⟨h.os, h.tape, h.output, h.size, h.block⟩
end Go.Proofs.YtnlnjgjggohdfaaDoor
