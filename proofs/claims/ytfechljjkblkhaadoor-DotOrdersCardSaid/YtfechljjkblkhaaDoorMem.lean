/-
Small facts on memory: which object a block holds behind new blocks.
-/
import Derived.WalkKit
import Derived.Deep.Draws
import Derived.Deep.QuietTactic
import Derived.Laws.CopyOwn
namespace Go.Proofs.YtfechljjkblkhaaDoor
open Go.RowKit
theorem heap_at_alloc (w : World) (o : Obj) (i : Nat) : (w.alloc o).heap[i]? = if i = w.heap.size then some o else w.heap[i]? := by
  show (w.heap.push o)[i]? = _
  rw [Array.getElem?_push]
theorem size_of_alloc (w : World) (o : Obj) : (w.alloc o).heap.size = w.heap.size + 1 := by
  show (w.heap.push o).size = _
  rw [Array.size_push]
theorem alloc2_0 (w : World) (a b : Obj) : ((w.alloc a).alloc b).heap[w.heap.size]? = some a := by
  rw [heap_at_alloc, if_neg (by rw [size_of_alloc]; omega), heap_at_alloc, if_pos rfl]
theorem alloc2_1 (w : World) (a b : Obj) : ((w.alloc a).alloc b).heap[w.heap.size + 1]? = some b := by
  rw [heap_at_alloc, if_pos (by rw [size_of_alloc])]
theorem alloc3_0 (w : World) (a b c : Obj) : (((w.alloc a).alloc b).alloc c).heap[w.heap.size]? = some a := by
  rw [heap_at_alloc, if_neg (by rw [size_of_alloc, size_of_alloc]; omega), alloc2_0]
theorem alloc3_1 (w : World) (a b c : Obj) : (((w.alloc a).alloc b).alloc c).heap[w.heap.size + 1]? = some b := by
  rw [heap_at_alloc, if_neg (by rw [size_of_alloc, size_of_alloc]; omega), alloc2_1]
theorem alloc3_2 (w : World) (a b c : Obj) : (((w.alloc a).alloc b).alloc c).heap[w.heap.size + 2]? = some c := by
  rw [heap_at_alloc, if_pos (by rw [size_of_alloc, size_of_alloc])]
theorem below_draws {B : Nat} {a w : World} (h : Below B a w) (n : Nat) : Below B a (w.drewN n) := ⟨h.os, h.tape, h.output, h.size, h.block⟩
/-- A contract that leaves the memory as it was, as go_quiet wants it. -/
theorem quiet_same {P : Program} {f : FuncId} {args : Array Value} {w : World} {v : Value} {n : Nat} (h : Calls P f args (w.drewN n) fun e w' => e = .returned v ∧ w.drewN n = w') : Calls P f args (w.drewN n) fun e w' => e = .returned v ∧ ∃ m, w' = w.drewN m :=
  Calls.quiet_of_same (h.mono fun _ _ ⟨a, b⟩ => ⟨a, b.symm⟩)
/-- A number at hand that is a small natural one stays as it is. -/
theorem wrap_at (z : Int) (p : Nat) (h : z = (p : Int)) (hp : p < 4611686018427387904) : IntKind.i64.wrap z = (p : Int) := by
  rw [h, IntKind.wrap_i64]; omega
/-- A contract that leaves the memory as it was, as the still walk wants it. -/
theorem still_same {P : Program} {f : FuncId} {args : Array Value} {w : World} {v : Value} (h : Calls P f args w fun e w' => e = .returned v ∧ w = w') : Calls P f args w fun e w' => e = .returned v ∧ w' = w :=
  h.mono fun _ _ ⟨a, b⟩ => ⟨a, b.symm⟩
theorem below_next {w w1 w2 : World} (h1 : Below w.heap.size w w1) (h2 : Below w1.heap.size w1 w2) : Below w.heap.size w w2 := h1.trans (h2.mono h1.size)
/-- The last block made. -/
theorem heap_last (w : World) (o : Obj) : (w.alloc o).heap[w.heap.size]? = some o := by rw [heap_at_alloc, if_pos rfl]
/-- A whole row stored in a block that was just made: the memory behind it under a name of its own, with what is known of it. -/
theorem store_new {P : Program} {ops : Array Oper} {rest : List Oper} {o : Oper} {a : Act} {w : World} {Q : Exit → Act → World → Prop} (hgd : o.guard = none) (ty : TypeId) (x y : Operand) (ho : o.op = .store ty x y) (hd : o.dst = none)
    (w0 : World) (old cells : Array Value) (t : TypeId) (hw : w = w0.alloc (.cells old t (0, 0))) (hx : a.eval x = .pointer (some ⟨w0.heap.size, 0, none⟩)) (hy : a.eval y = .agg cells)
    (hi : (P.info? ty).map (·.size) = some cells.size) (hold : old.size = cells.size) (h1 : cells.all (·.oneCell') = true)
    (h : ∀ w', w'.heap[w0.heap.size]? = some (.cells cells t (0, 0)) → Below w0.heap.size w0 w' → w0.heap.size < w'.heap.size → wpList P ops Q rest a w') : wpList P ops Q (o :: rest) a w := by
  subst hw
  have hg := heap_last w0 (.cells old t (0, 0))
  refine wpList_store_row hgd ty x y ho w0.heap.size cells hx hy t old hg hi hold h1 ?_
  rw [hd]
  exact h _ (setRow_heap _ _ _ _ _ _ hg) (below_setRow ((Below.refl _ _).alloc (Nat.le_refl _) _) (Nat.le_refl _) _) (by simp [World.setRow])
/-- A whole row stored in a block that holds a row: the memory behind it under a name of its own, with what is known of it. -/
theorem store_old {P : Program} {ops : Array Oper} {rest : List Oper} {o : Oper} {a : Act} {w : World} {Q : Exit → Act → World → Prop} (hgd : o.guard = none) (ty : TypeId) (x y : Operand) (ho : o.op = .store ty x y) (hd : o.dst = none)
    (g : Nat) (old cells : Array Value) (t : TypeId) (hg : w.heap[g]? = some (.cells old t (0, 0))) (hx : a.eval x = .pointer (some ⟨g, 0, none⟩)) (hy : a.eval y = .agg cells)
    (hi : (P.info? ty).map (·.size) = some cells.size) (hold : old.size = cells.size) (h1 : cells.all (·.oneCell') = true)
    (h : ∀ w', w'.heap[g]? = some (.cells cells t (0, 0)) → (∀ j, j ≠ g → w'.heap[j]? = w.heap[j]?) → w.heap.size ≤ w'.heap.size → (∀ B w0, Below B w0 w → B ≤ g → Below B w0 w') → wpList P ops Q rest a w') : wpList P ops Q (o :: rest) a w := by
  refine wpList_store_row hgd ty x y ho g cells hx hy t old hg hi hold h1 ?_
  rw [hd]
  exact h _ (setRow_heap _ _ _ _ _ _ hg) (fun j hj => setRow_other w g j cells hj) (by simp [World.setRow]) (fun B w0 hb hB => below_setRow hb hB _)
/-- What owns some cells is a slice that begins at the head of a row of its own. -/
theorem own_shape {w : World} {base : Nat} {e : TypeId} {size : Nat} {v : Value} {n : Nat} {xs : List Value} (h : w.ownsRow base e size v n xs) (hn : 0 < n) :
    ∃ g cap cur, v = .slice (some ⟨g, 0, none⟩) n cap ∧ base ≤ g ∧ w.heap[g]? = some (.cells cur e (0, 0)) ∧ n ≤ cap ∧ cap ≤ maxLen ∧ cur.size = cap * size ∧ cur.toList.take (n * size) = xs := by
  rcases h.2 with ⟨_, h0⟩ | ⟨g, cap, cur, rest⟩
  · omega
  · exact ⟨g, cap, cur, rest⟩
/-- Memory that has grown, old memory being as it was. -/
theorem below_grown {B : Nat} {w0 w w' : World} {row : Option Nat} (hb : Below B w0 w) (hg : w.grownBy w' row) (hB : B ≤ w.heap.size) (hrow : ∀ k, row = some k → B ≤ k) : Below B w0 w' :=
  ⟨hg.os.trans hb.os, hg.tape.trans hb.tape, hg.output.trans hb.output, Nat.le_trans hb.size hg.size,
    fun k hk => (hg.block k (Nat.lt_of_lt_of_le hk hB) (fun e => absurd (hrow k e.symm) (by omega))).trans (hb.block k hk)⟩
/-- The one cell of a block that was just made. -/
theorem new_one (w : World) (x : Value) (t : TypeId) : ∀ j u, [x][j]? = some u → (w.alloc (.cells #[x] t (0, 0))).cell? ((⟨w.heap.size, 0, none⟩ : Addr).add j) = some u := by
  intro j u hj
  match j, hj with
  | 0, hj =>
    have e : u = x := by simpa using hj.symm
    subst e
    have hadd : (⟨w.heap.size, 0, none⟩ : Addr).add 0 = ⟨w.heap.size, 0, none⟩ := by unfold Addr.add; split <;> simp_all
    rw [hadd, cell_of_row _ _ 0 _ _ _ (heap_last w _)]; rfl
theorem one_int (k : IntKind) (z : Int) : ∀ u ∈ [Value.int k z], u.oneCell' = true := by
  intro u hu
  obtain rfl : u = .int k z := by simpa using hu
  rfl
end Go.Proofs.YtfechljjkblkhaaDoor
