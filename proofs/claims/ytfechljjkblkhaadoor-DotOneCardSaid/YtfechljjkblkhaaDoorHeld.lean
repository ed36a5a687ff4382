/-
What a region keeps: a row in memory, and all memory below a mark; and rows as values under a name, with their comparison.
-/
import Derived.Test.YtfechljjkblkhaaDoorWords
import Derived.Test.YtfechljjkblkhaaDoorMem
import Derived.Deep.RegionHeld3
namespace Go.Proofs.YtfechljjkblkhaaDoor
open Go.RowKit
/-- The row's cells as a list. -/
def rowL (k : IntKind) (n : Nat) (f : Nat → BitVec 32) : List Value := (List.range n).map fun i => Value.int k (u32 (f i))
theorem rowL_length (k : IntKind) (n : Nat) (f : Nat → BitVec 32) : (rowL k n f).length = n := by simp [rowL]
theorem rowL_one (k : IntKind) (n : Nat) (f : Nat → BitVec 32) : ∀ v ∈ rowL k n f, v.oneCell' = true := by
  intro v hv
  obtain ⟨i, _, rfl⟩ := List.mem_map.1 hv
  rfl
theorem range_of_row {w : World} {g : Nat} {t : TypeId} {k : IntKind} {n : Nat} {f : Nat → BitVec 32} (e : w.heap[g]? = some (.cells (row k n f) t (0, 0))) : w.rangeAt g 0 (rowL k n f) := by
  intro j v hv
  rw [Nat.zero_add, cell_of_row w g j _ _ _ e]
  simpa [row, rowL] using hv
theorem cell_same {w w' : World} {g : Nat} (h : w'.heap[g]? = w.heap[g]?) (j : Nat) : w'.cell? ⟨g, j, none⟩ = w.cell? ⟨g, j, none⟩ := by
  simp [World.cell?, h]
theorem rangeS_keep {g : Nat} {w1 wa wb : World} {cs : List Value} (hg : g < w1.heap.size) (h : wa.rangeAt g 0 cs ∧ Below w1.heap.size w1 wa) (hb : Below wa.heap.size wa wb) : wb.rangeAt g 0 cs ∧ Below w1.heap.size w1 wb :=
  ⟨fun j v hv => by rw [cell_same (hb.block g (Nat.lt_of_lt_of_le hg h.2.size))]; exact h.1 j v hv, below_next h.2 hb⟩
theorem rangeS_draw {g : Nat} {w1 wa : World} {cs : List Value} (h : wa.rangeAt g 0 cs ∧ Below w1.heap.size w1 wa) : wa.drew.rangeAt g 0 cs ∧ Below w1.heap.size w1 wa.drew :=
  ⟨h.1, below_draws h.2 1⟩
theorem sure_yes {P : Program} {ops : Array Oper} {S : World → Prop} {o : Oper} {v : Value} {a : Act} (hw : Region.wanted o (yielded ops a.tmps) = true) (h : ∀ w, (execOp a.eval o).run P w = .ok (.value v) w) : YieldsIf P ops S o v a := Or.inl ⟨hw, fun w _ => h w⟩
theorem cells8S_keep {g : Nat} {k : IntKind} {h : Nat → BitVec 32} {w1 wa wb : World} (hg : g < w1.heap.size)
    (e : wa.cell? ⟨g, 0, none⟩ = some (.int k (u32 (h 0))) ∧ wa.cell? ⟨g, 1, none⟩ = some (.int k (u32 (h 1))) ∧ wa.cell? ⟨g, 2, none⟩ = some (.int k (u32 (h 2))) ∧ wa.cell? ⟨g, 3, none⟩ = some (.int k (u32 (h 3))) ∧
      wa.cell? ⟨g, 4, none⟩ = some (.int k (u32 (h 4))) ∧ wa.cell? ⟨g, 5, none⟩ = some (.int k (u32 (h 5))) ∧ wa.cell? ⟨g, 6, none⟩ = some (.int k (u32 (h 6))) ∧ wa.cell? ⟨g, 7, none⟩ = some (.int k (u32 (h 7))) ∧ Below w1.heap.size w1 wa)
    (hb : Below wa.heap.size wa wb) :
    wb.cell? ⟨g, 0, none⟩ = some (.int k (u32 (h 0))) ∧ wb.cell? ⟨g, 1, none⟩ = some (.int k (u32 (h 1))) ∧ wb.cell? ⟨g, 2, none⟩ = some (.int k (u32 (h 2))) ∧ wb.cell? ⟨g, 3, none⟩ = some (.int k (u32 (h 3))) ∧
      wb.cell? ⟨g, 4, none⟩ = some (.int k (u32 (h 4))) ∧ wb.cell? ⟨g, 5, none⟩ = some (.int k (u32 (h 5))) ∧ wb.cell? ⟨g, 6, none⟩ = some (.int k (u32 (h 6))) ∧ wb.cell? ⟨g, 7, none⟩ = some (.int k (u32 (h 7))) ∧ Below w1.heap.size w1 wb := by
  obtain ⟨c0, c1, c2, c3, c4, c5, c6, c7, b⟩ := e
  have hs := hb.block g (Nat.lt_of_lt_of_le hg b.size)
  exact ⟨(cell_same hs 0).trans c0, (cell_same hs 1).trans c1, (cell_same hs 2).trans c2, (cell_same hs 3).trans c3, (cell_same hs 4).trans c4, (cell_same hs 5).trans c5, (cell_same hs 6).trans c6, (cell_same hs 7).trans c7, below_next b hb⟩
theorem cells8S_draw {g : Nat} {k : IntKind} {h : Nat → BitVec 32} {w1 wa : World} (e : Cells8 k h g wa) (b : Below w1.heap.size w1 wa) :
    wa.drew.cell? ⟨g, 0, none⟩ = some (.int k (u32 (h 0))) ∧ wa.drew.cell? ⟨g, 1, none⟩ = some (.int k (u32 (h 1))) ∧ wa.drew.cell? ⟨g, 2, none⟩ = some (.int k (u32 (h 2))) ∧ wa.drew.cell? ⟨g, 3, none⟩ = some (.int k (u32 (h 3))) ∧
      wa.drew.cell? ⟨g, 4, none⟩ = some (.int k (u32 (h 4))) ∧ wa.drew.cell? ⟨g, 5, none⟩ = some (.int k (u32 (h 5))) ∧ wa.drew.cell? ⟨g, 6, none⟩ = some (.int k (u32 (h 6))) ∧ wa.drew.cell? ⟨g, 7, none⟩ = some (.int k (u32 (h 7))) ∧ Below w1.heap.size w1 wa.drew := by
  obtain ⟨c0, c1, c2, c3, c4, c5, c6, c7⟩ := e
  exact ⟨c0, c1, c2, c3, c4, c5, c6, c7, below_draws b 1⟩
theorem range2S_keep {g g' : Nat} {w1 wa wb : World} {cs cs' : List Value} (hg : g < w1.heap.size) (hg' : g' < w1.heap.size) (h : wa.rangeAt g 0 cs ∧ wa.rangeAt g' 0 cs' ∧ Below w1.heap.size w1 wa) (hb : Below wa.heap.size wa wb) : wb.rangeAt g 0 cs ∧ wb.rangeAt g' 0 cs' ∧ Below w1.heap.size w1 wb :=
  ⟨(rangeS_keep hg ⟨h.1, h.2.2⟩ hb).1, (rangeS_keep hg' ⟨h.2.1, h.2.2⟩ hb).1, below_next h.2.2 hb⟩
theorem range2S_draw {g g' : Nat} {w1 wa : World} {cs cs' : List Value} (h : wa.rangeAt g 0 cs ∧ wa.rangeAt g' 0 cs' ∧ Below w1.heap.size w1 wa) : wa.drew.rangeAt g 0 cs ∧ wa.drew.rangeAt g' 0 cs' ∧ Below w1.heap.size w1 wa.drew :=
  ⟨h.1, h.2.1, below_draws h.2.2 1⟩
/-- An operation taken first, the slot that it writes said by its number. -/
theorem take_at {P : Program} {ops : Array Oper} {Q : Exit → Act → World → Prop} {md : Region.Mode} {S : World → Prop} {i : Nat} {oi : Oper} {v : Value} {fuel : Nat} {listed : Array Bool} {ts : Array Value} {ds : List Deferred} {w : World} (d : Nat) (hi : ops[i]? = some oi) (hd : oi.dst = some d)
    (hs : Region.noSelect ops = true) (hf : Region.free md ops listed i = true) (hr : (Region.ready md ops listed).contains i = true)
    (hQ : ∀ c a w, Q (.panic c) (a.put oi.dst v) w → Q (.panic c) a w) (hy : YieldsIf P ops S oi v { tmps := ts, defers := ds }) (hS : S w)
    (h : wpAnyH P md ops Q S fuel (listed.setIfInBounds i true) { tmps := ts.setIfInBounds d v, defers := ds } w) : wpAnyH P md ops Q S (fuel + 1) listed { tmps := ts, defers := ds } w :=
  wpAnyH_take hi hs hf hr hQ hy hS (by rw [hd]; exact h)
/-- The operation == over two values whose comparison is known. -/
theorem eql_op {P : Program} {o : Oper} {a : Act} {t rt : TypeId} {x y : Operand} {u v : Value} {b : Bool} (ho : o.op = .binOp .eql t x y rt) (hx : a.eval x = u) (hy : a.eval y = v)
    (hg : ∀ w, (eqGuard .eql t x y u v).run P w = .ok () w) (hq : ∀ w, (binOp .eql t u v).run P w = .ok (.bool b) w) : ∀ w, (execOp a.eval o).run P w = .ok (.value (.bool b)) w := fun w => by
  simp only [execOp, ho, hx, hy, Sem.run_bind, hg, hq, Result.andThen_ok, Sem.run_pure]
theorem conv_yields {P : Program} {ops : Array Oper} {S : World → Prop} {o : Oper} {a : Act} {src dst : TypeId} {x : Operand} {u v : Value} (hw : Region.wanted o (yielded ops a.tmps) = true) (ho : o.op = .convert src dst x) (hx : a.eval x = u)
    (h : ∀ w, S w → (convert src dst u).run P w = .ok v w) : YieldsIf P ops S o v a := Or.inl ⟨hw, fun w hS => by
  simp only [execOp, ho, hx, Sem.run_bind, h w hS, Result.andThen_ok, Sem.run_pure]⟩
/-- An operation that gives a value in the memory at hand. -/
theorem conv_wp {P : Program} {o : Oper} {ts : Array Value} {ds : List Deferred} {w : World} {K : Act → World → Prop} {Q : Exit → Act → World → Prop} {src dst : TypeId} {x : Operand} {u v : Value} {E : Prop} {ops : Array Oper} (d : Nat) (hd : o.dst = some d)
    (hw : Region.wanted o (yielded ops ts) = true) (ho : o.op = .convert src dst x) (hx : Act.eval { tmps := ts, defers := ds } x = u)
    (h : (convert src dst u).run P w = .ok v w) (hK : K { tmps := ts.setIfInBounds d v, defers := ds } w) : if Region.wanted o (yielded ops ts) = true then Oper.wp P o { tmps := ts, defers := ds } w K Q else E := by
  rw [if_pos hw]
  unfold Oper.wp
  simp only [execOp, ho, hx, Sem.run_bind, h, Result.andThen_ok, Sem.run_pure]
  have e : ({ tmps := ts, defers := ds } : Act).put o.dst v = { tmps := ts.setIfInBounds d v, defers := ds } := by rw [hd]; rfl
  simpa [Oper.upon, e] using hK
/-- A row as a value, under a name that no rule looks into. -/
def rowV (k : IntKind) (n : Nat) (f : Nat → BitVec 32) : Value := .agg (row k n f)
theorem eql_rowV {P : Program} {t e : TypeId} {k : IntKind} {n : Nat} (ht : P.underlying t = some (.array n e)) (he : P.underlying e = some (.int k)) (hc : P.cellsOf e = 1) (f g : Nat → BitVec 32) {b : Bool} (hb : sameRow n f g = b) :
    ∀ w, (binOp .eql t (rowV k n f) (rowV k n g)).run P w = .ok (.bool b) w := fun w => by
  rw [← hb]; exact eql_row w f g ht he hc
theorem guard_rowV {P : Program} {t : TypeId} (hm : P.eqGuardType P.depth t = false) (x y : Operand) (k : IntKind) (n : Nat) (f g : Nat → BitVec 32) :
    ∀ w, (eqGuard .eql t x y (rowV k n f) (rowV k n g)).run P w = .ok () w := fun w => run_eqGuard_agg w .eql t x y _ _ hm
end Go.Proofs.YtfechljjkblkhaaDoor
