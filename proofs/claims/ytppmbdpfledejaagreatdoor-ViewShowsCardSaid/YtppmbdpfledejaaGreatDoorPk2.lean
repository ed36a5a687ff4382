/-
Texts that all claims of this seat share, part 2: Events, Open12, EventOrd, Hist, Heads, EvSlices, EvLaws, Ready, DotFace, HeadsMem, Float, DotHold, Law09Orders, Ref10More, EventMay, EventCmp, HeadsMay, WideEvs.
-/
import Derived.Deep.MidRow
import Derived.Deep.Slices
import Derived.Laws.AppendOwn
import Derived.Laws.OwnMore
import Derived.Deep.AppendLies
import Derived.OwnWalk
import Derived.Great.Walk
import Derived.Laws.FloatArith
import Derived.WalkLawsBesides
import Derived.Maps.OwnSet
import Derived.DeepKeys4
import Derived.LaidMore
import Derived.Test.YtppmbdpfledejaaGreatDoorPk1
namespace Go.Proofs.YtppmbdpfledejaaGreatDoor
open Go.RowKit
/-- The cells of an event; v is the slice of what was known. -/
def evC (e : Ev) (v : Value) : Array Value := #[.int .i64 e.r, .int .i64 e.q, v, .int .i64 e.kind, .string (str e.path)] ++ row .u8 32 e.sum ++ #[.int .i64 e.size]
theorem evC_size (e : Ev) (v : Value) : (evC e v).size = 38 := by simp [evC, row_size]
theorem evC_at (e : Ev) (v : Value) : (evC e v)[0]? = some (.int .i64 e.r) ∧ (evC e v)[1]? = some (.int .i64 e.q) ∧ (evC e v)[2]? = some v ∧ (evC e v)[3]? = some (.int .i64 e.kind) ∧ (evC e v)[4]? = some (.string (str e.path)) ∧ (evC e v)[37]? = some (.int .i64 e.size) := by
  refine ⟨?_, ?_, ?_, ?_, ?_, ?_⟩
  iterate 5 simp [evC, row_size]
  unfold evC
  rw [Array.getElem?_append_right (by simp [row_size])]
  simp [row_size]
theorem evC_sum (e : Ev) (v : Value) (j : Nat) (u : Value) (h : (row .u8 32 e.sum).toList[j]? = some u) : (evC e v)[5 + j]? = some u := by
  have hj : j < 32 := by have := (List.getElem?_eq_some_iff.1 h).1; simpa [row_size] using this
  rw [Array.getElem?_toList] at h
  unfold evC
  rw [Array.getElem?_append_left (by simp [row_size]; omega), Array.getElem?_append_right (by simp)]
  simpa using h
theorem evC_one (e : Ev) (v : Value) (hv : v.oneCell' = true) : (evC e v).all (·.oneCell') = true := by
  have hr := row_one .u8 32 e.sum
  rw [Array.all_eq_true_iff_forall_mem] at hr ⊢
  intro x hx
  unfold evC at hx
  rcases Array.mem_append.1 hx with hx | hx
  · rcases Array.mem_append.1 hx with hx | hx
    · simp only [List.mem_toArray, List.mem_cons, List.not_mem_nil, or_false] at hx
      rcases hx with rfl | rfl | rfl | rfl | rfl
      · rfl
      · rfl
      · exact hv
      · rfl
      · rfl
    · exact hr x hx
  · simp only [List.mem_toArray, List.mem_cons, List.not_mem_nil, or_false] at hx
    subst hx; rfl
/-- A block that is an event. -/
def EvAt (w : World) (B : Nat) (T : TypeId) (e : Ev) (v : Value) : Prop := w.heap[B]? = some (.cells (evC e v) T (0, 0))
theorem evAt_kept {w w' : World} {B : Nat} {T : TypeId} {e : Ev} {v : Value} (h : EvAt w B T e v) (hb : Below w.heap.size w w') : EvAt w' B T e v :=
  (hb.block B (Array.getElem?_eq_some_iff.1 h).1).trans h
theorem evAt_cell {w : World} {B : Nat} {T : TypeId} {e : Ev} {v : Value} (h : EvAt w B T e v) (j : Nat) (u : Value) (hu : (evC e v)[j]? = some u) : w.cell? ⟨B, j, none⟩ = some u := by
  unfold EvAt at h
  simp only [World.cell?, h]
  exact hu
theorem evAt_cells {w : World} {B : Nat} {T : TypeId} {e : Ev} {v : Value} (h : EvAt w B T e v) :
    w.cell? ⟨B, 0, none⟩ = some (.int .i64 e.r) ∧ w.cell? ⟨B, 1, none⟩ = some (.int .i64 e.q) ∧ w.cell? ⟨B, 2, none⟩ = some v ∧ w.cell? ⟨B, 3, none⟩ = some (.int .i64 e.kind) ∧ w.cell? ⟨B, 4, none⟩ = some (.string (str e.path)) ∧ w.cell? ⟨B, 37, none⟩ = some (.int .i64 e.size) := by
  obtain ⟨h0, h1, h2, h3, h4, h5⟩ := evC_at e v
  exact ⟨evAt_cell h _ _ h0, evAt_cell h _ _ h1, evAt_cell h _ _ h2, evAt_cell h _ _ h3, evAt_cell h _ _ h4, evAt_cell h _ _ h5⟩
theorem evAt_dot {w : World} {B : Nat} {T : TypeId} {e : Ev} {v : Value} (h : EvAt w B T e v) : w.cell? ⟨B, 0, none⟩ = some (.int .i64 e.r) ∧ w.cell? ⟨(⟨B, 0, none⟩ : Addr).block, (⟨B, 0, none⟩ : Addr).off + 1, none⟩ = some (.int .i64 e.q) := ⟨(evAt_cells h).1, (evAt_cells h).2.1⟩
theorem evAt_sum {w : World} {B : Nat} {T : TypeId} {e : Ev} {v : Value} (h : EvAt w B T e v) : w.rangeAt B 5 (row .u8 32 e.sum).toList := fun j u hu => evAt_cell h _ _ (evC_sum e v j u hu)
theorem box_ev (w : World) (T : TypeId) (e : Ev) (v : Value) : EvAt (w.alloc (.cells (evC e v) T (0, 0))) w.heap.size T e v := heap_last _ _
/-- A row loaded out of the middle of a block, where the operation's guard lets it run. -/
theorem load_mid_on {P : Program} {ops : Array Oper} {rest : List Oper} {o : Oper} {a : Act} {w : World} {Q : Exit → Act → World → Prop} (hw : Region.wanted o (yielded ops a.tmps) = true) (ty : TypeId) (x : Operand) (ho : o.op = .load ty x)
    (b n : Nat) (hx : a.eval x = .pointer (some ⟨b, n, none⟩)) (cs : List Value) (d : TypeDesc) (hc : w.rangeAt b n cs) (hu : P.underlying ty = some d) (hd : d.isRow = true) (hi : (P.info? ty).map (·.size) = some cs.length)
    (h : wpList P ops Q rest (a.put o.dst (.agg cs.toArray)) w) : wpList P ops Q (o :: rest) a w := by
  rcases yieldsIf_load_mid (S := fun w' => w' = w) hw ty x ho b n hx cs d (fun w' e => by rw [e]; exact hc) hu hd hi with ⟨-, hy⟩ | ⟨hn, -⟩
  · refine wpList_step fun K hK => ?_
    rw [if_pos hw]
    unfold Oper.wp
    rw [hy w rfl]
    exact hK _ _ h
  · rw [hw] at hn; cases hn
theorem load_sum_on {P : Program} {ops : Array Oper} {rest : List Oper} {o : Oper} {a : Act} {w : World} {Q : Exit → Act → World → Prop} (hw : Region.wanted o (yielded ops a.tmps) = true) (ty : TypeId) (x : Operand) (ho : o.op = .load ty x)
    (b : Nat) (hx : a.eval x = .pointer (some ⟨b, 5, none⟩)) {T : TypeId} {e : Ev} {v : Value} {n : Nat} {u : TypeId} (hc : EvAt w b T e v) (hu : P.underlying ty = some (.array n u)) (hi : (P.info? ty).map (·.size) = some 32)
    (h : wpList P ops Q rest (a.put o.dst (rowV .u8 32 e.sum)) w) : wpList P ops Q (o :: rest) a w :=
  load_mid_on hw ty x ho b 5 hx (row .u8 32 e.sum).toList _ (evAt_sum hc) hu rfl (by rw [hi]; simp [row_size]) (by rwa [Array.toArray_toList])
/-- A whole event loaded. -/
theorem load_ev_on {P : Program} {ops : Array Oper} {rest : List Oper} {o : Oper} {a : Act} {w : World} {Q : Exit → Act → World → Prop} (hw : Region.wanted o (yielded ops a.tmps) = true) (ty : TypeId) (x : Operand) (ho : o.op = .load ty x)
    (b : Nat) (hx : a.eval x = .pointer (some ⟨b, 0, none⟩)) {T : TypeId} {e : Ev} {v : Value} {fs : Array Field} (hc : EvAt w b T e v) (hu : P.underlying ty = some (.struct fs)) (hi : (P.info? ty).map (·.size) = some 38)
    (h : wpList P ops Q rest (a.put o.dst (.agg (evC e v))) w) : wpList P ops Q (o :: rest) a w :=
  load_row_on hw ty x ho b hx T _ (0, 0) _ hc hu rfl (by rw [hi, evC_size]) h
end Go.Proofs.YtppmbdpfledejaaGreatDoor
namespace Go.Proofs.YtppmbdpfledejaaGreatDoor
open Go.ChangeShapes Go.WideShapes Go.ChangeAt Go.RowKit
theorem open_digest_cells {H : Type} {enc : TypeId × Value → H} {P : Program} {w : World} {base : Nat} {sp : Nat → Bool} {held : Bool} {t e : TypeId} {cs : List Value} {x : DataW H × List MemPlace} {fuel : Nat}
    (ht : P.underlying t = some (.array 32 e)) (he : P.underlying e = some (.int .u8)) (hce : P.cellsOf e = 1) (hct : P.cellsOf t = 32) (h : DataW.trod enc P w base sp held fuel t cs = some x) :
    ∃ f : Nat → BitVec 32, (∀ i, u32 (f i) < 256) ∧ cs = (row .u8 32 f).toList := by
  obtain ⟨xs, m, -, -, hl, hxl, hel⟩ := DataW.trod_array ht h
  rw [hct] at hl
  have each : ∀ i, i < 32 → ∃ z : Int, cs[i]? = some (.int .u8 z) ∧ (Lit.int .u8 z).wf = true := fun i hi => by
    have g := hel i hi
    rw [hce, Nat.mul_one, List.getElem?_eq_getElem (by omega)] at g
    have e1 : (cs.drop i).take 1 = [cs[i]] := by rw [List.drop_eq_getElem_cons (by omega)]; rfl
    rw [e1] at g
    obtain ⟨z, ez, -, wz⟩ := DataW.trod_int he g
    simp only [List.cons.injEq, and_true] at ez
    exact ⟨z, by rw [List.getElem?_eq_getElem (by omega), ez], wz⟩
  obtain ⟨y, hy⟩ := Go.Deep.choose_lt each
  obtain ⟨f, h1, h2⟩ := bytes_fn (n := 32) (zs := (List.range 32).map y) (by simp) (fun z hz => by
    obtain ⟨i, hi, rfl⟩ := List.mem_map.1 hz
    exact (hy i (by simpa using hi)).2)
  refine ⟨f, h1, ?_⟩
  rw [← h2]
  apply List.ext_getElem?
  intro i
  by_cases hi : i < 32
  · rw [(hy i hi).1]; simp [List.getElem?_range hi]
  · rw [List.getElem?_eq_none (by omega), List.getElem?_eq_none (by simp; omega)]
theorem i64_of12 {a : Int} (h : (Lit.int .i64 a).wf = true) : -9223372036854775808 ≤ a ∧ a < 9223372036854775808 := by
  simp [Lit.wf, IntKind.min, IntKind.max, IntKind.signed, IntKind.bits] at h; omega
end Go.Proofs.YtppmbdpfledejaaGreatDoor
namespace Go.Proofs.YtppmbdpfledejaaGreatDoor
open Go.RowKit
theorem bl_trans : ∀ (a b c : List UInt8), Op.bytesLess a b = true → Op.bytesLess b c = true → Op.bytesLess a c = true
  | [], [], _, h, _ => by simp [Op.bytesLess] at h
  | _ :: _, [], _, h, _ => by simp [Op.bytesLess] at h
  | _, _ :: _, [], _, h => by simp [Op.bytesLess] at h
  | [], _ :: _, _ :: _, _, _ => by simp [Op.bytesLess]
  | x :: a, y :: b, z :: c, h, h' => by
    simp only [Op.bytesLess, Bool.or_eq_true, decide_eq_true_eq, Bool.and_eq_true, beq_iff_eq] at h h' ⊢
    rcases h with h | ⟨rfl, h⟩
    · rcases h' with h' | ⟨rfl, h'⟩
      · exact .inl (UInt8.lt_trans h h')
      · exact .inl h
    · rcases h' with h' | ⟨rfl, h'⟩
      · exact .inl h'
      · exact .inr ⟨rfl, bl_trans a b c h h'⟩
theorem bl_asymm {a b : List UInt8} (h : Op.bytesLess a b = true) : Op.bytesLess b a = false := by
  cases h' : Op.bytesLess b a with
  | false => rfl
  | true => have := bl_trans a b a h h'; rw [bytesLess_irrefl] at this; cases this
theorem bl_tri : ∀ (a b : List UInt8), Op.bytesLess a b = false → Op.bytesLess b a = false → a = b
  | [], [], _, _ => rfl
  | [], _ :: _, h, _ => by simp [Op.bytesLess] at h
  | _ :: _, [], _, h => by simp [Op.bytesLess] at h
  | x :: a, y :: b, h, h' => by
    simp only [Op.bytesLess, Bool.or_eq_false_iff, decide_eq_false_iff_not, Bool.and_eq_false_iff, beq_eq_false_iff_ne] at h h'
    have hxy : x = y := by
      apply UInt8.toNat_inj.1
      have h1 := h.1; have h2 := h'.1
      rw [UInt8.lt_iff_toNat_lt] at h1 h2
      omega
    subst hxy
    rw [bl_tri a b (h.2.resolve_left fun k => k rfl) (h'.2.resolve_left fun k => k rfl)]
/-- Which of two texts is ahead. -/
def cmpB (a b : List UInt8) : Int := if Op.bytesLess a b then -1 else if Op.bytesLess b a then 1 else 0
theorem cmpB_cases (a b : List UInt8) : (cmpB a b = 0 ∧ a = b) ∨ (cmpB a b = -1 ∧ Op.bytesLess a b = true ∧ a ≠ b) ∨ (cmpB a b = 1 ∧ Op.bytesLess b a = true ∧ a ≠ b) := by
  unfold cmpB
  cases h : Op.bytesLess a b with
  | true => exact .inr (.inl ⟨by simp, rfl, fun e => by rw [e, bytesLess_irrefl] at h; cases h⟩)
  | false =>
    cases h' : Op.bytesLess b a with
    | true => exact .inr (.inr ⟨by simp, rfl, fun e => by rw [e, bytesLess_irrefl] at h'; cases h'⟩)
    | false => exact .inl ⟨by simp, bl_tri a b h h'⟩
def cmpE (e f : Ev) : Int := if cmpB e.path f.path = 0 then cmpD e.r e.q f.r f.q else cmpB e.path f.path
end Go.Proofs.YtppmbdpfledejaaGreatDoor
namespace Go.Proofs.YtppmbdpfledejaaGreatDoor
open Go.RowKit
/-- What somebody does. -/
structure DeedT where
  who : Nat
  other : Nat
  path : Nat
  learns : Bool
  gone : Bool
  size : Nat
structure Hist where
  know : Nat → List D2
  out : List Ev
def pathsH : List (List UInt8) := [[97], [97, 47, 98], [99], [100]]
def sizeF (n : Nat) : Nat → BitVec 32 := fun i => if i = 0 then BitVec.ofNat 32 n else 0#32
def evH (h : Hist) (d : DeedT) : Ev :=
  ⟨(d.who % 3 : Nat), getV (h.know (d.who % 3)) (d.who % 3 : Nat) + 1, h.know (d.who % 3), if d.gone then 2 else 1, pathsH.getD (d.path % 4) [], if d.gone then zeroF else sizeF d.size, if d.gone then 0 else (d.size : Int)⟩
def putK (k : Nat → List D2) (w : Nat) (l : List D2) : Nat → List D2 := fun i => if i = w then l else k i
def stepH (h : Hist) (d : DeedT) : Hist :=
  if d.learns then ⟨putK h.know (d.who % 3) (joinV (h.know (d.who % 3)) (h.know (d.other % 3))), h.out⟩
  else ⟨putK h.know (d.who % 3) (withV (h.know (d.who % 3)) (evH h d).r (evH h d).q), h.out ++ [evH h d]⟩
def hist0 : Hist := ⟨fun _ => [], []⟩
def histN (l : List DeedT) : Hist := (l.take 40).foldl stepH hist0
theorem getV_nat (l : List D2) {a : Nat} (h : a < 32) : getV l (a : Int) = allV l a := by
  unfold getV; rw [if_neg (by omega)]; rfl
structure InvH (h : Hist) (n : Nat) : Prop where
  vec : ∀ i, i < 3 → mayV (h.know i) = true
  top : ∀ i j, i < 3 → j < 3 → allV (h.know i) j ≤ allV (h.know j) j
  cnt : ∀ i, i < 3 → allV (h.know i) i ≤ n
  evs : ∀ e ∈ h.out, mayE e = true ∧ (∀ i, u32 (e.sum i) < 256) ∧ ∃ a : Nat, a < 3 ∧ e.r = (a : Int) ∧ 1 ≤ e.q ∧ e.q ≤ allV (h.know a) a ∧ allV e.deps a = e.q - 1 ∧ ∀ j, j < 3 → allV e.deps j ≤ allV (h.know j) j
  clos : ∀ i a : Nat, i < 3 → a < 3 → ∀ e ∈ h.out, e.r = (a : Int) → e.q ≤ allV (h.know i) a → leqV e.deps (h.know i) = true
  trans : ∀ e ∈ h.out, ∀ f ∈ h.out, ∀ a : Nat, a < 3 → f.r = (a : Int) → f.q ≤ allV e.deps a → leqV f.deps e.deps = true
  rise : h.out.Pairwise fun e f => e.r = f.r → e.q < f.q
theorem inv0 : InvH hist0 0 where
  vec := fun _ _ => mayV_nil
  top := fun _ _ _ _ => by simp [hist0]
  cnt := fun _ _ => by simp [hist0, allV_nil]
  evs := fun e he => by simp [hist0] at he
  clos := fun _ _ _ _ e he => by simp [hist0] at he
  trans := fun e he => by simp [hist0] at he
  rise := List.Pairwise.nil
theorem sizeF_lt {n : Nat} (hn : n < 256) (i : Nat) : u32 (sizeF n i) < 256 := by
  unfold sizeF; split
  · unfold u32; rw [BitVec.toNat_ofNat]; omega
  · decide
theorem path_own {k : Nat} (hk : k < 4) : ownP (pathsH.getD k []) = true := by
  match k, hk with
  | 0, _ => decide +kernel
  | 1, _ => decide +kernel
  | 2, _ => decide +kernel
  | 3, _ => decide +kernel
theorem leq_refl (a : List D2) : leqV a a = true := (leqV_iff a a).2 fun _ _ => Int.le_refl _
theorem inv_learn {h : Hist} {n : Nat} (H : InvH h n) {w o : Nat} (hw : w < 3) (ho : o < 3) : InvH ⟨putK h.know w (joinV (h.know w) (h.know o)), h.out⟩ (n + 1) := by
  have hd : ∀ i j, i < 3 → j < 32 → allV (putK h.know w (joinV (h.know w) (h.know o)) i) j = if i = w then max (allV (h.know w) j) (allV (h.know o) j) else allV (h.know i) j := fun i j hi hj => by
    unfold putK; split
    · rw [all_join _ _ hj]
    · rfl
  have hdi : ∀ j, j < 3 → allV (putK h.know w (joinV (h.know w) (h.know o)) j) j = allV (h.know j) j := fun j hj => by
    rw [hd j j hj (by omega)]
    split
    · rename_i e; subst e
      have := H.top o j ho hj; omega
    · rfl
  refine ⟨fun i hi => ?_, fun i j hi hj => ?_, fun i hi => ?_, fun e he => ?_, fun i a hi ha e he hr hq => ?_, H.trans, H.rise⟩
  · show mayV (putK h.know w _ i) = true
    unfold putK; split
    · exact mayV_join _ _
    · exact H.vec i hi
  · show allV (putK h.know w _ i) j ≤ allV (putK h.know w _ j) j
    rw [hdi j hj, hd i j hi (by omega)]
    have h1 := H.top w j hw hj
    have h2 := H.top o j ho hj
    have h3 := H.top i j hi hj
    split <;> omega
  · show allV (putK h.know w _ i) i ≤ ((n + 1 : Nat) : Int)
    rw [hdi i hi]; have := H.cnt i hi; omega
  · obtain ⟨h1, h2, a, h3, h4, h5, h6, h7, h8⟩ := H.evs e he
    refine ⟨h1, h2, a, h3, h4, h5, ?_, h7, fun j hj => ?_⟩
    · show e.q ≤ allV (putK h.know w _ a) a
      rw [hdi a h3]; exact h6
    · show allV e.deps j ≤ allV (putK h.know w _ j) j
      rw [hdi j hj]; exact h8 j hj
  · have hq' : e.q ≤ allV (putK h.know w (joinV (h.know w) (h.know o)) i) a := hq
    show leqV e.deps (putK h.know w _ i) = true
    rw [hd i a hi (by omega)] at hq'
    unfold putK
    by_cases hiw : i = w
    · rw [if_pos hiw] at hq' ⊢
      rcases Int.le_total (allV (h.know w) a) (allV (h.know o) a) with hc | hc
      · exact leq_trans (H.clos o a ho ha e he hr (by omega)) (leq_join _ _).2
      · exact leq_trans (H.clos w a hw ha e he hr (by omega)) (leq_join _ _).1
    · rw [if_neg hiw] at hq' ⊢
      exact H.clos i a hi ha e he hr hq'
theorem inv_event {h : Hist} {n : Nat} (H : InvH h n) (hn : n < 1000) {w : Nat} (hw : w < 3) (e : Ev) (er : e.r = (w : Int)) (eq : e.q = allV (h.know w) w + 1) (ed : e.deps = h.know w) (ep : ownP e.path = true) (eh : mayH e = true) (es : ∀ i, u32 (e.sum i) < 256) :
    InvH ⟨putK h.know w (withV (h.know w) e.r e.q), h.out ++ [e]⟩ (n + 1) := by
  have hc := H.cnt w hw
  have hp := (allV_bd (h.know w) w).1
  have hmd : mayD e.r e.q = true := by rw [er, eq]; unfold mayD; rw [decide_eq_true_eq]; omega
  have hd : ∀ i j, i < 3 → j < 32 → allV (putK h.know w (withV (h.know w) e.r e.q) i) j = if i = w then (if j = w then e.q else allV (h.know w) j) else allV (h.know i) j := fun i j hi hj => by
    unfold putK; split
    · rw [all_with _ _ _ hj, withN_max, hmd, er]
      by_cases hjw : j = w
      · subst hjw; rw [if_pos ⟨rfl, rfl⟩, if_pos rfl]; omega
      · rw [if_neg (by omega), if_neg hjw]
    · rfl
  have hle : ∀ i j, i < 3 → j < 32 → allV (h.know i) j ≤ allV (putK h.know w (withV (h.know w) e.r e.q) i) j := fun i j hi hj => by
    rw [hd i j hi hj]
    by_cases hiw : i = w
    · subst hiw; rw [if_pos rfl]; split
      · rename_i e'; subst e'; omega
      · omega
    · rw [if_neg hiw]; omega
  have hnew : mayE e = true := by
    simp only [mayE, knownE, Bool.and_eq_true, decide_eq_true_eq]
    refine ⟨hmd, ⟨by rw [ed]; exact H.vec w hw, ?_⟩, ep, eh⟩
    rw [ed, er, eq, getV_nat _ (by omega)]; omega
  have htop : ∀ i j, i < 3 → j < 3 → allV (putK h.know w (withV (h.know w) e.r e.q) i) j ≤ allV (putK h.know w (withV (h.know w) e.r e.q) j) j := fun i j hi hj => by
    have h3 := H.top i j hi hj
    have h4 := hle j j hj (by omega)
    rw [hd i j hi (by omega)]
    by_cases hiw : i = w
    · subst hiw; rw [if_pos rfl]; split
      · rename_i e'; subst e'; rw [hd j j hj (by omega), if_pos rfl, if_pos rfl]; omega
      · omega
    · rw [if_neg hiw]; omega
  have hclos : ∀ i a : Nat, i < 3 → a < 3 → ∀ f ∈ h.out ++ [e], f.r = (a : Int) → f.q ≤ allV (putK h.know w (withV (h.know w) e.r e.q) i) a → leqV f.deps (putK h.know w (withV (h.know w) e.r e.q) i) = true := fun i a hi ha f hf hr hq => by
    rcases List.mem_append.1 hf with hf | hf
    · obtain ⟨-, -, a', h3, h4, h5, h6, h7, h8⟩ := H.evs f hf
      obtain rfl : a' = a := by omega
      have hq' : f.q ≤ allV (h.know i) a' := by
        rw [hd i a' hi (by omega)] at hq
        by_cases hiw : i = w
        · subst hiw; rw [if_pos rfl] at hq
          by_cases hjw : a' = i
          · subst hjw; exact h6
          · rwa [if_neg hjw] at hq
        · rwa [if_neg hiw] at hq
      have hl := H.clos i a' hi ha f hf hr hq'
      rw [leqV_iff] at hl ⊢
      exact fun j hj => Int.le_trans (hl j hj) (hle i j hi hj)
    · obtain rfl : f = e := by simpa using hf
      obtain rfl : w = a := by omega
      rw [hd i w hi (by omega)] at hq
      by_cases hiw : i = w
      · subst hiw
        rw [leqV_iff, ed]
        exact fun j hj => hle i j hi hj
      · rw [if_neg hiw] at hq
        have := H.top i w hi hw; omega
  refine ⟨fun i hi => ?_, htop, fun i hi => ?_, fun f hf => ?_, hclos, fun f hf g hg a ha hr hq => ?_, ?_⟩
  · show mayV (putK h.know w _ i) = true
    unfold putK; split
    · exact mayV_with _ _ _
    · exact H.vec i hi
  · show allV (putK h.know w _ i) i ≤ ((n + 1 : Nat) : Int)
    have := H.cnt i hi
    rw [hd i i hi (by omega)]
    by_cases hiw : i = w
    · subst hiw; rw [if_pos rfl, if_pos rfl]; omega
    · rw [if_neg hiw]; omega
  · rcases List.mem_append.1 hf with hf | hf
    · obtain ⟨h1, h2, a, h3, h4, h5, h6, h7, h8⟩ := H.evs f hf
      refine ⟨h1, h2, a, h3, h4, h5, Int.le_trans h6 (hle a a h3 (by omega)), h7, fun j hj => Int.le_trans (h8 j hj) (hle j j hj (by omega))⟩
    · obtain rfl : f = e := by simpa using hf
      refine ⟨hnew, es, w, hw, er, by omega, ?_, by rw [ed]; omega, fun j hj => ?_⟩
      · show f.q ≤ allV (putK h.know w _ w) w
        rw [hd w w hw (by omega), if_pos rfl, if_pos rfl]; omega
      · show allV f.deps j ≤ allV (putK h.know w _ j) j
        rw [ed]
        exact Int.le_trans (H.top w j hw hj) (hle j j hj (by omega))
  · rcases List.mem_append.1 hf with hf1 | hf1
    · rcases List.mem_append.1 hg with hg1 | hg1
      · exact H.trans f hf1 g hg1 a ha hr hq
      · obtain ⟨-, -, -, -, -, -, -, -, h8⟩ := H.evs f hf1
        obtain rfl : g = e := by simpa using hg1
        obtain rfl : w = a := by omega
        have := h8 w hw; omega
    · obtain rfl : f = e := by simpa using hf1
      rcases List.mem_append.1 hg with hg1 | hg1
      · rw [ed] at hq ⊢
        exact H.clos w a hw ha g hg1 hr hq
      · obtain rfl : g = f := by simpa using hg1
        exact leq_refl _
  · show List.Pairwise _ (h.out ++ [e])
    rw [List.pairwise_append]
    refine ⟨H.rise, List.pairwise_singleton _ _, fun f hf g hg hrr => ?_⟩
    obtain rfl : g = e := by simpa using hg
    obtain ⟨-, -, a, h3, h4, h5, h6, h7, h8⟩ := H.evs f hf
    obtain rfl : a = w := by omega
    omega
theorem evH_may (h : Hist) (d : DeedT) (hs : d.size < 256) : mayH (evH h d) = true ∧ ∀ i, u32 ((evH h d).sum i) < 256 := by
  cases hg : d.gone with
  | true => exact ⟨by simp [mayH, evH, hg, sameRow_self], fun i => by simp only [evH, hg]; exact zeroF_byt i⟩
  | false => exact ⟨by simp [mayH, evH, hg]; omega, fun i => by simp only [evH, hg]; exact sizeF_lt hs i⟩
theorem inv_step {h : Hist} {n : Nat} (H : InvH h n) (hn : n < 1000) {d : DeedT} (hs : d.size < 256) : InvH (stepH h d) (n + 1) := by
  have hw : d.who % 3 < 3 := Nat.mod_lt _ (by decide)
  unfold stepH
  split
  · exact inv_learn H hw (Nat.mod_lt _ (by decide))
  · obtain ⟨h1, h2⟩ := evH_may h d hs
    exact inv_event H hn hw (evH h d) rfl (by show getV _ _ + 1 = _; rw [getV_nat _ (by omega)]) rfl (path_own (Nat.mod_lt _ (by decide))) h1 h2
theorem inv_fold : ∀ (l : List DeedT) (h : Hist) (n : Nat), InvH h n → n + l.length ≤ 1000 → (∀ d ∈ l, d.size < 256) → InvH (l.foldl stepH h) (n + l.length)
  | [], h, n, H, _, _ => H
  | d :: t, h, n, H, hn, hs => by
    rw [List.length_cons] at hn ⊢
    have := inv_fold t (stepH h d) (n + 1) (inv_step H (by omega) (hs d (by simp))) (by omega) (fun x hx => hs x (by simp [hx]))
    rw [show n + (t.length + 1) = n + 1 + t.length by omega]
    exact this
end Go.Proofs.YtppmbdpfledejaaGreatDoor
namespace Go.Proofs.YtppmbdpfledejaaGreatDoor
open Go.RowKit
def knE (e f : Ev) : Bool := hasV e.deps f.r f.q
def insL : List Ev → Ev → List Ev
  | [], e => [e]
  | f :: l, e => if cmpE f e < 0 then f :: insL l e else e :: f :: l
def lastAt (l : List Ev) (e : Ev) : Nat := l.findIdx fun f => !decide (cmpE f e < 0)
theorem insL_place (l : List Ev) (e : Ev) : insL l e = l.take (lastAt l e) ++ e :: l.drop (lastAt l e) := by
  unfold lastAt
  induction l with
  | nil => rfl
  | cons f l ih =>
    unfold insL
    rw [List.findIdx_cons]
    by_cases h : cmpE f e < 0
    · simp [h, ih]
    · simp [h]
/-- Is the event at place i a last one, and the first of its dot? -/
def lastOk (i k : Nat) (e f : Ev) : Bool := (!(f.path == e.path) || !knE f e) && (decide (i ≤ k) || !decide (cmpD f.r f.q e.r e.q = 0))
def lastIs (l : List Ev) (i : Nat) (e : Ev) : Bool := (List.range l.length).all fun k => match l[k]? with | some f => lastOk i k e f | none => true
def lastTo (l : List Ev) : Nat → List Ev
  | 0 => []
  | i + 1 => match l[i]? with | some e => if lastIs l i e then insL (lastTo l i) e else lastTo l i | none => lastTo l i
def lastE (l : List Ev) : List Ev := lastTo l l.length
theorem cmpD_zero (r q r' q' : Int) : cmpD r q r' q' = 0 ↔ r = r' ∧ q = q' := by
  rcases cmp_cases r q r' q' with ⟨k, k1, k2⟩ | ⟨k, k1⟩ | ⟨k, k1⟩
  · rw [k]; simp [k1, k2]
  · rw [k]; constructor
    · intro x; omega
    · rintro ⟨x, y⟩; omega
  · rw [k]; constructor
    · intro x; omega
    · rintro ⟨x, y⟩; omega
end Go.Proofs.YtppmbdpfledejaaGreatDoor
namespace Go.Proofs.YtppmbdpfledejaaGreatDoor
open Go.RowKit
/-- Events as the cells of a slice; each with the slice of what was known. -/
def evsC : List (Ev × Value) → List Value
  | [] => []
  | x :: t => (evC x.1 x.2).toList ++ evsC t
theorem evC_len (e : Ev) (v : Value) : (evC e v).toList.length = 38 := by rw [Array.length_toList, evC_size]
theorem evsC_length (us : List (Ev × Value)) : (evsC us).length = us.length * 38 := by
  induction us with
  | nil => rfl
  | cons x t ih => rw [evsC, List.length_append, evC_len, ih, List.length_cons]; omega
theorem evsC_append (us vs : List (Ev × Value)) : evsC (us ++ vs) = evsC us ++ evsC vs := by
  induction us with
  | nil => rfl
  | cons x t ih => rw [List.cons_append, evsC, evsC, ih, List.append_assoc]
theorem evsC_one (us : List (Ev × Value)) (h : ∀ x ∈ us, x.2.oneCell' = true) : ∀ u ∈ evsC us, u.oneCell' = true := by
  induction us with
  | nil => intro u hu; cases hu
  | cons x t ih =>
    intro u hu
    rw [evsC] at hu
    rcases List.mem_append.1 hu with hu | hu
    · exact (Array.all_eq_true_iff_forall_mem.1 (evC_one x.1 x.2 (h x (by simp)))) u (by simpa using hu)
    · exact ih (fun y hy => h y (by simp [hy])) u hu
theorem evsC_at (us : List (Ev × Value)) : ∀ k x, us[k]? = some x → ∀ j u, (evC x.1 x.2)[j]? = some u → (evsC us)[k * 38 + j]? = some u := by
  induction us with
  | nil => intro k x h; simp at h
  | cons y t ih =>
    intro k x h j u hu
    rw [evsC]
    cases k with
    | zero =>
      simp at h; subst h
      have hj : j < 38 := by have := (Array.getElem?_eq_some_iff.1 hu).1; rwa [evC_size] at this
      rw [List.getElem?_append_left (by rw [evC_len]; omega), Array.getElem?_toList, show 0 * 38 + j = j by omega]; exact hu
    | succ k =>
      rw [List.getElem?_append_right (by rw [evC_len]; omega), evC_len, show (k + 1) * 38 + j - 38 = k * 38 + j by omega]
      exact ih k x (by simpa using h) j u hu
/-- A slice value whose elements are these events. -/
def HasEvs (w : World) (v : Value) (l : List Ev) : Prop :=
  ∃ us : List (Ev × Value), us.map (·.1) = l ∧ (∀ x ∈ us, HasDots w x.2 x.1.deps) ∧ ∃ ao cap, v = .slice ao us.length cap ∧ (ao = none → us = [] ∧ cap = 0) ∧ ∀ ad, ao = some ad → us.length ≤ cap ∧ ∀ j u, (evsC us)[j]? = some u → w.cell? (ad.add j) = some u
theorem evs_nil (w : World) : HasEvs w (.slice none 0 0) [] := ⟨[], rfl, (fun _ h => by cases h), none, 0, rfl, fun _ => ⟨rfl, rfl⟩, fun _ h => by cases h⟩
theorem evs_below {w w' : World} {v : Value} {l : List Ev} (h : HasEvs w v l) (hb : Below w.heap.size w w') : HasEvs w' v l := by
  obtain ⟨us, h1, h2, ao, cap, rfl, hnil, hc⟩ := h
  refine ⟨us, h1, fun x hx => dots_below (h2 x hx) hb, ao, cap, rfl, hnil, fun ad had => ⟨(hc ad had).1, fun j u hu => ?_⟩⟩
  have h1 := (hc ad had).2 j u hu
  exact (World.cell?_of_block (hb.block (ad.add j).block (World.block_lt_of_cell? w _ h1))).trans h1
theorem addr_add2 (ad : Addr) (k j : Nat) : (ad.add k).add j = ad.add (k + j) := Go.Deep.add_add ad k j
/-- An event loaded from wherever its cells lie. -/
theorem ev_run {P : Program} {o : Oper} {a : Act} {w : World} (ty : TypeId) (x : Operand) (ho : o.op = .load ty x) (A : Addr) (hx : a.eval x = .pointer (some A)) {e : Ev} {v : Value} {fs : Array Field} (hu : P.underlying ty = some (.struct fs))
    (hi : (P.info? ty).map (·.size) = some 38) (hc : ∀ j u, (evC e v)[j]? = some u → w.cell? (A.add j) = some u) : (execOp a.eval o).run P w = .ok (.value (.agg (evC e v))) w := by
  have hl : (loadCells A (evC e v).toList.length).run P w = .ok (evC e v).toList.toArray w := run_loadCells_list (P := P) w A _ (fun j u hj => hc j u (by rwa [Array.getElem?_toList] at hj))
  rw [evC_len, Array.toArray_toList] at hl
  cases hq : P.info? ty with
  | none => simp [hq] at hi
  | some i =>
    have hs : i.size = 38 := by simpa [hq] using hi
    unfold execOp
    simp [ho, hx, Instr.loadAt, Instr.sureAddr, loadVar, isAgg, run_underlying hu, sizeOf, typeInfo, hq, hs, hl]
theorem evA_yields {P : Program} {ops : Array Oper} {S : World → Prop} {o : Oper} {a : Act} (hw : Region.wanted o (yielded ops a.tmps) = true) (ty : TypeId) (x : Operand) (ho : o.op = .load ty x) (A : Addr) (hx : a.eval x = .pointer (some A)) {e : Ev} {v : Value} {fs : Array Field}
    (hu : P.underlying ty = some (.struct fs)) (hi : (P.info? ty).map (·.size) = some 38) (hS : ∀ w, S w → ∀ j u, (evC e v)[j]? = some u → w.cell? (A.add j) = some u) : YieldsIf P ops S o (.agg (evC e v)) a :=
  .inl ⟨hw, fun w h => ev_run ty x ho A hx hu hi (hS w h)⟩
/-- A slice of events of the call's own, whose vectors lie in blocks of dots. -/
def OwnEvs (B : Nat) (w : World) (v : Value) (us : List (Ev × Value)) : Prop := w.ownsRow B 92 38 v us.length (evsC us) ∧ ∀ x ∈ us, TypDots w x.2 x.1.deps
theorem ownEvs_nil (B : Nat) (w : World) : OwnEvs B w (.slice none 0 0) [] := ⟨World.ownsRow_nil _ _ _ _, fun _ h => by cases h⟩
theorem evs_of_own {B : Nat} {w : World} {v : Value} {us : List (Ev × Value)} (h : OwnEvs B w v us) : HasEvs w v (us.map (·.1)) := by
  obtain ⟨h, ht⟩ := h
  rcases h.2 with ⟨rfl, h0⟩ | ⟨g, cap, cur, rfl, rest⟩
  · obtain rfl : us = [] := List.eq_nil_of_length_eq_zero h0
    exact evs_nil w
  · exact ⟨us, rfl, fun x hx => (ht x hx).1, some ⟨g, 0, none⟩, cap, rfl, (fun h => by cases h), fun ad had => ⟨rest.2.2.1, fun j u hu => by
      cases had; exact h.cells rfl j u hu⟩⟩
/-- One event appended to a slice of events of the call's own. -/
theorem append_ev {P : Program} {w : World} {ops : Array Oper} {rest : List Oper} {o : Oper} {a : Act} {Q : Exit → Act → World → Prop} (hgd : o.guard = none) (s x : Operand) (t : TypeId)
    (ho : o.op = .call { callee := .builtin .append, args := #[s, x], argTypes := #[t, t] })
    (base : Nat) (e : TypeId) (i : TypeInfo) (ht : P.underlying t = some (.slice e)) (hi : P.info? e = some i) (hz : (i.zero.map (·.cells.size), i.size, i.bytes) = (some 38, 38, 104))
    (v : Value) (us : List (Ev × Value)) (y : Ev × Value) (hs : a.eval s = v) (hown : w.ownsRow base e 38 v us.length (evsC us)) (hone : y.2.oneCell' = true) (ad : Addr) (c : Nat) (hx : a.eval x = .slice (some ad) 1 c)
    (hc : ∀ j u, (evC y.1 y.2)[j]? = some u → w.cell? (ad.add j) = some u) (hlen : us.length + 1 ≤ 100000) (hbase : base ≤ w.heap.size)
    (h : ∀ v' w', w'.ownsRow base e 38 v' (us ++ [y]).length (evsC (us ++ [y])) → w.grownBy w' v.ownBlock → wpList P ops Q rest (a.put o.dst v') w') : wpList P ops Q (o :: rest) a w := by
  simp only [Prod.mk.injEq] at hz
  obtain ⟨hz1, hz2, hz3⟩ := hz
  cases hzz : i.zero with
  | none => rw [hzz] at hz1; cases hz1
  | some z =>
    rw [hzz] at hz1
    simp only [Option.map_some, Option.some.injEq] at hz1
    have e1 : evsC [y] = (evC y.1 y.2).toList := by rw [evsC, evsC, List.append_nil]
    refine wpList_append_own w hgd s x t ho base e i z 38 104 ht hi hzz hz2 hz3 hz1 (by decide) v us.length (evsC us) hs hown ad 1 c (evsC [y]) hx (by rw [evsC_length]; rfl) (fun j u hj => ?_) (evsC_one [y] (fun q hq => by
      simp only [List.mem_singleton] at hq; rw [hq]; exact hone))
      (by unfold maxLen; omega) (by omega) hbase fun v' w' h1 h2 _ => h v' w' (by rw [evsC_append, List.length_append]; exact h1) h2
    rw [e1, Array.getElem?_toList] at hj
    exact hc j u hj
theorem infoEv : ∃ i, Tryz.prog.info? 92 = some i ∧ (i.zero.map (·.cells.size), i.size, i.bytes) = (some 38, 38, 104) := by
  have h : (Tryz.prog.info? 92).map (fun i => (i.zero.map (·.cells.size), i.size, i.bytes)) = some (some 38, 38, 104) := by kernel_rfl
  cases hi : Tryz.prog.info? 92 with
  | none => rw [hi] at h; cases h
  | some i => rw [hi] at h; exact ⟨i, rfl, Option.some.inj h⟩
end Go.Proofs.YtppmbdpfledejaaGreatDoor
namespace Go.Proofs.YtppmbdpfledejaaGreatDoor
open Go.RowKit
set_option maxRecDepth 100000 in
theorem ev_built (e : Ev) (ao : Option Addr) (n c : Nat) : Tryz.prog.built 92 [(0, .agg #[.int .i64 e.r, .int .i64 e.q]), (1, .slice ao n c), (2, .int .i64 e.kind), (3, .string (str e.path)), (4, .agg (row .u8 32 e.sum)), (5, .int .i64 e.size)] = some (evC e (.slice ao n c)) := by kernel_rfl
theorem build_yields {P : Program} {ops : Array Oper} {S : World → Prop} {o : Oper} {a : Act} (hw : Region.wanted o (yielded ops a.tmps) = true) (t : TypeId) (parts : Array (Nat × Operand)) (ho : o.op = .build t parts) (ps : List (Nat × Value)) (cs : Array Value)
    (hb : P.built t ps = some cs) (hp : (parts.map fun (i, x) => (i, a.eval x)).toList = ps) : YieldsIf P ops S o (.agg cs) a :=
  .inl ⟨hw, fun w _ => by
    subst hp
    unfold execOp
    simp only [ho, Sem.run_bind, run_build w t _ cs hb, Result.andThen_ok]
    rfl⟩
theorem store_ev_at {P : Program} {ops : Array Oper} {o : Oper} {a : Act} {w : World} {K : Act → World → Prop} {Q : Exit → Act → World → Prop} {E : Prop} (hd : o.dst = none) (hw : Region.wanted o (yielded ops a.tmps) = true) (ty : TypeId) (x y : Operand) (ho : o.op = .store ty x y)
    (g : Nat) (e e0 : Ev) (v v0 : Value) (hx : a.eval x = .pointer (some ⟨g, 0, none⟩)) (hy : a.eval y = .agg (evC e v)) (t : TypeId) (hg : EvAt w g t e0 v0) (hi : (P.info? ty).map (·.size) = some 38) (hv : v.oneCell' = true)
    (h : ∀ w', EvAt w' g t e v → Solo g w w' → K a w') : if Region.wanted o (yielded ops a.tmps) = true then Oper.wp P o a w K Q else E :=
  store_at hd hw ty x y ho g (evC e v) hx hy t _ hg (by rw [hi, evC_size]) (by rw [evC_size, evC_size]) (evC_one e v hv) (h _ (setRow_heap _ _ _ _ _ _ hg) (solo_setRow w g _))
theorem str_yields12 {P : Program} {ops : Array Oper} {S : World → Prop} {o : Oper} {a : Act} (hw : Region.wanted o (yielded ops a.tmps) = true) (ty : TypeId) (x : Operand) (ho : o.op = .load ty x)
    (ad : Addr) (hx : a.eval x = .pointer (some ad)) (s : ByteArray) (hu : P.underlying ty = some .string) (hS : ∀ w, S w → w.cell? ad = some (.string s)) : YieldsIf P ops S o (.string s) a :=
  .inl ⟨hw, fun w h => by
    have hc := hS w h
    unfold execOp
    simp [ho, hx, Instr.loadAt, Instr.sureAddr, loadVar, isAgg, run_underlying hu, hc]⟩
/-- An event stored by the one operation that is ready. -/
theorem ready_store_ev {P : Program} {md : Region.Mode} {ops : Array Oper} {Q : Exit → Act → World → Prop} {S : World → Prop} {fuel : Nat} {listed : Array Bool} {a : Act} {w : World} (i : Nat) (hr : Region.ready md ops listed = [i]) {o : Oper} (hoi : ops[i]? = some o)
    (hd : o.dst = none) (hw : Region.wanted o (yielded ops a.tmps) = true) (ty : TypeId) (x y : Operand) (ho : o.op = .store ty x y) (g : Nat) (e e0 : Ev) (v v0 : Value) (hx : a.eval x = .pointer (some ⟨g, 0, none⟩)) (hy : a.eval y = .agg (evC e v)) (t : TypeId)
    (hg : EvAt w g t e0 v0) (hi : (P.info? ty).map (·.size) = some 38) (hv : v.oneCell' = true)
    (h : ∀ w', EvAt w' g t e v → Solo g w w' → S w' ∧ wpAnyH P md ops Q S fuel (listed.setIfInBounds i true) a w') : wpAnyH P md ops Q S (fuel + 1) listed a w :=
  wpAnyH_ready hr (by simp) (AllReadyH.cons hoi (fun K hK => store_ev_at hd hw ty x y ho g e e0 v v0 hx hy t hg hi hv (fun w' h1 h2 => hK.out _ _ (h w' h1 h2).1 (fun _ => (h w' h1 h2).2))) AllReadyH.nil)
theorem dots_solo {w w' : World} {v : Value} {l : List D2} {g : Nat} (h : HasDots w v l) (hs : Solo g w w') (hne : l = [] ∨ v.ownBlock ≠ some g) : HasDots w' v l := by
  obtain ⟨ao, cap, rfl, hnil, hc⟩ := h
  refine ⟨ao, cap, rfl, hnil, fun ad had => ⟨(hc ad had).1, fun j u hu => ?_⟩⟩
  rcases hne with rfl | hne
  · simp [dotsC] at hu
  · have h1 := (hc ad had).2 j u hu
    refine (World.cell?_of_block (hs.block (ad.add j).block fun e => hne ?_)).trans h1
    rw [had]
    show some ad.block = some g
    rw [← e]; unfold Addr.add; split <;> rfl
theorem typ_solo {w w' : World} {v : Value} {l : List D2} {g : Nat} (h : TypDots w v l) (hs : Solo g w w') {cs : Array Value} {T : TypeId} {fr : Nat × Nat} (hg : w.heap[g]? = some (.cells cs T fr)) (hT : T ≠ 29) : TypDots w' v l := by
  have hne : l = [] ∨ v.ownBlock ≠ some g := h.2.elim .inl fun ⟨k, cs', fr', h1, h2⟩ => .inr fun e => by
    rw [h1] at e; cases e; rw [h2] at hg; cases hg; exact hT rfl
  refine ⟨dots_solo h.1 hs hne, h.2.elim .inl fun ⟨k, cs', fr', h1, h2⟩ => ?_⟩
  rcases hne with rfl | hne
  · exact .inl rfl
  · exact .inr ⟨k, cs', fr', h1, (hs.block k fun e => hne (by rw [h1, e])).trans h2⟩
set_option maxRecDepth 100000 in
theorem evSize : (Tryz.prog.info? 92).map (·.size) = some 38 := by kernel_rfl
set_option maxRecDepth 100000 in
theorem sumSize : (Tryz.prog.info? 31).map (·.size) = some 32 := by kernel_rfl
end Go.Proofs.YtppmbdpfledejaaGreatDoor
namespace Go.Proofs.YtppmbdpfledejaaGreatDoor
open Go.RowKit
theorem call_at2 {P : Program} {ops : Array Oper} {o : Oper} {a : Act} {w : World} {K : Act → World → Prop} {Q : Exit → Act → World → Prop} {E : Prop} (hw : Region.wanted o (yielded ops a.tmps) = true) (f : FuncId) (x y : Operand) (t u : TypeId)
    (ho : o.op = .call { callee := .value (.func f), args := #[x, y], argTypes := #[t, u] }) (v z : Value) (hx : a.eval x = v) (hy : a.eval y = z) (eg : ∀ vs w, (callFunc f vs).run P w = .ok (.enter f vs) w) (Post : Ending → World → Prop) (hc : Calls P f #[v, z] w Post)
    (h : ∀ e w', Post e w' → ∃ r, e = .returned r ∧ K (a.put o.dst r) w') : if Region.wanted o (yielded ops a.tmps) = true then Oper.wp P o a w K Q else E := by
  rw [if_pos hw]
  have hr : (execOp a.eval o).run P w = .ok (.enter f #[v, z]) w := by
    have hv : a.eval (.func f) = .func (.func f) #[] #[] := rfl
    simp [execOp, ho, resolve, invoke, Deferred.ofValue, hx, hy, hv, eg]
  unfold Oper.wp
  rw [hr]
  exact hc.mono fun e w' hp => by
    obtain ⟨r, rfl, hk⟩ := h e w' hp
    exact hk
/-- .. with two. -/
theorem ready_call2 {P : Program} {md : Region.Mode} {ops : Array Oper} {Q : Exit → Act → World → Prop} {S : World → Prop} {fuel : Nat} {listed : Array Bool} {ts : Array Value} {ds : List Deferred} {w : World} (i d : Nat) (hr : Region.ready md ops listed = [i]) {o : Oper} (hoi : ops[i]? = some o)
    (hd : o.dst = some d) (hw : Region.wanted o (yielded ops ts) = true) (f : FuncId) (x y : Operand) (t u : TypeId) (ho : o.op = .call { callee := .value (.func f), args := #[x, y], argTypes := #[t, u] }) (v z : Value) (hx : Act.eval { tmps := ts, defers := ds } x = v) (hy : Act.eval { tmps := ts, defers := ds } y = z)
    (eg : ∀ vs w, (callFunc f vs).run P w = .ok (.enter f vs) w) (Post : Ending → World → Prop) (hc : Calls P f #[v, z] w Post)
    (h : ∀ e w', Post e w' → ∃ r, e = .returned r ∧ S w' ∧ wpAnyH P md ops Q S fuel (listed.setIfInBounds i true) { tmps := ts.setIfInBounds d r, defers := ds } w') : wpAnyH P md ops Q S (fuel + 1) listed { tmps := ts, defers := ds } w :=
  wpAnyH_ready hr (by simp) (AllReadyH.cons hoi (fun K hK => call_at2 hw f x y t u ho v z hx hy eg Post hc (fun e w' hp => by
    obtain ⟨r, e1, h1, h2⟩ := h e w' hp
    refine ⟨r, e1, ?_⟩
    rw [hd]
    exact hK.out _ _ h1 (fun _ => h2))) AllReadyH.nil)
end Go.Proofs.YtppmbdpfledejaaGreatDoor
namespace Go.Proofs.YtppmbdpfledejaaGreatDoor
open Go.RowKit
/-- A number of 64 bits. -/
def I64 (a : Int) : Prop := -9223372036854775808 ≤ a ∧ a < 9223372036854775808
end Go.Proofs.YtppmbdpfledejaaGreatDoor
namespace Go.Proofs.YtppmbdpfledejaaGreatDoor
open Go.RowKit
def HoldsU (w : World) (v : Value) (us : List (Ev × Value)) : Prop :=
  ∃ ao cap, v = .slice ao us.length cap ∧ (ao = none → us = [] ∧ cap = 0) ∧ ∀ ad, ao = some ad → us.length ≤ cap ∧ ∀ j u, (evsC us)[j]? = some u → w.cell? (ad.add j) = some u
def DepsU (w : World) (us : List (Ev × Value)) : Prop := ∀ x ∈ us, HasDots w x.2 x.1.deps
def FitE (e : Ev) : Prop := I64 e.r ∧ I64 e.q ∧ e.deps.length < 2000000 ∧ e.path.length < 1152921504606846976
def FitU (us : List (Ev × Value)) : Prop := ∀ x ∈ us, FitE x.1
theorem u_of_evs {w : World} {v : Value} {l : List Ev} (h : HasEvs w v l) : ∃ us, us.map (·.1) = l ∧ DepsU w us ∧ HoldsU w v us := h
theorem holdsU_below {w w' : World} {v : Value} {us : List (Ev × Value)} (h : HoldsU w v us) (hb : Below w.heap.size w w') : HoldsU w' v us := by
  obtain ⟨ao, cap, rfl, hnil, hc⟩ := h
  refine ⟨ao, cap, rfl, hnil, fun ad had => ⟨(hc ad had).1, fun j u hu => ?_⟩⟩
  have h1 := (hc ad had).2 j u hu
  exact (World.cell?_of_block (hb.block (ad.add j).block (World.block_lt_of_cell? w _ h1))).trans h1
theorem depsU_below {w w' : World} {us : List (Ev × Value)} (h : DepsU w us) (hb : Below w.heap.size w w') : DepsU w' us := fun x hx => dots_below (h x hx) hb
theorem holdsU_nil (w : World) : HoldsU w (.slice none 0 0) [] := ⟨none, 0, rfl, fun _ => ⟨rfl, rfl⟩, fun _ h => by cases h⟩
theorem holdsU_shape {w : World} {v : Value} {us : List (Ev × Value)} (h : HoldsU w v us) (n : Nat) (hn : n = us.length) : ∃ ao cap, v = .slice ao n cap := by
  obtain ⟨ao, cap, rfl, -⟩ := h
  exact ⟨ao, cap, by rw [hn]⟩
theorem holdsU_at {w : World} {v : Value} {us : List (Ev × Value)} (h : HoldsU w v us) (n k : Nat) (hn : us.length = n) (x : Ev × Value) (hx : us[k]? = some x) : ∃ ad cap, v = .slice (some ad) n cap ∧ ∀ j u, (evC x.1 x.2)[j]? = some u → w.cell? ((ad.add (k * 38)).add j) = some u := by
  obtain ⟨ao, cap, rfl, hnil, hc⟩ := h
  cases ao with
  | none => obtain ⟨rfl, _⟩ := hnil rfl; simp at hx
  | some ad => exact ⟨ad, cap, by rw [hn], fun j y hy => by rw [addr_add2]; exact (hc ad rfl).2 _ _ (evsC_at us k x hx j y hy)⟩
theorem dots_oneH {w : World} {v : Value} {l : List D2} (h : HasDots w v l) : v.oneCell' = true := by
  obtain ⟨ao, cap, e⟩ := dots_shape h _ rfl
  rw [e]; rfl
/-- An event loaded from wherever its cells lie. -/
theorem load_evA_on {P : Program} {ops : Array Oper} {rest : List Oper} {o : Oper} {a : Act} {w : World} {Q : Exit → Act → World → Prop} (hw : Region.wanted o (yielded ops a.tmps) = true) (ty : TypeId) (x : Operand) (ho : o.op = .load ty x) (A : Addr) (hx : a.eval x = .pointer (some A)) {e : Ev} {v : Value} {fs : Array Field}
    (hu : P.underlying ty = some (.struct fs)) (hi : (P.info? ty).map (·.size) = some 38) (hc : ∀ j u, (evC e v)[j]? = some u → w.cell? (A.add j) = some u)
    (h : wpList P ops Q rest (a.put o.dst (.agg (evC e v))) w) : wpList P ops Q (o :: rest) a w := by
  refine wpList_step fun K hK => ?_
  rw [if_pos hw]
  unfold Oper.wp
  rw [ev_run ty x ho A hx hu hi hc]
  exact hK _ _ h
/-- Events appended to a slice of events of the call's own. -/
theorem append_evs {P : Program} {w : World} {ops : Array Oper} {rest : List Oper} {o : Oper} {a : Act} {Q : Exit → Act → World → Prop} (hgd : o.guard = none) (s x : Operand) (t : TypeId)
    (ho : o.op = .call { callee := .builtin .append, args := #[s, x], argTypes := #[t, t] })
    (base : Nat) (e : TypeId) (i : TypeInfo) (ht : P.underlying t = some (.slice e)) (hi : P.info? e = some i) (hz : (i.zero.map (·.cells.size), i.size, i.bytes) = (some 38, 38, 104))
    (v : Value) (us ys : List (Ev × Value)) (hs : a.eval s = v) (hown : w.ownsRow base e 38 v us.length (evsC us)) (hone : ∀ y ∈ ys, y.2.oneCell' = true) (ad : Addr) (m c : Nat) (hx : a.eval x = .slice (some ad) m c) (hm : m = ys.length)
    (hc : ∀ j u, (evsC ys)[j]? = some u → w.cell? (ad.add j) = some u) (hlen : us.length + ys.length ≤ 100000) (hbase : base ≤ w.heap.size)
    (h : ∀ v' w', w'.ownsRow base e 38 v' (us ++ ys).length (evsC (us ++ ys)) → w.grownBy w' v.ownBlock → wpList P ops Q rest (a.put o.dst v') w') : wpList P ops Q (o :: rest) a w := by
  simp only [Prod.mk.injEq] at hz
  obtain ⟨hz1, hz2, hz3⟩ := hz
  subst hm
  cases hzz : i.zero with
  | none => rw [hzz] at hz1; cases hz1
  | some z =>
    rw [hzz] at hz1
    simp only [Option.map_some, Option.some.injEq] at hz1
    refine wpList_append_own w hgd s x t ho base e i z 38 104 ht hi hzz hz2 hz3 hz1 (by decide) v us.length (evsC us) hs hown ad ys.length c (evsC ys) hx (by rw [evsC_length]) hc (evsC_one ys hone)
      (by unfold maxLen; omega) (by omega) hbase fun v' w' h1 h2 _ => h v' w' (by rw [evsC_append, List.length_append]; exact h1) h2
set_option maxRecDepth 100000 in
theorem ev_slice1M (e : Ev) (ao : Option Addr) (n c : Nat) : Tryz.prog.builtSlice 92 1 [(0, .agg (evC e (.slice ao n c)))] = some (evC e (.slice ao n c)) := by kernel_rfl
/-- A slice of one event, made. -/
theorem build_evM {ops : Array Oper} {rest : List Oper} {o : Oper} {a : Act} {w : World} {Q : Exit → Act → World → Prop} (hg : o.guard = none) (d : Nat) (hd : o.dst = some d) (x : Operand) (ho : o.op = .buildSlice 22 1 #[(0, x)])
    (N : Nat) (hN : w.heap.size = N) (e : Ev) (ao : Option Addr) (n c : Nat) (hx : a.eval x = .agg (evC e (.slice ao n c)))
    (h : ∀ w', EvAt w' N 92 e (.slice ao n c) → Below w.heap.size w w' → w'.heap.size = N + 1 → wpList Tryz.prog ops Q rest (a.put (some d) (.slice (some ⟨N, 0, none⟩) 1 1)) w') : wpList Tryz.prog ops Q (o :: rest) a w := by
  refine Go.Great.wpList_buildSliceTo hg 22 92 1 #[(0, x)] ho N hN (some d) hd Tryz.underlying22 (evC e (.slice ao n c)) ?_ (h _ ?_ ((Below.refl _ _).alloc (Nat.le_refl _) _) ?_)
  · have hp : ((#[(0, x)] : Array (Nat × Operand)).map fun (i, x) => (i, a.eval x)).toList = [(0, .agg (evC e (.slice ao n c)))] := by simp [hx]
    rw [hp]; exact ev_slice1M e ao n c
  · rw [← hN]; exact heap_last _ _
  · rw [size_of_alloc, hN]
theorem own_belowM {w w' : World} {base : Nat} {e : TypeId} {size : Nat} {v : Value} {n : Nat} {xs : List Value} (h : w.ownsRow base e size v n xs) (hb : Below w.heap.size w w') : w'.ownsRow base e size v n xs := by
  refine ⟨h.1, ?_⟩
  rcases h.2 with h0 | ⟨b, cap, cur, rfl, h1, h2, rest⟩
  · exact .inl h0
  · exact .inr ⟨b, cap, cur, rfl, h1, (hb.block b (Array.getElem?_eq_some_iff.1 h2).1).trans h2, rest⟩
theorem evsC_one1 (e : Ev) (v : Value) : evsC [(e, v)] = (evC e v).toList := by rw [evsC, evsC, List.append_nil]
theorem evAt_one {w : World} {N : Nat} {T : TypeId} {e : Ev} {v : Value} (h : EvAt w N T e v) : ∀ j u, (evsC [(e, v)])[j]? = some u → w.cell? ((⟨N, 0, none⟩ : Addr).add j) = some u := fun j u hu => by
  rw [evsC_one1, Array.getElem?_toList] at hu
  rw [Addr.add_lit, Nat.zero_add]
  exact evAt_cell h j u hu
end Go.Proofs.YtppmbdpfledejaaGreatDoor
namespace Go.Proofs.YtppmbdpfledejaaGreatDoor
open Ieee
def frac : Nat := 2 ^ 52
theorem frac_pos : 0 < frac := Nat.two_pow_pos _
/-- What the rungs of double floats stand for, in units of the least. -/
def rungV (r : Nat) : Nat := if r < frac then r else (frac + r % frac) * 2 ^ (r / frac - 1)
def rungExp (r : Nat) : Nat := if r < frac then 0 else r / frac - 1
def rungMant (r : Nat) : Nat := if r < frac then r else frac + r % frac
theorem rungV_eq (r : Nat) : rungV r = rungMant r * 2 ^ rungExp r := by
  unfold rungV rungMant rungExp
  split <;> simp
def sgn (s : Bool) (n : Nat) : Int := if s then -(n : Int) else n
theorem read_word (s : Bool) (r : Nat) (h : r < double.infRung) : double.read (double.word s r) = .number s (rungMant r) (double.leastPlace + (rungExp r : Nat)) := by
  have hw := double.infRung_lt
  have hq : r < double.signWeight := Nat.lt_trans h hw
  have hpos : 0 < double.signWeight := Nat.lt_of_le_of_lt (Nat.zero_le _) hq
  have e1 : (double.word s r / double.signWeight % 2 == 1) = s := by
    cases s with
    | false => simp [Format.word, Nat.div_eq_of_lt hq]
    | true =>
      have : (double.signWeight + r) / double.signWeight = 1 := by rw [Nat.add_div_left _ hpos, Nat.div_eq_of_lt hq]
      simp [Format.word, this]
  have e2 : double.word s r % double.signWeight = r := by
    cases s with
    | false => simp [Format.word, Nat.mod_eq_of_lt hq]
    | true => simp [Format.word, Nat.mod_eq_of_lt hq]
  unfold Format.read
  simp only [e1, e2]
  have hb : double.binade = frac := rfl
  rw [hb]
  unfold rungMant rungExp
  split
  · simp
  · first | rfl | (rw [if_pos h])
theorem order_words (s t : Bool) (r q : Nat) (hr : r < double.infRung) (hq : q < double.infRung) :
    double.order (double.word s r) (double.word t q) = some (compare (sgn s (rungV r)) (sgn t (rungV q))) := by
  unfold Format.order
  rw [read_word s r hr, read_word t q hq, rungV_eq, rungV_eq]
  generalize rungMant r = m
  generalize rungMant q = n
  generalize rungExp r = i
  generalize rungExp q = j
  generalize double.leastPlace = L
  unfold Datum.order
  simp only
  congr 1
  have key : ∀ (c : Nat) (x y : Int), compare x y = compare (x * (2 ^ c : Nat)) (y * (2 ^ c : Nat)) := by
    intro c x y
    have hp : (0 : Int) < ((2 ^ c : Nat) : Int) := by exact_mod_cast Nat.two_pow_pos c
    generalize ((2 ^ c : Nat) : Int) = C at hp
    simp only [compare, compareOfLessAndEq]
    have a : (x * C < y * C) ↔ x < y := Int.mul_lt_mul_right hp
    have b : (x * C = y * C) ↔ x = y := by
      constructor
      · exact fun h => Int.eq_of_mul_eq_mul_right (by omega) h
      · exact fun h => by rw [h]
    simp only [a, b]
  have sg : ∀ (s : Bool) (m k c : Nat), signed s m k * ((2 ^ c : Nat) : Int) = sgn s (m * 2 ^ (k + c)) := by
    intro s m k c
    unfold signed sgn
    rw [Nat.shiftLeft_eq, Nat.pow_add, ← Nat.mul_assoc]
    cases s <;> simp [Int.neg_mul]
  rw [key (min i j), sg, sg]
  have h1 : (L + (i : Int) - min (L + (i : Int)) (L + (j : Int))).toNat + min i j = i := by omega
  have h2 : (L + (j : Int) - min (L + (i : Int)) (L + (j : Int))).toNat + min i j = j := by omega
  rw [h1, h2]
/-- The rung of the float nearest to a number. -/
def kept (n : Nat) : Nat := Toward.even.cut false (n <<< (52 - n.log2)) (n.log2 - 52)
def rungN (n : Nat) : Nat := if n = 0 then 0 else (1022 + n.log2) * frac + kept n
theorem nearest_num (n : Int) (h : rungN n.natAbs < double.infRung) : FloatKind.f64.nearest n = double.word (decide (n < 0)) (rungN n.natAbs) := by
  unfold FloatKind.nearest FloatKind.encode Format.write FloatKind.format
  simp only
  unfold Format.nearest
  by_cases h0 : n.natAbs = 0
  · rw [if_pos h0, h0]; rfl
  · rw [if_neg h0]
    have hl : double.leastPlace = -1074 := by decide
    have hf : double.fractionBits = 52 := rfl
    have hb : double.binade = frac := rfl
    rw [hl, hf, hb]
    have e1 : max (0 + (n.natAbs.log2 : Int) - (52 : Nat)) (-1074) = (n.natAbs.log2 : Int) - 52 := by omega
    simp only [e1]
    have e2 : (0 - ((n.natAbs.log2 : Int) - 52)).toNat = 52 - n.natAbs.log2 := by omega
    have e3 : ((n.natAbs.log2 : Int) - 52 - 0).toNat = n.natAbs.log2 - 52 := by omega
    have e4 : ((n.natAbs.log2 : Int) - 52 - -1074).toNat = 1022 + n.natAbs.log2 := by omega
    rw [e2, e3, e4]
    have h1 : (1022 + n.natAbs.log2) * frac + Toward.even.cut (decide (n < 0)) (n.natAbs <<< (52 - n.natAbs.log2)) (n.natAbs.log2 - 52) = rungN n.natAbs := by
      rw [rungN, if_neg h0]; rfl
    rw [h1, Nat.min_eq_left (Nat.le_of_lt h)]
theorem cut_even (s : Bool) (n d : Nat) (hd : d ≤ n.log2 + 2) : Toward.even.cut s n d = n / 2 ^ d + (decide (2 ^ d < 2 * (n % 2 ^ d)) || (2 ^ d == 2 * (n % 2 ^ d) && n / 2 ^ d % 2 == 1)).toNat := by
  unfold Toward.cut
  simp only [Nat.shiftLeft_eq, Nat.one_mul, Nat.min_eq_left hd]
/-- A number of 53 digits at most is kept whole. -/
theorem kept_small (n : Nat) (h : n.log2 ≤ 52) : kept n = n * 2 ^ (52 - n.log2) := by
  unfold kept
  rw [show n.log2 - 52 = 0 by omega, cut_even _ _ _ (Nat.zero_le _), Nat.shiftLeft_eq]
  simp [Nat.mod_one]
theorem kept_big (n : Nat) (h : 52 ≤ n.log2) : kept n = n / 2 ^ (n.log2 - 52) + (decide (2 ^ (n.log2 - 52) < 2 * (n % 2 ^ (n.log2 - 52))) || (2 ^ (n.log2 - 52) == 2 * (n % 2 ^ (n.log2 - 52)) && n / 2 ^ (n.log2 - 52) % 2 == 1)).toNat := by
  unfold kept
  rw [show 52 - n.log2 = 0 by omega, Nat.shiftLeft_zero, cut_even _ _ _ (by omega)]
theorem kept_bounds (n : Nat) (h0 : n ≠ 0) : frac ≤ kept n ∧ kept n ≤ 2 * frac := by
  have l1 := Nat.log2_self_le h0
  have l2 : n < 2 ^ (n.log2 + 1) := Nat.lt_log2_self
  rcases Nat.le_total n.log2 52 with h | h
  · rw [kept_small n h]
    have e : frac = 2 ^ n.log2 * 2 ^ (52 - n.log2) := by rw [← Nat.pow_add, frac]; congr 1; omega
    have e2 : 2 * frac = 2 ^ (n.log2 + 1) * 2 ^ (52 - n.log2) := by rw [e, Nat.pow_succ, Nat.mul_comm (2 ^ n.log2) 2, Nat.mul_assoc]
    rw [e2, e]
    exact ⟨Nat.mul_le_mul_right _ l1, Nat.mul_le_mul_right _ (Nat.le_of_lt l2)⟩
  · rw [kept_big n h]
    have hp : 0 < 2 ^ (n.log2 - 52) := Nat.two_pow_pos _
    have e : frac * 2 ^ (n.log2 - 52) = 2 ^ n.log2 := by rw [frac, ← Nat.pow_add]; congr 1; omega
    have e2 : (2 * frac) * 2 ^ (n.log2 - 52) = 2 ^ (n.log2 + 1) := by rw [Nat.mul_assoc, e, Nat.pow_succ, Nat.mul_comm]
    have a : frac ≤ n / 2 ^ (n.log2 - 52) := (Nat.le_div_iff_mul_le hp).2 (by rw [e]; exact l1)
    have b : n / 2 ^ (n.log2 - 52) < 2 * frac := (Nat.div_lt_iff_lt_mul hp).2 (by rw [e2]; exact l2)
    have c : ∀ x : Bool, x.toNat ≤ 1 := by decide
    have := c (decide (2 ^ (n.log2 - 52) < 2 * (n % 2 ^ (n.log2 - 52))) || (2 ^ (n.log2 - 52) == 2 * (n % 2 ^ (n.log2 - 52)) && n / 2 ^ (n.log2 - 52) % 2 == 1))
    omega
/-- Rounding rises. -/
theorem round_mono (p n m : Nat) (h : n ≤ m) :
    n / p + (decide (p < 2 * (n % p)) || (p == 2 * (n % p) && n / p % 2 == 1)).toNat ≤ m / p + (decide (p < 2 * (m % p)) || (p == 2 * (m % p) && m / p % 2 == 1)).toNat := by
  have c : ∀ x : Bool, x.toNat ≤ 1 := by decide
  have e : n / p ≤ m / p := Nat.div_le_div_right h
  rcases Nat.lt_or_eq_of_le e with e | e
  · have := c (decide (p < 2 * (n % p)) || (p == 2 * (n % p) && n / p % 2 == 1))
    omega
  · have a := Nat.div_add_mod n p
    have b := Nat.div_add_mod m p
    rw [e] at a ⊢
    have hm : n % p ≤ m % p := by omega
    refine Nat.add_le_add_left ?_ _
    generalize n % p = x at *
    generalize m % p = y at *
    generalize m / p % 2 = z at *
    by_cases h1 : p < 2 * y
    · simp [h1]; exact c _
    · have h2 : ¬ p < 2 * x := by omega
      simp only [h1, h2, decide_false, Bool.false_or]
      by_cases h3 : p = 2 * x
      · have : p = 2 * y := by omega
        rw [show (p == 2 * x) = true from by simpa using h3, show (p == 2 * y) = true from by simpa using this]
        exact Nat.le_refl _
      · rw [show (p == 2 * x) = false from by simpa using h3]; simp
theorem rungN_mono {n m : Nat} (h : n ≤ m) : rungN n ≤ rungN m := by
  unfold rungN
  by_cases h0 : n = 0
  · rw [if_pos h0]; exact Nat.zero_le _
  · rw [if_neg h0, if_neg (by omega)]
    have hm : m ≠ 0 := by omega
    have b1 := kept_bounds n h0
    have b2 := kept_bounds m hm
    have hl : n.log2 ≤ m.log2 := by
      rcases Nat.lt_or_ge m.log2 n.log2 with hc | hc
      · exfalso
        have l1 := Nat.log2_self_le h0
        have l2 : m < 2 ^ (m.log2 + 1) := Nat.lt_log2_self
        have : 2 ^ (m.log2 + 1) ≤ 2 ^ n.log2 := Nat.pow_le_pow_right (by decide) hc
        omega
      · exact hc
    rcases Nat.lt_or_eq_of_le hl with hl | hl
    · have : (1022 + n.log2) * frac + frac ≤ (1022 + m.log2) * frac := by
        rw [← Nat.succ_mul]; exact Nat.mul_le_mul_right _ (by omega)
      omega
    · rw [hl]
      refine Nat.add_le_add_left ?_ _
      rcases Nat.le_total m.log2 52 with h1 | h1
      · rw [kept_small n (by omega), kept_small m h1, hl]; exact Nat.mul_le_mul_right _ h
      · rw [kept_big n (by omega), kept_big m h1, hl]; exact round_mono _ _ _ h
/-- A number of 64 bits has a finite rung. -/
theorem rungN_lt (n : Nat) (h : n ≤ 9223372036854775808) : rungN n < double.infRung := by
  have h1 := rungN_mono h
  have h2 : rungN 9223372036854775808 < double.infRung := by decide +kernel
  omega
/-- What a float of a number stands for, in units of the least. -/
def floatV (a : Int) : Int := sgn (decide (a < 0)) (rungV (rungN a.natAbs))
theorem order_nums (a b : Int) (ha : a.natAbs ≤ 9223372036854775808) (hb : b.natAbs ≤ 9223372036854775808) :
    FloatKind.f64.format.order (FloatKind.f64.nearest a) (FloatKind.f64.nearest b) = some (compare (floatV a) (floatV b)) := by
  have h1 := rungN_lt _ ha
  have h2 := rungN_lt _ hb
  rw [nearest_num a h1, nearest_num b h2]
  exact order_words _ _ _ _ h1 h2
theorem rungV_small (k : Nat) (hk : k = 1074) (n : Nat) (h : n < 9007199254740992) : rungV (rungN n) = n * 2 ^ k := by
  by_cases h0 : n = 0
  · subst h0; simp [rungN, rungV, frac_pos]
  · have l1 := Nat.log2_self_le h0
    have hl : n.log2 ≤ 52 := by
      rcases Nat.lt_or_ge 52 n.log2 with hc | hc
      · exfalso
        have : 2 ^ 53 ≤ 2 ^ n.log2 := Nat.pow_le_pow_right (by decide) hc
        omega
      · exact hc
    have hb : n < 2 ^ (n.log2 + 1) := Nat.lt_log2_self
    have k1 := kept_small n hl
    have kb := kept_bounds n h0
    have k2 : kept n < 2 * frac := by
      have e : frac = 2 ^ n.log2 * 2 ^ (52 - n.log2) := by rw [← Nat.pow_add, frac]; congr 1; omega
      have e2 : 2 * frac = 2 ^ (n.log2 + 1) * 2 ^ (52 - n.log2) := by rw [e, Nat.pow_succ, Nat.mul_comm (2 ^ n.log2) 2, Nat.mul_assoc]
      rw [k1, e2]
      exact Nat.mul_lt_mul_of_pos_right hb (Nat.two_pow_pos _)
    have hp := frac_pos
    obtain ⟨f, hf⟩ : ∃ f, kept n = frac + f := ⟨kept n - frac, by omega⟩
    have hf2 : f < frac := by omega
    have hr : rungN n = f + frac * (1022 + n.log2 + 1) := by
      rw [rungN, if_neg h0, hf, Nat.mul_comm frac, Nat.succ_mul]; omega
    have d1 : rungN n / frac = 1022 + n.log2 + 1 := by rw [hr, Nat.add_mul_div_left _ _ hp, Nat.div_eq_of_lt hf2, Nat.zero_add]
    have d2 : rungN n % frac = f := by rw [hr, Nat.add_mul_mod_self_left, Nat.mod_eq_of_lt hf2]
    have d3 : ¬ rungN n < frac := by
      intro hc
      have := Nat.div_eq_of_lt hc
      omega
    rw [rungV, if_neg d3, d1, d2, ← hf, k1, Nat.mul_assoc, ← Nat.pow_add]
    congr 2
    omega
theorem floatV_small (k : Nat) (hk : k = 1074) (a : Int) (h : a.natAbs < 9007199254740992) : floatV a = a * ((2 ^ k : Nat) : Int) := by
  unfold floatV sgn
  rw [rungV_small k hk _ h]
  generalize (2 : Nat) ^ k = B
  by_cases h1 : a < 0
  · simp only [h1, decide_true, if_true]
    rw [Int.natCast_mul, ← Int.neg_mul]
    congr 1
    omega
  · simp only [h1, decide_false, Bool.false_eq_true, if_false]
    rw [Int.natCast_mul]
    congr 1
    omega
theorem floatV_lt {a b : Int} (ha : a.natAbs < 9007199254740992) (hb : b.natAbs < 9007199254740992) : floatV a < floatV b ↔ a < b := by
  obtain ⟨k, hk⟩ : ∃ k, k = 1074 := ⟨_, rfl⟩
  rw [floatV_small k hk a ha, floatV_small k hk b hb]
  have hp : (0 : Int) < ((2 ^ k : Nat) : Int) := Int.natCast_pos.2 (Nat.two_pow_pos _)
  exact Int.mul_lt_mul_right hp
end Go.Proofs.YtppmbdpfledejaaGreatDoor
namespace Go.Proofs.YtppmbdpfledejaaGreatDoor
open Go.RowKit
/-- A whole number below 2^53. -/
def Sm (a : Int) : Prop := a.natAbs < 9007199254740992
def cmpI (a b : Int) : Int := if a < b then -1 else if b < a then 1 else 0
theorem compare_lt {x y : Int} (h : x < y) : compare x y = .lt := by simp [compare, compareOfLessAndEq, h]
theorem compare_eq (x : Int) : compare x x = .eq := by simp [compare, compareOfLessAndEq]
theorem compare_gt {x y : Int} (h : y < x) : compare x y = .gt := by
  have h1 : ¬ x < y := by omega
  have h2 : ¬ x = y := by omega
  simp [compare, compareOfLessAndEq, h1, h2]
theorem fl_order (a b : Int) (ha : Sm a) (hb : Sm b) : FloatKind.f64.format.order (floatOfInt .f64 a) (floatOfInt .f64 b) = some (compare a b) := by
  unfold Sm at ha hb
  have h := order_nums a b (by omega) (by omega)
  rw [show floatOfInt .f64 a = FloatKind.f64.nearest a from rfl, show floatOfInt .f64 b = FloatKind.f64.nearest b from rfl, h]
  rcases Int.lt_trichotomy a b with c | c | c
  · rw [compare_lt c, compare_lt ((floatV_lt ha hb).2 c)]
  · subst c; rw [compare_eq, compare_eq]
  · rw [compare_gt c, compare_gt ((floatV_lt hb ha).2 c)]
theorem isNaN_num (a : Int) (ha : Sm a) (w : World) : Calls Tryz.prog 118 #[.float .f64 (floatOfInt .f64 a)] w fun e w' => e = .returned (.bool false) ∧ w = w' := by
  have h1 := fl_order a a ha ha
  rw [compare_eq] at h1
  clear ha
  generalize floatOfInt .f64 a = x at *
  go_enter Tryz.func118, Tryz.ntmps118
  go_wp2
  go_ret
  exact ⟨rfl, rfl⟩
theorem cmpFloat_num (a b : Int) (ha : Sm a) (hb : Sm b) (w : World) : Calls Tryz.prog 96 #[.float .f64 (floatOfInt .f64 a), .float .f64 (floatOfInt .f64 b)] w fun e w' => e = .returned (.int .i64 (cmpI a b)) ∧ w = w' := by
  have N1 := Lib.hid (isNaN_num a ha)
  have N2 := Lib.hid (isNaN_num b hb)
  have h1 := fl_order a b ha hb
  clear ha hb
  generalize floatOfInt .f64 a = x at *
  generalize floatOfInt .f64 b = y at *
  rcases Int.lt_trichotomy a b with c | c | c
  · rw [compare_lt c] at h1
    have HR := Lib.hid (show cmpI a b = -1 by rw [cmpI, if_pos c])
    clear c
    go_enter Tryz.func96, Tryz.ntmps96
    go_upto_region 2 with (first | (go_at_call 118; refine (N1.out _).mono ?_; rintro e w1 ⟨rfl, rfl⟩))
    go_wp2_with (first | (go_at_call 118; refine (N2.out _).mono ?_; rintro e w1 ⟨rfl, rfl⟩))
    go_ret
    exact ⟨by rw [HR.out]; try rfl, rfl⟩
  · subst c
    rw [compare_eq] at h1
    have HR := Lib.hid (show cmpI a a = 0 by rw [cmpI, if_neg (by omega), if_neg (by omega)])
    go_enter Tryz.func96, Tryz.ntmps96
    go_upto_region 2 with (first | (go_at_call 118; refine (N1.out _).mono ?_; rintro e w1 ⟨rfl, rfl⟩))
    go_wp2_with (first | (go_at_call 118; refine (N2.out _).mono ?_; rintro e w1 ⟨rfl, rfl⟩))
    go_ret
    exact ⟨by rw [HR.out]; try rfl, rfl⟩
  · rw [compare_gt c] at h1
    have HR := Lib.hid (show cmpI a b = 1 by rw [cmpI, if_neg (by omega), if_pos c])
    clear c
    go_enter Tryz.func96, Tryz.ntmps96
    go_upto_region 2 with (first | (go_at_call 118; refine (N1.out _).mono ?_; rintro e w1 ⟨rfl, rfl⟩))
    go_wp2_with (first | (go_at_call 118; refine (N2.out _).mono ?_; rintro e w1 ⟨rfl, rfl⟩))
    go_ret
    exact ⟨by rw [HR.out]; try rfl, rfl⟩
/-- The first number that isn't 0. -/
def orI (x0 x1 x2 x3 : Int) : Int := if x0 ≠ 0 then x0 else if x1 ≠ 0 then x1 else if x2 ≠ 0 then x2 else x3
def four (x0 x1 x2 x3 : Int) : Array Value := #[.int .i64 x0, .int .i64 x1, .int .i64 x2, .int .i64 x3]
/-- The k-th of four. -/
def nth4 (x0 x1 x2 x3 : Int) (k : Nat) : Int := if k = 0 then x0 else if k = 1 then x1 else if k = 2 then x2 else x3
theorem nth4_cell (x0 x1 x2 x3 : Int) {w : World} {g k : Nat} {T : TypeId} (h : w.heap[g]? = some (.cells (four x0 x1 x2 x3) T (0, 0))) (hk : k < 4) : w.cell? ⟨g, k, none⟩ = some (.int .i64 (nth4 x0 x1 x2 x3 k)) := by
  rw [cell_of_row _ _ k _ _ _ h]
  match k, hk with
  | 0, _ => rfl
  | 1, _ => rfl
  | 2, _ => rfl
  | 3, _ => rfl
set_option maxRecDepth 100000 in
set_option maxHeartbeats 4000000 in
theorem or_any (x0 x1 x2 x3 : Int) (g : Nat) (T : TypeId) (w : World) (h : w.heap[g]? = some (.cells (four x0 x1 x2 x3) T (0, 0))) : Calls Tryz.prog 95 #[.slice (some ⟨g, 0, none⟩) 4 4] w fun e w' => e = .returned (.int .i64 (orI x0 x1 x2 x3)) ∧ w = w' := by
  have HC := Lib.hid (fun k hk => nth4_cell x0 x1 x2 x3 (k := k) h hk)
  clear h
  go_enter Tryz.func95, Tryz.ntmps95
  go_wp2
  go_loopw [8] (fun i wr => w = wr ∧ ∃ k : Nat, k ≤ 4 ∧ i = .int .i64 k ∧ ∀ j, j < k → nth4 x0 x1 x2 x3 j = 0) (fun i _ => 4 - (intOf i).toNat)
  case atStart => exact ⟨rfl, 0, by omega, rfl, fun j hj => by omega⟩
  case round =>
    obtain ⟨rfl, k, hk, rfl, hall⟩ := hrel
    have HA := Lib.hid hall
    clear hall
    by_cases hlt : k < 4
    · have q1 : (k : Int) < 4 := by omega
      have hc := HC.out k hlt
      obtain ⟨x, hx⟩ : ∃ x, nth4 x0 x1 x2 x3 k = x := ⟨_, rfl⟩
      rw [hx] at hc
      have HX := Lib.hid hx
      clear hx
      by_cases h0 : x = 0
      · subst h0
        have hk1 : wrap64 ((k : Int) + 1) = ((k + 1 : Nat) : Int) := by rw [wrap64]; omega
        go_wp2
        go_roundw
        case rel => exact ⟨trivial, k + 1, by omega, by go_num, fun j h2 => by
          rcases Nat.lt_or_ge j k with h | h
          · exact HA.out j h
          · obtain rfl : j = k := by omega
            exact HX.out⟩
        case measure => simp [intOf]; omega
      · have t0 : (x != 0) = true := bne_iff_ne.2 h0
        have HR := Lib.hid (show orI x0 x1 x2 x3 = x by
          have a := HA.out
          have b := HX.out
          unfold nth4 at a b
          unfold orI
          match k, hlt with
          | 0, _ => simp at b; subst b; simp [h0]
          | 1, _ => have a0 := a 0 (by omega); simp at a0 b; subst b; simp [h0, a0]
          | 2, _ => have a0 := a 0 (by omega); have a1 := a 1 (by omega); simp at a0 a1 b; subst b; simp [h0, a0, a1]
          | 3, _ => have a0 := a 0 (by omega); have a1 := a 1 (by omega); have a2 := a 2 (by omega); simp at a0 a1 a2 b; subst b; simp [a0, a1, a2])
        clear h0
        go_wp2
        go_ret
        exact ⟨by rw [HR.out]; try rfl, rfl⟩
    · obtain rfl : k = 4 := by omega
      have HR := Lib.hid (show orI x0 x1 x2 x3 = 0 by
        have a := HA.out
        have a0 := a 0 (by omega)
        have a1 := a 1 (by omega)
        have a2 := a 2 (by omega)
        have a3 := a 3 (by omega)
        unfold nth4 at a0 a1 a2 a3
        simp at a0 a1 a2 a3
        unfold orI
        simp [a0, a1, a2, a3])
      clear hlt
      go_wp2
      go_ret
      exact ⟨by rw [HR.out]; try rfl, rfl⟩
def hiI (a : Int) : Int := a / 4294967296
def loI (a : Int) : Int := a % 4294967296
theorem hiI_sm {a : Int} (h : I64 a) : Sm (hiI a) := by unfold I64 at h; unfold Sm hiI; omega
theorem loI_sm (a : Int) : Sm (loI a) := by unfold Sm loI; omega
set_option maxRecDepth 100000 in
set_option maxHeartbeats 4000000 in
theorem halves_any (r q : Int) (w : World) : Calls Tryz.prog 94 #[.agg #[.int .i64 r, .int .i64 q]] w fun e w' => e = .returned (.tuple #[.complex .f64 (floatOfInt .f64 (hiI r)) (floatOfInt .f64 (hiI q)), .complex .f64 (floatOfInt .f64 (loI r)) (floatOfInt .f64 (loI q))]) ∧ Below w.heap.size w w' := by
  have h1 := one_box w r q
  obtain ⟨c1, c2⟩ := dot_cells h1
  have B0 := Lib.hid ((Below.refl w.heap.size w).alloc (Nat.le_refl _) (dotO r q))
  clear h1
  unfold dotO at *
  go_enter Tryz.func94, Tryz.ntmps94
  go_upto_region 1 with fail
  generalize w.alloc (.cells #[.int .i64 r, .int .i64 q] 29 (0, 0)) = W0 at *
  go_quiet (fail)
  have B1 := Lib.hid (below_draws B0.out nq)
  generalize W0.drewN nq = W1 at *
  clear c1 c2 B0
  go_wp2
  go_ret2
  exact ⟨rfl, B1.out⟩
/-- Halves held against halves are numbers held against each other. -/
theorem hold_or (r q r' q' : Int) : orI (cmpI (hiI r) (hiI r')) (cmpI (loI r) (loI r')) (cmpI (hiI q) (hiI q')) (cmpI (loI q) (loI q')) = cmpD r q r' q' := by
  have key : ∀ a b : Int, (hiI a < hiI b ∧ a < b) ∨ (hiI b < hiI a ∧ b < a) ∨ (hiI a = hiI b ∧ ((loI a < loI b ∧ a < b) ∨ (loI b < loI a ∧ b < a) ∨ (loI a = loI b ∧ a = b))) := by
    intro a b; unfold hiI loI; omega
  have k1 := key r r'
  have k2 := key q q'
  unfold orI cmpI cmpD
  generalize hiI r = a1 at *
  generalize hiI r' = a2 at *
  generalize hiI q = a3 at *
  generalize hiI q' = a4 at *
  generalize loI r = b1 at *
  generalize loI r' = b2 at *
  generalize loI q = b3 at *
  generalize loI q' = b4 at *
  rcases k1 with ⟨h1, h2⟩ | ⟨h1, h2⟩ | ⟨h1, ⟨h3, h2⟩ | ⟨h3, h2⟩ | ⟨h3, h2⟩⟩
  · rw [if_pos h1, if_pos (by decide), if_neg (by omega), if_pos (by omega)]
  · rw [if_neg (show ¬ a1 < a2 by omega), if_pos h1, if_pos (by decide), if_neg (by omega), if_neg (by omega)]
  · subst h1
    rw [if_neg (show ¬ a1 < a1 by omega), if_neg (show ¬ a1 < a1 by omega), if_pos h3, if_neg (by decide), if_pos (by decide), if_neg (by omega), if_pos (by omega)]
  · subst h1
    rw [if_neg (show ¬ a1 < a1 by omega), if_neg (show ¬ a1 < a1 by omega), if_neg (show ¬ b1 < b2 by omega), if_pos h3, if_neg (by decide), if_pos (by decide), if_neg (by omega), if_neg (by omega)]
  · subst h1; subst h3; subst h2
    rw [if_neg (show ¬ a1 < a1 by omega), if_neg (show ¬ a1 < a1 by omega), if_neg (show ¬ b1 < b1 by omega), if_neg (show ¬ b1 < b1 by omega), if_neg (by decide), if_neg (by decide)]
    rcases k2 with ⟨h1, h2⟩ | ⟨h1, h2⟩ | ⟨h1, ⟨h3, h2⟩ | ⟨h3, h2⟩ | ⟨h3, h2⟩⟩
    · rw [if_pos h1, if_pos (by decide), if_neg (by omega), if_pos (by omega)]
    · rw [if_neg (show ¬ a3 < a4 by omega), if_pos h1, if_pos (by decide), if_neg (by omega), if_neg (by omega)]
    · subst h1
      rw [if_neg (show ¬ a3 < a3 by omega), if_neg (show ¬ a3 < a3 by omega), if_pos h3, if_neg (by decide), if_neg (by omega), if_pos (by omega)]
    · subst h1
      rw [if_neg (show ¬ a3 < a3 by omega), if_neg (show ¬ a3 < a3 by omega), if_neg (show ¬ b3 < b4 by omega), if_pos h3, if_neg (by decide), if_neg (by omega), if_neg (by omega)]
    · subst h1; subst h3; subst h2
      rw [if_neg (show ¬ a3 < a3 by omega), if_neg (show ¬ a3 < a3 by omega), if_neg (show ¬ b3 < b3 by omega), if_neg (show ¬ b3 < b3 by omega), if_neg (by decide), if_pos ⟨rfl, rfl⟩]
set_option maxRecDepth 100000 in
set_option maxHeartbeats 8000000 in
theorem compare_any (r q r' q' : Int) (hr : I64 r) (hq : I64 q) (hr' : I64 r') (hq' : I64 q') (w : World) : Calls Tryz.prog 66 #[.agg #[.int .i64 r, .int .i64 q], .agg #[.int .i64 r', .int .i64 q']] w fun e w' => e = .returned (.int .i64 (cmpD r q r' q')) ∧ Below w.heap.size w w' := by
  obtain ⟨h1, h2⟩ := two_boxes w r q r' q'
  have H1 := Lib.hid h1
  have H2 := Lib.hid h2
  have B0 := Lib.hid (((Below.refl w.heap.size w).alloc (Nat.le_refl _) (dotO r q)).alloc (by simp) (dotO r' q'))
  have HO := Lib.hid (hold_or r q r' q')
  have HV1 := Lib.hid (halves_any r q)
  have HV2 := Lib.hid (halves_any r' q')
  have F1 := Lib.hid (cmpFloat_num (hiI r) (hiI r') (hiI_sm hr) (hiI_sm hr'))
  have F2 := Lib.hid (cmpFloat_num (loI r) (loI r') (loI_sm r) (loI_sm r'))
  have F3 := Lib.hid (cmpFloat_num (hiI q) (hiI q') (hiI_sm hq) (hiI_sm hq'))
  have F4 := Lib.hid (cmpFloat_num (loI q) (loI q') (loI_sm q) (loI_sm q'))
  clear h1 h2 hr hq hr' hq'
  generalize cmpI (hiI r) (hiI r') = x0 at *
  generalize cmpI (loI r) (loI r') = x1 at *
  generalize cmpI (hiI q) (hiI q') = x2 at *
  generalize cmpI (loI q) (loI q') = x3 at *
  generalize floatOfInt .f64 (hiI r) = a1 at *
  generalize floatOfInt .f64 (hiI r') = a2 at *
  generalize floatOfInt .f64 (loI r) = a3 at *
  generalize floatOfInt .f64 (loI r') = a4 at *
  generalize floatOfInt .f64 (hiI q) = a5 at *
  generalize floatOfInt .f64 (hiI q') = a6 at *
  generalize floatOfInt .f64 (loI q) = a7 at *
  generalize floatOfInt .f64 (loI q') = a8 at *
  unfold dotO at *
  go_enter Tryz.func66, Tryz.ntmps66
  go_upto_region 1 with fail
  generalize (w.alloc (.cells #[.int .i64 r, .int .i64 q] 29 (0, 0))).alloc (.cells #[.int .i64 r', .int .i64 q'] 29 (0, 0)) = W0 at *
  go_upto_region 2 with (first
    | (refine load_row_on (by rfl) 29 (.tmp 2) rfl w.heap.size rfl 29 _ (0, 0) _ H1.out Tryz.underlying29 rfl (by kernel_rfl) ?_)
    | (go_at_call 94; refine (HV1.out _).mono ?_; rintro e W1 ⟨rfl, hb⟩; have G2 := Lib.hid (row_kept H2.out hb); have B1 := Lib.hid (below_next B0.out hb); clear hb))
  go_upto_region 3 with (first
    | (refine load_row_on (by rfl) 29 (.tmp 3) rfl (w.heap.size + 1) rfl 29 _ (0, 0) _ G2.out Tryz.underlying29 rfl (by kernel_rfl) ?_)
    | (go_at_call 94; refine (HV2.out _).mono ?_; rintro e W2 ⟨rfl, hb⟩; have B2 := Lib.hid (below_next B1.out hb); clear hb))
  have HA := Lib.hid (fun T => heap_last W2 (.cells (four x0 x1 x2 x3) T (0, 0)))
  have BA := Lib.hid (fun T => B2.out.alloc B2.out.size (.cells (four x0 x1 x2 x3) T (0, 0)))
  go_wp2_with (first
    | (go_at_call 96; with_reducible refine (F1.out _).mono ?_; rintro e w1 ⟨rfl, rfl⟩)
    | (go_at_call 96; with_reducible refine (F2.out _).mono ?_; rintro e w1 ⟨rfl, rfl⟩)
    | (go_at_call 96; with_reducible refine (F3.out _).mono ?_; rintro e w1 ⟨rfl, rfl⟩)
    | (go_at_call 96; with_reducible refine (F4.out _).mono ?_; rintro e w1 ⟨rfl, rfl⟩)
    | (go_at_call 95; refine (or_any x0 x1 x2 x3 W2.heap.size _ _ (HA.out _)).mono ?_; rintro e w1 ⟨rfl, rfl⟩))
  go_ret
  exact ⟨by rw [HO.out]; try rfl, BA.out _⟩
end Go.Proofs.YtppmbdpfledejaaGreatDoor
namespace Go.Proofs.YtppmbdpfledejaaGreatDoor
open Go.RowKit
theorem row_yields {P : Program} {ops : Array Oper} {S : World → Prop} {o : Oper} {a : Act} (hw : Region.wanted o (yielded ops a.tmps) = true) (ty : TypeId) (x : Operand) (ho : o.op = .load ty x) (g : Nat) (hx : a.eval x = .pointer (some ⟨g, 0, none⟩)) (t : TypeId) (cs : Array Value) (fr : Nat × Nat) (d : TypeDesc)
    (hu : P.underlying ty = some d) (hd : (match d with | .struct _ | .array _ _ => true | _ => false) = true) (hi : (P.info? ty).map (·.size) = some cs.size) (hS : ∀ w, S w → w.heap[g]? = some (.cells cs t fr)) : YieldsIf P ops S o (.agg cs) a :=
  .inl ⟨hw, fun w h => by
    unfold execOp
    simp [ho, hx, Instr.loadAt, Instr.sureAddr, run_loadVar_row w g t ty cs fr d (hS w h) hu hd hi]⟩
end Go.Proofs.YtppmbdpfledejaaGreatDoor
namespace Go.Proofs.YtppmbdpfledejaaGreatDoor
open Go.RowKit
theorem refAll_V (l : List D2) (hl : l.length < 2000000) (v : Value) (w : World) (hv : HasDots w v l) : Calls Tryz.prog 87 #[v] w fun e w' => e = .returned (numsV 32 (allV l)) ∧ Below w.heap.size w w' := refAll_any l hl v w hv
set_option maxRecDepth 100000 in
set_option maxHeartbeats 4000000 in
theorem refGet_any10 (l : List D2) (hl : l.length < 2000000) (r : Int) (v : Value) (w : World) (hv : HasDots w v l) : Calls Tryz.prog 59 #[v, .int .i64 r] w fun e w' => e = .returned (.int .i64 (getV l r)) ∧ Below w.heap.size w w' := by
  have HV := Lib.hid hv
  have A1 := Lib.hid (fun w v hv => refAll_V l hl v w hv)
  obtain ⟨ao, cap, rfl⟩ := dots_shape hv l.length rfl
  obtain ⟨n, hn⟩ : ∃ n, n = l.length := ⟨_, rfl⟩
  rw [← hn] at HV ⊢
  clear hv hl hn
  by_cases h0 : r < 0
  · have d1 : decide (r < 0) = true := decide_eq_true h0
    have HR := Lib.hid (show getV l r = 0 by rw [getV, if_pos (.inl h0)])
    clear h0
    go_enter Tryz.func59, Tryz.ntmps59
    go_wp2
    go_ret
    exact ⟨by rw [HR.out]; rfl, Below.refl _ _⟩
  · have d1 : decide (r < 0) = false := decide_eq_false h0
    by_cases h1 : 31 < r
    · have d2 : decide (r > 31) = true := decide_eq_true h1
      have HR := Lib.hid (show getV l r = 0 by rw [getV, if_pos (.inr h1)])
      clear h0 h1
      go_enter Tryz.func59, Tryz.ntmps59
      go_wp2
      go_ret
      exact ⟨by rw [HR.out]; rfl, Below.refl _ _⟩
    · have d2 : decide (r > 31) = false := decide_eq_false h1
      obtain ⟨i, hi⟩ : ∃ i : Nat, r = (i : Int) := ⟨r.toNat, by omega⟩
      subst hi
      have ix := fun w => index_nums (P := Tryz.prog) w (t := 142) (n := 32) (allV l) i (by omega) Tryz.underlying142 Tryz.underlying2 (by kernel_rfl)
      replace ix : ∀ w, (Instr.index 142 (numsV 32 (allV l)) (.int .i64 (i : Int))).run Tryz.prog w = .ok (.int .i64 (allV l i)) w := ix
      have HR := Lib.hid (show getV l (i : Int) = allV l i by rw [getV, if_neg (by omega), Int.toNat_natCast])
      clear h0 h1
      go_enter Tryz.func59, Tryz.ntmps59
      go_wp2_with (first
        | (go_at_call 87; refine (A1.out w _ HV.out).mono ?_; rintro e w1 ⟨rfl, hb⟩; have B1 := Lib.hid hb; clear hb))
      go_ret
      exact ⟨by rw [HR.out]; rfl, B1.out⟩
set_option maxRecDepth 100000 in
set_option maxHeartbeats 8000000 in
theorem refHas_any10 (l : List D2) (hl : l.length < 2000000) (r q : Int) (v : Value) (w : World) (hv : HasDots w v l) : Calls Tryz.prog 90 #[v, .agg #[.int .i64 r, .int .i64 q]] w fun e w' => e = .returned (.bool (hasV l r q)) ∧ Below w.heap.size w w' := by
  have HV := Lib.hid hv
  have MY := Lib.hid (fun w => refMay_any9 r q w)
  have GT := Lib.hid (fun w hv => refGet_any10 l hl r v w hv)
  have E0 := Lib.hid (show (w.alloc (.cells #[.int .i64 r, .int .i64 q] 29 (0, 0))).heap[w.heap.size]? = some (.cells #[.int .i64 r, .int .i64 q] 29 (0, 0)) from one_box w r q)
  obtain ⟨c0, c1⟩ := dot_cells (show _ = some (dotO r q) from E0.out)
  have C0 := Lib.hid c0
  have C1 := Lib.hid c1
  have B0 := Lib.hid ((Below.refl w.heap.size w).alloc (Nat.le_refl _) (.cells #[.int .i64 r, .int .i64 q] 29 (0, 0)))
  obtain ⟨ao, cap, rfl⟩ := dots_shape hv l.length rfl
  obtain ⟨n, hn⟩ : ∃ n, n = l.length := ⟨_, rfl⟩
  rw [← hn] at HV GT ⊢
  obtain ⟨G, hG⟩ : ∃ G, G = getV l r := ⟨_, rfl⟩
  rw [← hG] at GT
  have HR := Lib.hid (show hasV l r q = (mayD r q && decide (q ≤ G)) by rw [hasV, hG])
  clear hv hl hn hG c0 c1
  cases hm : mayD r q with
  | true =>
    rw [hm] at MY HR
    clear hm
    go_enter Tryz.func90, Tryz.ntmps90
    go_wp2
    generalize w.alloc (.cells #[.int .i64 r, .int .i64 q] 29 (0, 0)) = W0 at *
    refine wp_region_held_drew (S := fun w' => Below W0.heap.size W0 w') (by kernel_rfl) (drawS (Below.refl _ _)) (fun hHeld => ?_)
    generalize W0.drew = wd at hHeld ⊢
    refine take_at (i := 0) 5 rfl rfl (by kernel_rfl) (by kernel_rfl) (by kernel_rfl) (fun _ _ _ h => h) (row_yields (by rfl) 29 (.tmp 3) rfl w.heap.size rfl 29 _ (0, 0) _ Tryz.underlying29 rfl (by kernel_rfl) (fun _ h => row_kept E0.out h)) hHeld ?_
    simp only [List.setIfInBounds_toArray, List.set_cons_zero, List.set_cons_succ]
    refine wpAnyH_ready (rs := [1]) (by kernel_rfl) (by simp) ?_
    refine AllReadyH.cons rfl (fun K hK => ?_) AllReadyH.nil
    go_simp
    go_at_call 89
    refine (MY.out _).mono ?_
    rintro e w6 ⟨rfl, hb⟩
    dsimp only
    refine hK.out _ _ (below_next hHeld hb) (fun hHeld => ?_)
    clear hK K hb
    refine take_at (i := 2) 7 rfl rfl (by kernel_rfl) (by kernel_rfl) (by kernel_rfl) (fun _ _ _ h => h) (sure_yes (by rfl) (fun w => by go_simp; try with_reducible rfl)) hHeld ?_
    simp only [List.setIfInBounds_toArray, List.set_cons_zero, List.set_cons_succ]
    refine take_at (i := 3) 8 rfl rfl (by kernel_rfl) (by kernel_rfl) (by kernel_rfl) (fun _ _ _ h => h) (sure_yes (by rfl) (fun w => by go_simp; try with_reducible rfl)) hHeld ?_
    simp only [List.setIfInBounds_toArray, List.set_cons_zero, List.set_cons_succ]
    refine take_at (i := 5) 10 rfl rfl (by kernel_rfl) (by kernel_rfl) (by kernel_rfl) (fun _ _ _ h => h) (sure_yes (by rfl) (fun w => by go_simp; try with_reducible rfl)) hHeld ?_
    simp only [List.setIfInBounds_toArray, List.set_cons_zero, List.set_cons_succ]
    refine take_at (i := 6) 11 rfl rfl (by kernel_rfl) (by kernel_rfl) (by kernel_rfl) (fun _ _ _ h => h) (sure_yes (by rfl) (fun w => by go_simp; try with_reducible rfl)) hHeld ?_
    simp only [List.setIfInBounds_toArray, List.set_cons_zero, List.set_cons_succ]
    refine take_at (i := 4) 9 rfl rfl (by kernel_rfl) (by kernel_rfl) (by kernel_rfl) (fun _ _ _ h => h) (cell_yields (by rfl) 2 (.tmp 8) rfl w.heap.size 1 rfl .i64 q Tryz.underlying2 (fun w h => (World.cell?_of_block (h.block _ (World.block_lt_of_cell? _ _ C1.out))).trans C1.out)) hHeld ?_
    simp only [List.setIfInBounds_toArray, List.set_cons_zero, List.set_cons_succ]
    refine take_at (i := 7) 12 rfl rfl (by kernel_rfl) (by kernel_rfl) (by kernel_rfl) (fun _ _ _ h => h) (cell_yields (by rfl) 3 (.tmp 11) rfl w.heap.size 0 rfl .i64 r Tryz.underlying3 (fun w h => (World.cell?_of_block (h.block _ (World.block_lt_of_cell? _ _ C0.out))).trans C0.out)) hHeld ?_
    simp only [List.setIfInBounds_toArray, List.set_cons_zero, List.set_cons_succ]
    refine wpAnyH_ready (rs := [8]) (by kernel_rfl) (by simp) ?_
    refine AllReadyH.cons rfl (fun K hK => ?_) AllReadyH.nil
    go_simp
    go_at_call 59
    refine (GT.out _ (dots_below HV.out (below_next B0.out hHeld))).mono ?_
    rintro e w6 ⟨rfl, hb⟩
    dsimp only
    refine hK.out _ _ (below_next hHeld hb) (fun hHeld => ?_)
    clear hK K hb
    refine take_at (i := 9) 14 rfl rfl (by kernel_rfl) (by kernel_rfl) (by kernel_rfl) (fun _ _ _ h => h) (sure_yes (by rfl) (fun w => by go_simp; try with_reducible rfl)) hHeld ?_
    simp only [List.setIfInBounds_toArray, List.set_cons_zero, List.set_cons_succ]
    refine take_at (i := 10) 15 rfl rfl (by kernel_rfl) (by kernel_rfl) (by kernel_rfl) (fun _ _ _ h => h) (sure_yes (by rfl) (fun w => by go_simp; try with_reducible rfl)) hHeld ?_
    simp only [List.setIfInBounds_toArray, List.set_cons_zero, List.set_cons_succ]
    refine take_at (i := 11) 4 rfl rfl (by kernel_rfl) (by kernel_rfl) (by kernel_rfl) (fun _ _ _ h => h) (sure_yes (by rfl) (fun w => by go_simp; try with_reducible rfl)) hHeld ?_
    simp only [List.setIfInBounds_toArray, List.set_cons_zero, List.set_cons_succ]
    refine wpAnyH_done (by kernel_rfl) ?_ _
    go_wp2
    go_ret
    exact ⟨by rw [HR.out]; rfl, below_next B0.out hHeld⟩
  | false =>
    rw [hm] at MY HR
    clear hm
    go_enter Tryz.func90, Tryz.ntmps90
    go_wp2
    generalize w.alloc (.cells #[.int .i64 r, .int .i64 q] 29 (0, 0)) = W0 at *
    refine wp_region_held_drew (S := fun w' => Below W0.heap.size W0 w') (by kernel_rfl) (drawS (Below.refl _ _)) (fun hHeld => ?_)
    generalize W0.drew = wd at hHeld ⊢
    refine take_at (i := 0) 5 rfl rfl (by kernel_rfl) (by kernel_rfl) (by kernel_rfl) (fun _ _ _ h => h) (row_yields (by rfl) 29 (.tmp 3) rfl w.heap.size rfl 29 _ (0, 0) _ Tryz.underlying29 rfl (by kernel_rfl) (fun _ h => row_kept E0.out h)) hHeld ?_
    simp only [List.setIfInBounds_toArray, List.set_cons_zero, List.set_cons_succ]
    refine wpAnyH_ready (rs := [1]) (by kernel_rfl) (by simp) ?_
    refine AllReadyH.cons rfl (fun K hK => ?_) AllReadyH.nil
    go_simp
    go_at_call 89
    refine (MY.out _).mono ?_
    rintro e w6 ⟨rfl, hb⟩
    dsimp only
    refine hK.out _ _ (below_next hHeld hb) (fun hHeld => ?_)
    clear hK K hb
    refine take_at (i := 2) 7 rfl rfl (by kernel_rfl) (by kernel_rfl) (by kernel_rfl) (fun _ _ _ h => h) (sure_yes (by rfl) (fun w => by go_simp; try with_reducible rfl)) hHeld ?_
    simp only [List.setIfInBounds_toArray, List.set_cons_zero, List.set_cons_succ]
    refine take_at (i := 3) 8 rfl rfl (by kernel_rfl) (by kernel_rfl) (by kernel_rfl) (fun _ _ _ h => h) (.inr ⟨by rfl, rfl⟩) hHeld ?_
    simp only [List.setIfInBounds_toArray, List.set_cons_zero, List.set_cons_succ]
    refine take_at (i := 4) 9 rfl rfl (by kernel_rfl) (by kernel_rfl) (by kernel_rfl) (fun _ _ _ h => h) (.inr ⟨by rfl, rfl⟩) hHeld ?_
    simp only [List.setIfInBounds_toArray, List.set_cons_zero, List.set_cons_succ]
    refine take_at (i := 5) 10 rfl rfl (by kernel_rfl) (by kernel_rfl) (by kernel_rfl) (fun _ _ _ h => h) (.inr ⟨by rfl, rfl⟩) hHeld ?_
    simp only [List.setIfInBounds_toArray, List.set_cons_zero, List.set_cons_succ]
    refine take_at (i := 6) 11 rfl rfl (by kernel_rfl) (by kernel_rfl) (by kernel_rfl) (fun _ _ _ h => h) (.inr ⟨by rfl, rfl⟩) hHeld ?_
    simp only [List.setIfInBounds_toArray, List.set_cons_zero, List.set_cons_succ]
    refine take_at (i := 7) 12 rfl rfl (by kernel_rfl) (by kernel_rfl) (by kernel_rfl) (fun _ _ _ h => h) (.inr ⟨by rfl, rfl⟩) hHeld ?_
    simp only [List.setIfInBounds_toArray, List.set_cons_zero, List.set_cons_succ]
    refine take_at (i := 8) 13 rfl rfl (by kernel_rfl) (by kernel_rfl) (by kernel_rfl) (fun _ _ _ h => h) (.inr ⟨by rfl, rfl⟩) hHeld ?_
    simp only [List.setIfInBounds_toArray, List.set_cons_zero, List.set_cons_succ]
    refine take_at (i := 9) 14 rfl rfl (by kernel_rfl) (by kernel_rfl) (by kernel_rfl) (fun _ _ _ h => h) (.inr ⟨by rfl, rfl⟩) hHeld ?_
    simp only [List.setIfInBounds_toArray, List.set_cons_zero, List.set_cons_succ]
    refine take_at (i := 10) 15 rfl rfl (by kernel_rfl) (by kernel_rfl) (by kernel_rfl) (fun _ _ _ h => h) (sure_yes (by rfl) (fun w => by go_simp; try with_reducible rfl)) hHeld ?_
    simp only [List.setIfInBounds_toArray, List.set_cons_zero, List.set_cons_succ]
    refine take_at (i := 11) 4 rfl rfl (by kernel_rfl) (by kernel_rfl) (by kernel_rfl) (fun _ _ _ h => h) (sure_yes (by rfl) (fun w => by go_simp; try with_reducible rfl)) hHeld ?_
    simp only [List.setIfInBounds_toArray, List.set_cons_zero, List.set_cons_succ]
    refine wpAnyH_done (by kernel_rfl) ?_ _
    go_wp2
    go_ret
    exact ⟨by rw [HR.out]; rfl, below_next B0.out hHeld⟩
end Go.Proofs.YtppmbdpfledejaaGreatDoor
namespace Go.Proofs.YtppmbdpfledejaaGreatDoor
open Go.RowKit
theorem two_evs (w : World) (T : TypeId) (e f : Ev) (v u : Value) : EvAt ((w.alloc (.cells (evC e v) T (0, 0))).alloc (.cells (evC f u) T (0, 0))) w.heap.size T e v ∧ EvAt ((w.alloc (.cells (evC e v) T (0, 0))).alloc (.cells (evC f u) T (0, 0))) (w.heap.size + 1) T f u ∧ Below w.heap.size w ((w.alloc (.cells (evC e v) T (0, 0))).alloc (.cells (evC f u) T (0, 0))) :=
  ⟨evAt_kept (box_ev w T e v) ((Below.refl _ _).alloc (Nat.le_refl _) _), by
    have h := box_ev (w.alloc (.cells (evC e v) T (0, 0))) T f u
    rwa [show (w.alloc (.cells (evC e v) T (0, 0))).heap.size = w.heap.size + 1 by simp] at h, ((Below.refl w.heap.size w).alloc (Nat.le_refl _) _).alloc (by simp) _⟩
end Go.Proofs.YtppmbdpfledejaaGreatDoor
namespace Go.Proofs.YtppmbdpfledejaaGreatDoor
open Go.RowKit
set_option maxRecDepth 100000 in
set_option maxHeartbeats 4000000 in
theorem isNaN_str (s : List UInt8) (w : World) : Calls Tryz.prog 74 #[.string (str s)] w fun e w' => e = .returned (.bool false) ∧ w = w' := by
  go_enter Tryz.func74, Tryz.ntmps74
  go_wp2
  go_ret
  exact ⟨by simp, rfl⟩
set_option maxRecDepth 100000 in
set_option maxHeartbeats 16000000 in
theorem cmpStr_any (a b : List UInt8) (w : World) : Calls Tryz.prog 43 #[.string (str a), .string (str b)] w fun e w' => e = .returned (.int .i64 (cmpB a b)) ∧ w = w' := by
  have N1 := Lib.hid (isNaN_str a)
  have N2 := Lib.hid (isNaN_str b)
  have s1 : (str a).toList = a := str_toList a
  have s2 : (str b).toList = b := str_toList b
  rcases cmpB_cases a b with ⟨hc, he⟩ | ⟨hc, hl, hn⟩ | ⟨hc, hl, hn⟩
  · have q1 : Op.bytesLess a b = false := by rw [he]; exact bytesLess_irrefl b
    have q2 : (a == b) = true := by rw [he]; simp
    clear he
    have HR := Lib.hid (show cmpB a b = 0 by exact hc)
    clear hc
    go_enter Tryz.func43, Tryz.ntmps43
    go_upto_region 2 with (first | (go_at_call 74; refine (N1.out _).mono ?_; rintro e w1 ⟨rfl, rfl⟩))
    go_wp2_with (first | (go_at_call 74; refine (N2.out _).mono ?_; rintro e w1 ⟨rfl, rfl⟩))
    go_ret
    exact ⟨by rw [HR.out]; try rfl, rfl⟩
  · have q1 : Op.bytesLess a b = true := hl
    clear hl hn
    have HR := Lib.hid (show cmpB a b = -1 by exact hc)
    clear hc
    go_enter Tryz.func43, Tryz.ntmps43
    go_upto_region 2 with (first | (go_at_call 74; refine (N1.out _).mono ?_; rintro e w1 ⟨rfl, rfl⟩))
    go_wp2_with (first | (go_at_call 74; refine (N2.out _).mono ?_; rintro e w1 ⟨rfl, rfl⟩))
    go_ret
    exact ⟨by rw [HR.out]; try rfl, rfl⟩
  · have q1 : Op.bytesLess a b = false := bl_asymm hl
    have q2 : (a == b) = false := beq_eq_false_iff_ne.2 hn
    clear hl hn
    have HR := Lib.hid (show cmpB a b = 1 by exact hc)
    clear hc
    go_enter Tryz.func43, Tryz.ntmps43
    go_upto_region 2 with (first | (go_at_call 74; refine (N1.out _).mono ?_; rintro e w1 ⟨rfl, rfl⟩))
    go_wp2_with (first | (go_at_call 74; refine (N2.out _).mono ?_; rintro e w1 ⟨rfl, rfl⟩))
    go_ret
    exact ⟨by rw [HR.out]; try rfl, rfl⟩
end Go.Proofs.YtppmbdpfledejaaGreatDoor
namespace Go.Proofs.YtppmbdpfledejaaGreatDoor
open Go.RowKit
theorem cell_under12 {w w' : World} {A : Addr} {u : Value} (hc : w.cell? A = some u) (hb : Below w.heap.size w w') : w'.cell? A = some u :=
  (World.cell?_of_block (hb.block A.block (World.block_lt_of_cell? w _ hc))).trans hc
theorem ev_fieldM {w : World} {A : Addr} {e : Ev} {v : Value} (hc : ∀ j u, (evC e v)[j]? = some u → w.cell? (A.add j) = some u) (j : Nat) (hj : j ≠ 0) (u : Value) (hu : (evC e v)[j]? = some u) : w.cell? ⟨A.block, A.off + j, none⟩ = some u := by
  have h := hc j u hu
  unfold Addr.add at h
  rw [if_neg hj] at h
  exact h
theorem fst_atM {us : List (Ev × Value)} {k : Nat} {x : Ev × Value} (h : us[k]? = some x) : (us.map (·.1))[k]? = some x.1 := by rw [List.getElem?_map, h]; rfl
end Go.Proofs.YtppmbdpfledejaaGreatDoor
namespace Go.Proofs.YtppmbdpfledejaaGreatDoor
open Go.RowKit
/-- Events whose numbers are of 64 bits, and whose paths a memory can hold. -/
def WideU (us : List (Ev × Value)) : Prop := ∀ x ∈ us, I64 x.1.r ∧ I64 x.1.q ∧ x.1.path.length < 1152921504606846976
end Go.Proofs.YtppmbdpfledejaaGreatDoor
