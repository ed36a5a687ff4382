/-
Texts that all claims of this seat share, part 2: EvSlices, Ready, Heads, EvLaws, DotFace, HeadsMem, OpReady, Shown, ShowM, ShowMem, ShaHash, BitsWalks, BlockWalks, Compress, ShaAbc.
-/
import Derived.Deep.Slices
import Derived.Laws.AppendOwn
import Derived.Laws.OwnMore
import Derived.Deep.AppendLies
import Derived.OwnWalk
import Derived.Great.Walk
import Derived.Maps.AppendAt
import Derived.Laws.StructEq
import Derived.Laws.AppendOwnNone
import Derived.Laws.Slices
import Derived.Test.YtppmbdpfledejaaGreatDoorProg
import Derived.WalkKit
import Derived.WalkSpells
import Derived.WalkLawsBesides
import Derived.Lib.Hide
import Derived.Laws.CopyOwn
import Derived.Deep.QuietTactic
import Derived.BigQuiet
import Derived.StillTailTactics
import Derived.Test.YtppmbdpfledejaaGreatDoorPk1
namespace Go.Proofs.YtppmbdpfledejaaGreatDoor
open Go.RowKit
/-- Events as the cells of a slice; each with the slice of what was known. -/
def evsC : List (Ev × Value) → List Value
  | [] => []
  | x :: t => (evC x.1 x.2).toList ++ evsC t
theorem evC_len (e : Ev) (v : Value) : (evC e v).toList.length = 38 := by rw [Array.length_toList, evC_size]
theorem evsC_length (us : List (Ev × Value)) : (evsC us).length = us.length * 38 := by
  induction us with
  | nil => rfl
  | cons x t ih => rw [evsC, List.length_append, evC_len, ih, List.length_cons]; omega
theorem evsC_append (us vs : List (Ev × Value)) : evsC (us ++ vs) = evsC us ++ evsC vs := by
  induction us with
  | nil => rfl
  | cons x t ih => rw [List.cons_append, evsC, evsC, ih, List.append_assoc]
theorem evsC_one (us : List (Ev × Value)) (h : ∀ x ∈ us, x.2.oneCell' = true) : ∀ u ∈ evsC us, u.oneCell' = true := by
  induction us with
  | nil => intro u hu; cases hu
  | cons x t ih =>
    intro u hu
    rw [evsC] at hu
    rcases List.mem_append.1 hu with hu | hu
    · exact (Array.all_eq_true_iff_forall_mem.1 (evC_one x.1 x.2 (h x (by simp)))) u (by simpa using hu)
    · exact ih (fun y hy => h y (by simp [hy])) u hu
theorem evsC_at (us : List (Ev × Value)) : ∀ k x, us[k]? = some x → ∀ j u, (evC x.1 x.2)[j]? = some u → (evsC us)[k * 38 + j]? = some u := by
  induction us with
  | nil => intro k x h; simp at h
  | cons y t ih =>
    intro k x h j u hu
    rw [evsC]
    cases k with
    | zero =>
      simp at h; subst h
      have hj : j < 38 := by have := (Array.getElem?_eq_some_iff.1 hu).1; rwa [evC_size] at this
      rw [List.getElem?_append_left (by rw [evC_len]; omega), Array.getElem?_toList, show 0 * 38 + j = j by omega]; exact hu
    | succ k =>
      rw [List.getElem?_append_right (by rw [evC_len]; omega), evC_len, show (k + 1) * 38 + j - 38 = k * 38 + j by omega]
      exact ih k x (by simpa using h) j u hu
/-- A slice value whose elements are these events. -/
def HasEvs (w : World) (v : Value) (l : List Ev) : Prop :=
  ∃ us : List (Ev × Value), us.map (·.1) = l ∧ (∀ x ∈ us, HasDots w x.2 x.1.deps) ∧ ∃ ao cap, v = .slice ao us.length cap ∧ (ao = none → us = [] ∧ cap = 0) ∧ ∀ ad, ao = some ad → us.length ≤ cap ∧ ∀ j u, (evsC us)[j]? = some u → w.cell? (ad.add j) = some u
theorem evs_nil (w : World) : HasEvs w (.slice none 0 0) [] := ⟨[], rfl, (fun _ h => by cases h), none, 0, rfl, fun _ => ⟨rfl, rfl⟩, fun _ h => by cases h⟩
theorem evs_below {w w' : World} {v : Value} {l : List Ev} (h : HasEvs w v l) (hb : Below w.heap.size w w') : HasEvs w' v l := by
  obtain ⟨us, h1, h2, ao, cap, rfl, hnil, hc⟩ := h
  refine ⟨us, h1, fun x hx => dots_below (h2 x hx) hb, ao, cap, rfl, hnil, fun ad had => ⟨(hc ad had).1, fun j u hu => ?_⟩⟩
  have h1 := (hc ad had).2 j u hu
  exact (World.cell?_of_block (hb.block (ad.add j).block (World.block_lt_of_cell? w _ h1))).trans h1
theorem addr_add2 (ad : Addr) (k j : Nat) : (ad.add k).add j = ad.add (k + j) := Go.Deep.add_add ad k j
/-- An event loaded from wherever its cells lie. -/
theorem ev_run {P : Program} {o : Oper} {a : Act} {w : World} (ty : TypeId) (x : Operand) (ho : o.op = .load ty x) (A : Addr) (hx : a.eval x = .pointer (some A)) {e : Ev} {v : Value} {fs : Array Field} (hu : P.underlying ty = some (.struct fs))
    (hi : (P.info? ty).map (·.size) = some 38) (hc : ∀ j u, (evC e v)[j]? = some u → w.cell? (A.add j) = some u) : (execOp a.eval o).run P w = .ok (.value (.agg (evC e v))) w := by
  have hl : (loadCells A (evC e v).toList.length).run P w = .ok (evC e v).toList.toArray w := run_loadCells_list (P := P) w A _ (fun j u hj => hc j u (by rwa [Array.getElem?_toList] at hj))
  rw [evC_len, Array.toArray_toList] at hl
  cases hq : P.info? ty with
  | none => simp [hq] at hi
  | some i =>
    have hs : i.size = 38 := by simpa [hq] using hi
    unfold execOp
    simp [ho, hx, Instr.loadAt, Instr.sureAddr, loadVar, isAgg, run_underlying hu, sizeOf, typeInfo, hq, hs, hl]
theorem evA_yields {P : Program} {ops : Array Oper} {S : World → Prop} {o : Oper} {a : Act} (hw : Region.wanted o (yielded ops a.tmps) = true) (ty : TypeId) (x : Operand) (ho : o.op = .load ty x) (A : Addr) (hx : a.eval x = .pointer (some A)) {e : Ev} {v : Value} {fs : Array Field}
    (hu : P.underlying ty = some (.struct fs)) (hi : (P.info? ty).map (·.size) = some 38) (hS : ∀ w, S w → ∀ j u, (evC e v)[j]? = some u → w.cell? (A.add j) = some u) : YieldsIf P ops S o (.agg (evC e v)) a :=
  .inl ⟨hw, fun w h => ev_run ty x ho A hx hu hi (hS w h)⟩
/-- A slice of events of the call's own, whose vectors lie in blocks of dots. -/
def OwnEvs (B : Nat) (w : World) (v : Value) (us : List (Ev × Value)) : Prop := w.ownsRow B 92 38 v us.length (evsC us) ∧ ∀ x ∈ us, TypDots w x.2 x.1.deps
theorem ownEvs_nil (B : Nat) (w : World) : OwnEvs B w (.slice none 0 0) [] := ⟨World.ownsRow_nil _ _ _ _, fun _ h => by cases h⟩
theorem evs_of_own {B : Nat} {w : World} {v : Value} {us : List (Ev × Value)} (h : OwnEvs B w v us) : HasEvs w v (us.map (·.1)) := by
  obtain ⟨h, ht⟩ := h
  rcases h.2 with ⟨rfl, h0⟩ | ⟨g, cap, cur, rfl, rest⟩
  · obtain rfl : us = [] := List.eq_nil_of_length_eq_zero h0
    exact evs_nil w
  · exact ⟨us, rfl, fun x hx => (ht x hx).1, some ⟨g, 0, none⟩, cap, rfl, (fun h => by cases h), fun ad had => ⟨rest.2.2.1, fun j u hu => by
      cases had; exact h.cells rfl j u hu⟩⟩
/-- One event appended to a slice of events of the call's own. -/
theorem append_ev {P : Program} {w : World} {ops : Array Oper} {rest : List Oper} {o : Oper} {a : Act} {Q : Exit → Act → World → Prop} (hgd : o.guard = none) (s x : Operand) (t : TypeId)
    (ho : o.op = .call { callee := .builtin .append, args := #[s, x], argTypes := #[t, t] })
    (base : Nat) (e : TypeId) (i : TypeInfo) (ht : P.underlying t = some (.slice e)) (hi : P.info? e = some i) (hz : (i.zero.map (·.cells.size), i.size, i.bytes) = (some 38, 38, 104))
    (v : Value) (us : List (Ev × Value)) (y : Ev × Value) (hs : a.eval s = v) (hown : w.ownsRow base e 38 v us.length (evsC us)) (hone : y.2.oneCell' = true) (ad : Addr) (c : Nat) (hx : a.eval x = .slice (some ad) 1 c)
    (hc : ∀ j u, (evC y.1 y.2)[j]? = some u → w.cell? (ad.add j) = some u) (hlen : us.length + 1 ≤ 100000) (hbase : base ≤ w.heap.size)
    (h : ∀ v' w', w'.ownsRow base e 38 v' (us ++ [y]).length (evsC (us ++ [y])) → w.grownBy w' v.ownBlock → wpList P ops Q rest (a.put o.dst v') w') : wpList P ops Q (o :: rest) a w := by
  simp only [Prod.mk.injEq] at hz
  obtain ⟨hz1, hz2, hz3⟩ := hz
  cases hzz : i.zero with
  | none => rw [hzz] at hz1; cases hz1
  | some z =>
    rw [hzz] at hz1
    simp only [Option.map_some, Option.some.injEq] at hz1
    have e1 : evsC [y] = (evC y.1 y.2).toList := by rw [evsC, evsC, List.append_nil]
    refine wpList_append_own w hgd s x t ho base e i z 38 104 ht hi hzz hz2 hz3 hz1 (by decide) v us.length (evsC us) hs hown ad 1 c (evsC [y]) hx (by rw [evsC_length]; rfl) (fun j u hj => ?_) (evsC_one [y] (fun q hq => by
      simp only [List.mem_singleton] at hq; rw [hq]; exact hone))
      (by unfold maxLen; omega) (by omega) hbase fun v' w' h1 h2 _ => h v' w' (by rw [evsC_append, List.length_append]; exact h1) h2
    rw [e1, Array.getElem?_toList] at hj
    exact hc j u hj
theorem infoEv : ∃ i, Tryz.prog.info? 92 = some i ∧ (i.zero.map (·.cells.size), i.size, i.bytes) = (some 38, 38, 104) := by
  have h : (Tryz.prog.info? 92).map (fun i => (i.zero.map (·.cells.size), i.size, i.bytes)) = some (some 38, 38, 104) := by kernel_rfl
  cases hi : Tryz.prog.info? 92 with
  | none => rw [hi] at h; cases h
  | some i => rw [hi] at h; exact ⟨i, rfl, Option.some.inj h⟩
end Go.Proofs.YtppmbdpfledejaaGreatDoor
namespace Go.Proofs.YtppmbdpfledejaaGreatDoor
open Go.RowKit
theorem call_at2 {P : Program} {ops : Array Oper} {o : Oper} {a : Act} {w : World} {K : Act → World → Prop} {Q : Exit → Act → World → Prop} {E : Prop} (hw : Region.wanted o (yielded ops a.tmps) = true) (f : FuncId) (x y : Operand) (t u : TypeId)
    (ho : o.op = .call { callee := .value (.func f), args := #[x, y], argTypes := #[t, u] }) (v z : Value) (hx : a.eval x = v) (hy : a.eval y = z) (eg : ∀ vs w, (callFunc f vs).run P w = .ok (.enter f vs) w) (Post : Ending → World → Prop) (hc : Calls P f #[v, z] w Post)
    (h : ∀ e w', Post e w' → ∃ r, e = .returned r ∧ K (a.put o.dst r) w') : if Region.wanted o (yielded ops a.tmps) = true then Oper.wp P o a w K Q else E := by
  rw [if_pos hw]
  have hr : (execOp a.eval o).run P w = .ok (.enter f #[v, z]) w := by
    have hv : a.eval (.func f) = .func (.func f) #[] #[] := rfl
    simp [execOp, ho, resolve, invoke, Deferred.ofValue, hx, hy, hv, eg]
  unfold Oper.wp
  rw [hr]
  exact hc.mono fun e w' hp => by
    obtain ⟨r, rfl, hk⟩ := h e w' hp
    exact hk
/-- .. with two. -/
theorem ready_call2 {P : Program} {md : Region.Mode} {ops : Array Oper} {Q : Exit → Act → World → Prop} {S : World → Prop} {fuel : Nat} {listed : Array Bool} {ts : Array Value} {ds : List Deferred} {w : World} (i d : Nat) (hr : Region.ready md ops listed = [i]) {o : Oper} (hoi : ops[i]? = some o)
    (hd : o.dst = some d) (hw : Region.wanted o (yielded ops ts) = true) (f : FuncId) (x y : Operand) (t u : TypeId) (ho : o.op = .call { callee := .value (.func f), args := #[x, y], argTypes := #[t, u] }) (v z : Value) (hx : Act.eval { tmps := ts, defers := ds } x = v) (hy : Act.eval { tmps := ts, defers := ds } y = z)
    (eg : ∀ vs w, (callFunc f vs).run P w = .ok (.enter f vs) w) (Post : Ending → World → Prop) (hc : Calls P f #[v, z] w Post)
    (h : ∀ e w', Post e w' → ∃ r, e = .returned r ∧ S w' ∧ wpAnyH P md ops Q S fuel (listed.setIfInBounds i true) { tmps := ts.setIfInBounds d r, defers := ds } w') : wpAnyH P md ops Q S (fuel + 1) listed { tmps := ts, defers := ds } w :=
  wpAnyH_ready hr (by simp) (AllReadyH.cons hoi (fun K hK => call_at2 hw f x y t u ho v z hx hy eg Post hc (fun e w' hp => by
    obtain ⟨r, e1, h1, h2⟩ := h e w' hp
    refine ⟨r, e1, ?_⟩
    rw [hd]
    exact hK.out _ _ h1 (fun _ => h2))) AllReadyH.nil)
end Go.Proofs.YtppmbdpfledejaaGreatDoor
namespace Go.Proofs.YtppmbdpfledejaaGreatDoor
open Go.RowKit
def knE (e f : Ev) : Bool := hasV e.deps f.r f.q
def insL : List Ev → Ev → List Ev
  | [], e => [e]
  | f :: l, e => if cmpE f e < 0 then f :: insL l e else e :: f :: l
def lastAt (l : List Ev) (e : Ev) : Nat := l.findIdx fun f => !decide (cmpE f e < 0)
theorem insL_place (l : List Ev) (e : Ev) : insL l e = l.take (lastAt l e) ++ e :: l.drop (lastAt l e) := by
  unfold lastAt
  induction l with
  | nil => rfl
  | cons f l ih =>
    unfold insL
    rw [List.findIdx_cons]
    by_cases h : cmpE f e < 0
    · simp [h, ih]
    · simp [h]
/-- Is the event at place i a last one, and the first of its dot? -/
def lastOk (i k : Nat) (e f : Ev) : Bool := (!(f.path == e.path) || !knE f e) && (decide (i ≤ k) || !decide (cmpD f.r f.q e.r e.q = 0))
def lastIs (l : List Ev) (i : Nat) (e : Ev) : Bool := (List.range l.length).all fun k => match l[k]? with | some f => lastOk i k e f | none => true
def lastTo (l : List Ev) : Nat → List Ev
  | 0 => []
  | i + 1 => match l[i]? with | some e => if lastIs l i e then insL (lastTo l i) e else lastTo l i | none => lastTo l i
def lastE (l : List Ev) : List Ev := lastTo l l.length
theorem cmpD_zero (r q r' q' : Int) : cmpD r q r' q' = 0 ↔ r = r' ∧ q = q' := by
  rcases cmp_cases r q r' q' with ⟨k, k1, k2⟩ | ⟨k, k1⟩ | ⟨k, k1⟩
  · rw [k]; simp [k1, k2]
  · rw [k]; constructor
    · intro x; omega
    · rintro ⟨x, y⟩; omega
  · rw [k]; constructor
    · intro x; omega
    · rintro ⟨x, y⟩; omega
end Go.Proofs.YtppmbdpfledejaaGreatDoor
namespace Go.Proofs.YtppmbdpfledejaaGreatDoor
open Go.RowKit
set_option maxRecDepth 100000 in
theorem ev_built (e : Ev) (ao : Option Addr) (n c : Nat) : Tryz.prog.built 92 [(0, .agg #[.int .i64 e.r, .int .i64 e.q]), (1, .slice ao n c), (2, .int .i64 e.kind), (3, .string (str e.path)), (4, .agg (row .u8 32 e.sum)), (5, .int .i64 e.size)] = some (evC e (.slice ao n c)) := by kernel_rfl
theorem build_yields {P : Program} {ops : Array Oper} {S : World → Prop} {o : Oper} {a : Act} (hw : Region.wanted o (yielded ops a.tmps) = true) (t : TypeId) (parts : Array (Nat × Operand)) (ho : o.op = .build t parts) (ps : List (Nat × Value)) (cs : Array Value)
    (hb : P.built t ps = some cs) (hp : (parts.map fun (i, x) => (i, a.eval x)).toList = ps) : YieldsIf P ops S o (.agg cs) a :=
  .inl ⟨hw, fun w _ => by
    subst hp
    unfold execOp
    simp only [ho, Sem.run_bind, run_build w t _ cs hb, Result.andThen_ok]
    rfl⟩
theorem store_ev_at {P : Program} {ops : Array Oper} {o : Oper} {a : Act} {w : World} {K : Act → World → Prop} {Q : Exit → Act → World → Prop} {E : Prop} (hd : o.dst = none) (hw : Region.wanted o (yielded ops a.tmps) = true) (ty : TypeId) (x y : Operand) (ho : o.op = .store ty x y)
    (g : Nat) (e e0 : Ev) (v v0 : Value) (hx : a.eval x = .pointer (some ⟨g, 0, none⟩)) (hy : a.eval y = .agg (evC e v)) (t : TypeId) (hg : EvAt w g t e0 v0) (hi : (P.info? ty).map (·.size) = some 38) (hv : v.oneCell' = true)
    (h : ∀ w', EvAt w' g t e v → Solo g w w' → K a w') : if Region.wanted o (yielded ops a.tmps) = true then Oper.wp P o a w K Q else E :=
  store_at hd hw ty x y ho g (evC e v) hx hy t _ hg (by rw [hi, evC_size]) (by rw [evC_size, evC_size]) (evC_one e v hv) (h _ (setRow_heap _ _ _ _ _ _ hg) (solo_setRow w g _))
theorem str_yields12 {P : Program} {ops : Array Oper} {S : World → Prop} {o : Oper} {a : Act} (hw : Region.wanted o (yielded ops a.tmps) = true) (ty : TypeId) (x : Operand) (ho : o.op = .load ty x)
    (ad : Addr) (hx : a.eval x = .pointer (some ad)) (s : ByteArray) (hu : P.underlying ty = some .string) (hS : ∀ w, S w → w.cell? ad = some (.string s)) : YieldsIf P ops S o (.string s) a :=
  .inl ⟨hw, fun w h => by
    have hc := hS w h
    unfold execOp
    simp [ho, hx, Instr.loadAt, Instr.sureAddr, loadVar, isAgg, run_underlying hu, hc]⟩
/-- An event stored by the one operation that is ready. -/
theorem ready_store_ev {P : Program} {md : Region.Mode} {ops : Array Oper} {Q : Exit → Act → World → Prop} {S : World → Prop} {fuel : Nat} {listed : Array Bool} {a : Act} {w : World} (i : Nat) (hr : Region.ready md ops listed = [i]) {o : Oper} (hoi : ops[i]? = some o)
    (hd : o.dst = none) (hw : Region.wanted o (yielded ops a.tmps) = true) (ty : TypeId) (x y : Operand) (ho : o.op = .store ty x y) (g : Nat) (e e0 : Ev) (v v0 : Value) (hx : a.eval x = .pointer (some ⟨g, 0, none⟩)) (hy : a.eval y = .agg (evC e v)) (t : TypeId)
    (hg : EvAt w g t e0 v0) (hi : (P.info? ty).map (·.size) = some 38) (hv : v.oneCell' = true)
    (h : ∀ w', EvAt w' g t e v → Solo g w w' → S w' ∧ wpAnyH P md ops Q S fuel (listed.setIfInBounds i true) a w') : wpAnyH P md ops Q S (fuel + 1) listed a w :=
  wpAnyH_ready hr (by simp) (AllReadyH.cons hoi (fun K hK => store_ev_at hd hw ty x y ho g e e0 v v0 hx hy t hg hi hv (fun w' h1 h2 => hK.out _ _ (h w' h1 h2).1 (fun _ => (h w' h1 h2).2))) AllReadyH.nil)
theorem dots_solo {w w' : World} {v : Value} {l : List D2} {g : Nat} (h : HasDots w v l) (hs : Solo g w w') (hne : l = [] ∨ v.ownBlock ≠ some g) : HasDots w' v l := by
  obtain ⟨ao, cap, rfl, hnil, hc⟩ := h
  refine ⟨ao, cap, rfl, hnil, fun ad had => ⟨(hc ad had).1, fun j u hu => ?_⟩⟩
  rcases hne with rfl | hne
  · simp [dotsC] at hu
  · have h1 := (hc ad had).2 j u hu
    refine (World.cell?_of_block (hs.block (ad.add j).block fun e => hne ?_)).trans h1
    rw [had]
    show some ad.block = some g
    rw [← e]; unfold Addr.add; split <;> rfl
theorem typ_solo {w w' : World} {v : Value} {l : List D2} {g : Nat} (h : TypDots w v l) (hs : Solo g w w') {cs : Array Value} {T : TypeId} {fr : Nat × Nat} (hg : w.heap[g]? = some (.cells cs T fr)) (hT : T ≠ 29) : TypDots w' v l := by
  have hne : l = [] ∨ v.ownBlock ≠ some g := h.2.elim .inl fun ⟨k, cs', fr', h1, h2⟩ => .inr fun e => by
    rw [h1] at e; cases e; rw [h2] at hg; cases hg; exact hT rfl
  refine ⟨dots_solo h.1 hs hne, h.2.elim .inl fun ⟨k, cs', fr', h1, h2⟩ => ?_⟩
  rcases hne with rfl | hne
  · exact .inl rfl
  · exact .inr ⟨k, cs', fr', h1, (hs.block k fun e => hne (by rw [h1, e])).trans h2⟩
set_option maxRecDepth 100000 in
theorem evSize : (Tryz.prog.info? 92).map (·.size) = some 38 := by kernel_rfl
set_option maxRecDepth 100000 in
theorem sumSize : (Tryz.prog.info? 31).map (·.size) = some 32 := by kernel_rfl
end Go.Proofs.YtppmbdpfledejaaGreatDoor
namespace Go.Proofs.YtppmbdpfledejaaGreatDoor
open Go.RowKit
/-- A number of 64 bits. -/
def I64 (a : Int) : Prop := -9223372036854775808 ≤ a ∧ a < 9223372036854775808
end Go.Proofs.YtppmbdpfledejaaGreatDoor
namespace Go.Proofs.YtppmbdpfledejaaGreatDoor
open Go.RowKit
def HoldsU (w : World) (v : Value) (us : List (Ev × Value)) : Prop :=
  ∃ ao cap, v = .slice ao us.length cap ∧ (ao = none → us = [] ∧ cap = 0) ∧ ∀ ad, ao = some ad → us.length ≤ cap ∧ ∀ j u, (evsC us)[j]? = some u → w.cell? (ad.add j) = some u
def DepsU (w : World) (us : List (Ev × Value)) : Prop := ∀ x ∈ us, HasDots w x.2 x.1.deps
def FitE (e : Ev) : Prop := I64 e.r ∧ I64 e.q ∧ e.deps.length < 2000000 ∧ e.path.length < 1152921504606846976
def FitU (us : List (Ev × Value)) : Prop := ∀ x ∈ us, FitE x.1
theorem u_of_evs {w : World} {v : Value} {l : List Ev} (h : HasEvs w v l) : ∃ us, us.map (·.1) = l ∧ DepsU w us ∧ HoldsU w v us := h
theorem holdsU_below {w w' : World} {v : Value} {us : List (Ev × Value)} (h : HoldsU w v us) (hb : Below w.heap.size w w') : HoldsU w' v us := by
  obtain ⟨ao, cap, rfl, hnil, hc⟩ := h
  refine ⟨ao, cap, rfl, hnil, fun ad had => ⟨(hc ad had).1, fun j u hu => ?_⟩⟩
  have h1 := (hc ad had).2 j u hu
  exact (World.cell?_of_block (hb.block (ad.add j).block (World.block_lt_of_cell? w _ h1))).trans h1
theorem holdsU_nil (w : World) : HoldsU w (.slice none 0 0) [] := ⟨none, 0, rfl, fun _ => ⟨rfl, rfl⟩, fun _ h => by cases h⟩
theorem holdsU_shape {w : World} {v : Value} {us : List (Ev × Value)} (h : HoldsU w v us) (n : Nat) (hn : n = us.length) : ∃ ao cap, v = .slice ao n cap := by
  obtain ⟨ao, cap, rfl, -⟩ := h
  exact ⟨ao, cap, by rw [hn]⟩
theorem holdsU_at {w : World} {v : Value} {us : List (Ev × Value)} (h : HoldsU w v us) (n k : Nat) (hn : us.length = n) (x : Ev × Value) (hx : us[k]? = some x) : ∃ ad cap, v = .slice (some ad) n cap ∧ ∀ j u, (evC x.1 x.2)[j]? = some u → w.cell? ((ad.add (k * 38)).add j) = some u := by
  obtain ⟨ao, cap, rfl, hnil, hc⟩ := h
  cases ao with
  | none => obtain ⟨rfl, _⟩ := hnil rfl; simp at hx
  | some ad => exact ⟨ad, cap, by rw [hn], fun j y hy => by rw [addr_add2]; exact (hc ad rfl).2 _ _ (evsC_at us k x hx j y hy)⟩
theorem dots_oneH {w : World} {v : Value} {l : List D2} (h : HasDots w v l) : v.oneCell' = true := by
  obtain ⟨ao, cap, e⟩ := dots_shape h _ rfl
  rw [e]; rfl
/-- An event loaded from wherever its cells lie. -/
theorem load_evA_on {P : Program} {ops : Array Oper} {rest : List Oper} {o : Oper} {a : Act} {w : World} {Q : Exit → Act → World → Prop} (hw : Region.wanted o (yielded ops a.tmps) = true) (ty : TypeId) (x : Operand) (ho : o.op = .load ty x) (A : Addr) (hx : a.eval x = .pointer (some A)) {e : Ev} {v : Value} {fs : Array Field}
    (hu : P.underlying ty = some (.struct fs)) (hi : (P.info? ty).map (·.size) = some 38) (hc : ∀ j u, (evC e v)[j]? = some u → w.cell? (A.add j) = some u)
    (h : wpList P ops Q rest (a.put o.dst (.agg (evC e v))) w) : wpList P ops Q (o :: rest) a w := by
  refine wpList_step fun K hK => ?_
  rw [if_pos hw]
  unfold Oper.wp
  rw [ev_run ty x ho A hx hu hi hc]
  exact hK _ _ h
/-- Events appended to a slice of events of the call's own. -/
theorem append_evs {P : Program} {w : World} {ops : Array Oper} {rest : List Oper} {o : Oper} {a : Act} {Q : Exit → Act → World → Prop} (hgd : o.guard = none) (s x : Operand) (t : TypeId)
    (ho : o.op = .call { callee := .builtin .append, args := #[s, x], argTypes := #[t, t] })
    (base : Nat) (e : TypeId) (i : TypeInfo) (ht : P.underlying t = some (.slice e)) (hi : P.info? e = some i) (hz : (i.zero.map (·.cells.size), i.size, i.bytes) = (some 38, 38, 104))
    (v : Value) (us ys : List (Ev × Value)) (hs : a.eval s = v) (hown : w.ownsRow base e 38 v us.length (evsC us)) (hone : ∀ y ∈ ys, y.2.oneCell' = true) (ad : Addr) (m c : Nat) (hx : a.eval x = .slice (some ad) m c) (hm : m = ys.length)
    (hc : ∀ j u, (evsC ys)[j]? = some u → w.cell? (ad.add j) = some u) (hlen : us.length + ys.length ≤ 100000) (hbase : base ≤ w.heap.size)
    (h : ∀ v' w', w'.ownsRow base e 38 v' (us ++ ys).length (evsC (us ++ ys)) → w.grownBy w' v.ownBlock → wpList P ops Q rest (a.put o.dst v') w') : wpList P ops Q (o :: rest) a w := by
  simp only [Prod.mk.injEq] at hz
  obtain ⟨hz1, hz2, hz3⟩ := hz
  subst hm
  cases hzz : i.zero with
  | none => rw [hzz] at hz1; cases hz1
  | some z =>
    rw [hzz] at hz1
    simp only [Option.map_some, Option.some.injEq] at hz1
    refine wpList_append_own w hgd s x t ho base e i z 38 104 ht hi hzz hz2 hz3 hz1 (by decide) v us.length (evsC us) hs hown ad ys.length c (evsC ys) hx (by rw [evsC_length]) hc (evsC_one ys hone)
      (by unfold maxLen; omega) (by omega) hbase fun v' w' h1 h2 _ => h v' w' (by rw [evsC_append, List.length_append]; exact h1) h2
set_option maxRecDepth 100000 in
theorem ev_slice1M (e : Ev) (ao : Option Addr) (n c : Nat) : Tryz.prog.builtSlice 92 1 [(0, .agg (evC e (.slice ao n c)))] = some (evC e (.slice ao n c)) := by kernel_rfl
/-- A slice of one event, made. -/
theorem build_evM {ops : Array Oper} {rest : List Oper} {o : Oper} {a : Act} {w : World} {Q : Exit → Act → World → Prop} (hg : o.guard = none) (d : Nat) (hd : o.dst = some d) (x : Operand) (ho : o.op = .buildSlice 22 1 #[(0, x)])
    (N : Nat) (hN : w.heap.size = N) (e : Ev) (ao : Option Addr) (n c : Nat) (hx : a.eval x = .agg (evC e (.slice ao n c)))
    (h : ∀ w', EvAt w' N 92 e (.slice ao n c) → Below w.heap.size w w' → w'.heap.size = N + 1 → wpList Tryz.prog ops Q rest (a.put (some d) (.slice (some ⟨N, 0, none⟩) 1 1)) w') : wpList Tryz.prog ops Q (o :: rest) a w := by
  refine Go.Great.wpList_buildSliceTo hg 22 92 1 #[(0, x)] ho N hN (some d) hd Tryz.underlying22 (evC e (.slice ao n c)) ?_ (h _ ?_ ((Below.refl _ _).alloc (Nat.le_refl _) _) ?_)
  · have hp : ((#[(0, x)] : Array (Nat × Operand)).map fun (i, x) => (i, a.eval x)).toList = [(0, .agg (evC e (.slice ao n c)))] := by simp [hx]
    rw [hp]; exact ev_slice1M e ao n c
  · rw [← hN]; exact heap_last _ _
  · rw [size_of_alloc, hN]
theorem own_belowM {w w' : World} {base : Nat} {e : TypeId} {size : Nat} {v : Value} {n : Nat} {xs : List Value} (h : w.ownsRow base e size v n xs) (hb : Below w.heap.size w w') : w'.ownsRow base e size v n xs := by
  refine ⟨h.1, ?_⟩
  rcases h.2 with h0 | ⟨b, cap, cur, rfl, h1, h2, rest⟩
  · exact .inl h0
  · exact .inr ⟨b, cap, cur, rfl, h1, (hb.block b (Array.getElem?_eq_some_iff.1 h2).1).trans h2, rest⟩
theorem evsC_one1 (e : Ev) (v : Value) : evsC [(e, v)] = (evC e v).toList := by rw [evsC, evsC, List.append_nil]
theorem evAt_one {w : World} {N : Nat} {T : TypeId} {e : Ev} {v : Value} (h : EvAt w N T e v) : ∀ j u, (evsC [(e, v)])[j]? = some u → w.cell? ((⟨N, 0, none⟩ : Addr).add j) = some u := fun j u hu => by
  rw [evsC_one1, Array.getElem?_toList] at hu
  rw [Addr.add_lit, Nat.zero_add]
  exact evAt_cell h j u hu
end Go.Proofs.YtppmbdpfledejaaGreatDoor
namespace Go.Proofs.YtppmbdpfledejaaGreatDoor
open Go.RowKit
/-- An exit as Q has it, but for the ordinary one. -/
def exitOr (Q : Exit → Act → World → Prop) (K : Act → World → Prop) : Exit → Act → World → Prop
  | .normal => K
  | e => Q e
def OpH (P : Program) (md : Region.Mode) (ops : Array Oper) (Q : Exit → Act → World → Prop) (S : World → Prop) (fuel : Nat) (listed : Array Bool) (a : Act) (w : World) (i : Nat) : Prop :=
  wpOp P ops Q i (fun a' w' => S w' ∧ wpAnyH P md ops Q S fuel (listed.setIfInBounds i true) a' w') a w
section
variable {P : Program} {md : Region.Mode} {ops : Array Oper} {Q : Exit → Act → World → Prop} {S : World → Prop} {fuel : Nat} {listed : Array Bool} {a : Act} {w : World}
theorem ready_one (i : Nat) (hr : Region.ready md ops listed = [i]) (h : OpH P md ops Q S fuel listed a w i) : wpAnyH P md ops Q S (fuel + 1) listed a w :=
  wpAnyH_all hr (by simp) fun j hj => by rw [List.mem_singleton.1 hj]; exact h
theorem ready_two (i j : Nat) (hr : Region.ready md ops listed = [i, j]) (h1 : OpH P md ops Q S fuel listed a w i) (h2 : OpH P md ops Q S fuel listed a w j) : wpAnyH P md ops Q S (fuel + 1) listed a w :=
  wpAnyH_all hr (by simp) fun k hk => by
    rcases List.mem_cons.1 hk with rfl | hk
    · exact h1
    · rw [List.mem_singleton.1 hk]; exact h2
theorem letsOut_or {K : Act → World → Prop} (h : LetsOut (exitOr Q K)) : LetsOut Q := h
theorem opH_list {i : Nat} {o : Oper} (hoi : ops[i]? = some o) (h : wpList P ops (exitOr Q (fun a' w' => S w' ∧ wpAnyH P md ops Q S fuel (listed.setIfInBounds i true) a' w')) [o] a w) : OpH P md ops Q S fuel listed a w i := by
  unfold OpH wpOp
  rw [hoi]
  dsimp only
  unfold wpList at h
  split
  · rename_i hw
    rw [if_pos hw] at h
    refine h.imp (fun h => ?_) (fun ⟨h1, h2⟩ => ⟨h1, letsOut_or h2⟩)
    unfold Oper.wp at *
    generalize (execOp a.eval o).run P w = r at *
    cases r with
    | ok n w' =>
      cases n <;> simp only [Oper.upon] at h ⊢
      case value u => exact h
      case skip => exact h
      case defer d => exact h
      case enter f args => exact Calls.mono h fun e w'' he => by cases e <;> exact he
      case row row args => exact Rows.mono h fun u w'' he => he
      all_goals exact h
    | halt x w' => cases x <;> simp only [Oper.upon] at h ⊢ <;> exact h
  · rename_i hw
    rw [if_neg hw] at h
    exact h
theorem opH_end {i : Nat} (h1 : S w) (h2 : wpAnyH P md ops Q S fuel (listed.setIfInBounds i true) a w) : wpList P ops (exitOr Q (fun a' w' => S w' ∧ wpAnyH P md ops Q S fuel (listed.setIfInBounds i true) a' w')) [] a w := ⟨h1, h2⟩
theorem opH_call1 {i : Nat} {o : Oper} (hoi : ops[i]? = some o) (hw : Region.wanted o (yielded ops a.tmps) = true) (f : FuncId) (c x : Operand) (t : TypeId) (ho : o.op = .call { callee := .value c, args := #[x], argTypes := #[t] }) (hc : a.eval c = .func (.func f) #[] #[])
    (v : Value) (hx : a.eval x = v) (eg : ∀ vs w, (callFunc f vs).run P w = .ok (.enter f vs) w) (Post : Ending → World → Prop) (hcall : Calls P f #[v] w Post)
    (h : ∀ e w', Post e w' → ∃ r, e = .returned r ∧ S w' ∧ wpAnyH P md ops Q S fuel (listed.setIfInBounds i true) (a.put o.dst r) w') : OpH P md ops Q S fuel listed a w i := by
  refine wpOp_step hoi fun K hK => ?_
  rw [if_pos hw]
  have hr : (execOp a.eval o).run P w = .ok (.enter f #[v]) w := by simp [execOp, ho, resolve, invoke, Deferred.ofValue, hx, hc, eg]
  unfold Oper.wp
  rw [hr]
  exact hcall.mono fun e w' hp => by
    obtain ⟨r, rfl, h1, h2⟩ := h e w' hp
    exact hK _ _ ⟨h1, h2⟩
theorem opH_call2 {i : Nat} {o : Oper} (hoi : ops[i]? = some o) (hw : Region.wanted o (yielded ops a.tmps) = true) (f : FuncId) (c x y : Operand) (t u : TypeId) (ho : o.op = .call { callee := .value c, args := #[x, y], argTypes := #[t, u] }) (lb : Array Value) (hc : a.eval c = .func (.func f) #[] lb)
    (v z : Value) (hx : a.eval x = v) (hy : a.eval y = z) (eg : ∀ vs w, (callFunc f vs).run P w = .ok (.enter f vs) w) (Post : Ending → World → Prop) (hcall : Calls P f (#[v, z] ++ lb) w Post)
    (h : ∀ e w', Post e w' → ∃ r, e = .returned r ∧ S w' ∧ wpAnyH P md ops Q S fuel (listed.setIfInBounds i true) (a.put o.dst r) w') : OpH P md ops Q S fuel listed a w i := by
  refine wpOp_step hoi fun K hK => ?_
  rw [if_pos hw]
  have hr : (execOp a.eval o).run P w = .ok (.enter f (#[v, z] ++ lb)) w := by simp [execOp, ho, resolve, invoke, Deferred.ofValue, hx, hy, hc, eg]
  unfold Oper.wp
  rw [hr]
  exact hcall.mono fun e w' hp => by
    obtain ⟨r, rfl, h1, h2⟩ := h e w' hp
    exact hK _ _ ⟨h1, h2⟩
end
end Go.Proofs.YtppmbdpfledejaaGreatDoor
namespace Go.Proofs.YtppmbdpfledejaaGreatDoor
open Go.RowKit
/-- What is shown: where, of which dot, with which digest and size. -/
structure Sh where
  path : List UInt8
  r : Int
  q : Int
  sum : Nat → BitVec 32
  size : Int
def shC (s : Sh) : Array Value := #[.string (str s.path), .int .i64 s.r, .int .i64 s.q] ++ row .u8 32 s.sum ++ #[.int .i64 s.size]
theorem shC_size (s : Sh) : (shC s).size = 36 := by simp [shC, row_size]
theorem shC_len (s : Sh) : (shC s).toList.length = 36 := by rw [Array.length_toList, shC_size]
theorem shC_at (s : Sh) : (shC s)[0]? = some (.string (str s.path)) ∧ (shC s)[1]? = some (.int .i64 s.r) ∧ (shC s)[2]? = some (.int .i64 s.q) ∧ (shC s)[35]? = some (.int .i64 s.size) := by
  refine ⟨?_, ?_, ?_, ?_⟩
  iterate 3 simp [shC, row_size]
  unfold shC
  rw [Array.getElem?_append_right (by simp [row_size])]
  simp [row_size]
theorem shC_one (s : Sh) : (shC s).all (·.oneCell') = true := by
  have hr := row_one .u8 32 s.sum
  rw [Array.all_eq_true_iff_forall_mem] at hr ⊢
  intro x hx
  unfold shC at hx
  rcases Array.mem_append.1 hx with hx | hx
  · rcases Array.mem_append.1 hx with hx | hx
    · simp only [List.mem_toArray, List.mem_cons, List.not_mem_nil, or_false] at hx
      rcases hx with rfl | rfl | rfl <;> rfl
    · exact hr x hx
  · simp only [List.mem_toArray, List.mem_cons, List.not_mem_nil, or_false] at hx
    subst hx; rfl
def shsC : List Sh → List Value
  | [] => []
  | s :: t => (shC s).toList ++ shsC t
theorem shsC_length (l : List Sh) : (shsC l).length = l.length * 36 := by
  induction l with
  | nil => rfl
  | cons x t ih => rw [shsC, List.length_append, shC_len, ih, List.length_cons]; omega
theorem shsC_append (a b : List Sh) : shsC (a ++ b) = shsC a ++ shsC b := by
  induction a with
  | nil => rfl
  | cons x t ih => rw [List.cons_append, shsC, shsC, ih, List.append_assoc]
theorem shsC_one (l : List Sh) : ∀ u ∈ shsC l, u.oneCell' = true := by
  induction l with
  | nil => intro u hu; cases hu
  | cons x t ih =>
    intro u hu
    rw [shsC] at hu
    rcases List.mem_append.1 hu with hu | hu
    · exact (Array.all_eq_true_iff_forall_mem.1 (shC_one x)) u (by simpa using hu)
    · exact ih u hu
theorem shsC_at (l : List Sh) : ∀ k s, l[k]? = some s → ∀ j u, (shC s)[j]? = some u → (shsC l)[k * 36 + j]? = some u := by
  induction l with
  | nil => intro k x h; simp at h
  | cons y t ih =>
    intro k x h j u hu
    rw [shsC]
    cases k with
    | zero =>
      simp at h; subst h
      have hj : j < 36 := by have := (Array.getElem?_eq_some_iff.1 hu).1; rwa [shC_size] at this
      rw [List.getElem?_append_left (by rw [shC_len]; omega), Array.getElem?_toList, show 0 * 36 + j = j by omega]; exact hu
    | succ k =>
      rw [List.getElem?_append_right (by rw [shC_len]; omega), shC_len, show (k + 1) * 36 + j - 36 = k * 36 + j by omega]
      exact ih k x (by simpa using h) j u hu
/-- Whose elements lie where: a slice of any memory. -/
def HoldsS (w : World) (v : Value) (l : List Sh) : Prop :=
  ∃ ao cap, v = .slice ao l.length cap ∧ (ao = none → l = [] ∧ cap = 0) ∧ ∀ ad, ao = some ad → l.length ≤ cap ∧ ∀ j u, (shsC l)[j]? = some u → w.cell? (ad.add j) = some u
theorem holdsS_nil (w : World) : HoldsS w (.slice none 0 0) [] := ⟨none, 0, rfl, fun _ => ⟨rfl, rfl⟩, fun _ h => by cases h⟩
theorem holdsS_below {w w' : World} {v : Value} {l : List Sh} (h : HoldsS w v l) (hb : Below w.heap.size w w') : HoldsS w' v l := by
  obtain ⟨ao, cap, rfl, hnil, hc⟩ := h
  refine ⟨ao, cap, rfl, hnil, fun ad had => ⟨(hc ad had).1, fun j u hu => ?_⟩⟩
  have h1 := (hc ad had).2 j u hu
  exact (World.cell?_of_block (hb.block (ad.add j).block (World.block_lt_of_cell? w _ h1))).trans h1
theorem holdsS_own {B : Nat} {T : TypeId} {w : World} {v : Value} {l : List Sh} (h : w.ownsRow B T 36 v l.length (shsC l)) : HoldsS w v l := by
  rcases h.2 with ⟨rfl, h0⟩ | ⟨g, cap, cur, rfl, rest⟩
  · obtain rfl : l = [] := List.eq_nil_of_length_eq_zero h0
    exact holdsS_nil w
  · exact ⟨some ⟨g, 0, none⟩, cap, rfl, (fun h => by cases h), fun ad had => ⟨rest.2.2.1, fun j u hu => by
      cases had; exact h.cells rfl j u hu⟩⟩
theorem holdsS_shape {w : World} {v : Value} {l : List Sh} (h : HoldsS w v l) (n : Nat) (hn : n = l.length) : ∃ ao cap, v = .slice ao n cap := by
  obtain ⟨ao, cap, rfl, -⟩ := h
  exact ⟨ao, cap, by rw [hn]⟩
theorem holdsS_at {w : World} {v : Value} {l : List Sh} (h : HoldsS w v l) (n k : Nat) (hn : l.length = n) (s : Sh) (hs : l[k]? = some s) : ∃ ad cap, v = .slice (some ad) n cap ∧ ∀ j u, (shC s)[j]? = some u → w.cell? ((ad.add (k * 36)).add j) = some u := by
  obtain ⟨ao, cap, rfl, hnil, hc⟩ := h
  cases ao with
  | none => obtain ⟨rfl, _⟩ := hnil rfl; simp at hs
  | some ad => exact ⟨ad, cap, by rw [hn], fun j y hy => by rw [addr_add2]; exact (hc ad rfl).2 _ _ (shsC_at l k s hs j y hy)⟩
/-- One loaded from wherever its cells lie. -/
theorem sh_run {P : Program} {o : Oper} {a : Act} {w : World} (ty : TypeId) (x : Operand) (ho : o.op = .load ty x) (A : Addr) (hx : a.eval x = .pointer (some A)) {s : Sh} {fs : Array Field} (hu : P.underlying ty = some (.struct fs))
    (hi : (P.info? ty).map (·.size) = some 36) (hc : ∀ j u, (shC s)[j]? = some u → w.cell? (A.add j) = some u) : (execOp a.eval o).run P w = .ok (.value (.agg (shC s))) w := by
  have hl : (loadCells A (shC s).toList.length).run P w = .ok (shC s).toList.toArray w := run_loadCells_list (P := P) w A _ (fun j u hj => hc j u (by rwa [Array.getElem?_toList] at hj))
  rw [shC_len, Array.toArray_toList] at hl
  cases hq : P.info? ty with
  | none => simp [hq] at hi
  | some i =>
    have hs : i.size = 36 := by simpa [hq] using hi
    unfold execOp
    simp [ho, hx, Instr.loadAt, Instr.sureAddr, loadVar, isAgg, run_underlying hu, sizeOf, typeInfo, hq, hs, hl]
theorem shA_yields {P : Program} {ops : Array Oper} {S : World → Prop} {o : Oper} {a : Act} (hw : Region.wanted o (yielded ops a.tmps) = true) (ty : TypeId) (x : Operand) (ho : o.op = .load ty x) (A : Addr) (hx : a.eval x = .pointer (some A)) {s : Sh} {fs : Array Field}
    (hu : P.underlying ty = some (.struct fs)) (hi : (P.info? ty).map (·.size) = some 36) (hS : ∀ w, S w → ∀ j u, (shC s)[j]? = some u → w.cell? (A.add j) = some u) : YieldsIf P ops S o (.agg (shC s)) a :=
  .inl ⟨hw, fun w h => sh_run ty x ho A hx hu hi (hS w h)⟩
theorem load_shA_on {P : Program} {ops : Array Oper} {rest : List Oper} {o : Oper} {a : Act} {w : World} {Q : Exit → Act → World → Prop} (hw : Region.wanted o (yielded ops a.tmps) = true) (ty : TypeId) (x : Operand) (ho : o.op = .load ty x) (A : Addr) (hx : a.eval x = .pointer (some A)) {s : Sh} {fs : Array Field}
    (hu : P.underlying ty = some (.struct fs)) (hi : (P.info? ty).map (·.size) = some 36) (hc : ∀ j u, (shC s)[j]? = some u → w.cell? (A.add j) = some u)
    (h : wpList P ops Q rest (a.put o.dst (.agg (shC s))) w) : wpList P ops Q (o :: rest) a w := by
  refine wpList_step fun K hK => ?_
  rw [if_pos hw]
  unfold Oper.wp
  rw [sh_run ty x ho A hx hu hi hc]
  exact hK _ _ h
/-- Those that are shown, appended to a slice of the call's own. -/
theorem append_shs {P : Program} {w : World} {ops : Array Oper} {rest : List Oper} {o : Oper} {a : Act} {Q : Exit → Act → World → Prop} (hgd : o.guard = none) (s x : Operand) (t : TypeId)
    (ho : o.op = .call { callee := .builtin .append, args := #[s, x], argTypes := #[t, t] })
    (base : Nat) (e : TypeId) (i : TypeInfo) (ht : P.underlying t = some (.slice e)) (hi : P.info? e = some i) (hz : (i.zero.map (·.cells.size), i.size, i.bytes) = (some 36, 36, 72))
    (v : Value) (l ys : List Sh) (hs : a.eval s = v) (hown : w.ownsRow base e 36 v l.length (shsC l)) (ad : Addr) (m c : Nat) (hx : a.eval x = .slice (some ad) m c) (hm : m = ys.length)
    (hc : ∀ j u, (shsC ys)[j]? = some u → w.cell? (ad.add j) = some u) (hlen : l.length + ys.length ≤ 100000) (hbase : base ≤ w.heap.size)
    (h : ∀ v' w', w'.ownsRow base e 36 v' (l ++ ys).length (shsC (l ++ ys)) → w.grownBy w' v.ownBlock → wpList P ops Q rest (a.put o.dst v') w') : wpList P ops Q (o :: rest) a w := by
  simp only [Prod.mk.injEq] at hz
  obtain ⟨hz1, hz2, hz3⟩ := hz
  subst hm
  cases hzz : i.zero with
  | none => rw [hzz] at hz1; cases hz1
  | some z =>
    rw [hzz] at hz1
    simp only [Option.map_some, Option.some.injEq] at hz1
    refine wpList_append_own w hgd s x t ho base e i z 36 72 ht hi hzz hz2 hz3 hz1 (by decide) v l.length (shsC l) hs hown ad ys.length c (shsC ys) hx (by rw [shsC_length]) hc (shsC_one ys)
      (by unfold maxLen; omega) (by omega) hbase fun v' w' h1 h2 _ => h v' w' (by rw [shsC_append, List.length_append]; exact h1) h2
/-- One changed in its place, among the cells. -/
theorem shsC_set : ∀ (l : List Sh) (k : Nat) (s : Sh), k < l.length → splice (shsC l) (k * 36) (shC s).toList = shsC (l.set k s)
  | [], k, _, h => by simp at h
  | y :: t, 0, s, _ => by
    unfold splice
    rw [shsC, Nat.zero_mul, List.take_zero, List.nil_append, Nat.zero_add, List.drop_append, shC_len, shC_len, List.drop_of_length_le (by rw [shC_len]; exact Nat.le_refl _)]
    simp [shsC]
  | y :: t, k + 1, s, h => by
    have ih := shsC_set t k s (by simpa using h)
    unfold splice at ih ⊢
    rw [shsC, show (k + 1) * 36 = (shC y).toList.length + k * 36 by rw [shC_len]; omega, List.take_length_add_append, Nat.add_assoc, List.drop_length_add_append, List.append_assoc, ih]
    rfl
theorem splice_take {α : Type} (L cs : List α) (off m : Nat) (h : off + cs.length ≤ m) (hm : m ≤ L.length) : (splice L off cs).take m = splice (L.take m) off cs := by
  unfold splice
  rw [List.take_append, List.length_take, Nat.min_eq_left (by omega), List.take_append, List.take_take, Nat.min_eq_right (by omega), List.take_of_length_le (l := cs) (by omega), List.take_take, Nat.min_eq_left (by omega), List.drop_take]
  congr 3
  omega
/-- One stored in its place, in a slice of the call's own. -/
theorem store_sh {P : Program} {ops : Array Oper} {rest : List Oper} {o : Oper} {a : Act} {w : World} {Q : Exit → Act → World → Prop} (hgd : o.guard = none) (ty : TypeId) (x y : Operand) (ho : o.op = .store ty x y) (hd : o.dst = none)
    (B : Nat) (T : TypeId) (g n cap k : Nat) (l : List Sh) (hown : w.ownsRow B T 36 (.slice (some ⟨g, 0, none⟩) n cap) n (shsC l)) (hn : n = l.length) (hk : k < n) (off : Nat) (hoff : off = k * 36) (hx : a.eval x = .pointer (some ⟨g, off, none⟩)) (s : Sh) (hy : a.eval y = .agg (shC s))
    (hi : (P.info? ty).map (·.size) = some 36) (h : ∀ w', w'.ownsRow B T 36 (.slice (some ⟨g, 0, none⟩) n cap) n (shsC (l.set k s)) → Solo g w w' → wpList P ops Q rest a w') : wpList P ops Q (o :: rest) a w := by
  subst hoff
  rcases hown.2 with ⟨h0, -⟩ | ⟨g', cap', cur, e, h1, h2, h3, h4, h5, h6⟩
  · cases h0
  · simp only [Value.slice.injEq, Option.some.injEq, Addr.mk.injEq] at e
    obtain ⟨⟨rfl, -⟩, -, rfl⟩ := e
    have hcl : cur.toList.length = cap * 36 := by rw [Array.length_toList, h5]
    have hfit : k * 36 + (shC s).toList.length ≤ cur.toList.length := by rw [shC_len, hcl]; omega
    refine store_in hgd ty x y ho hd g (k * 36) cur.toList (shC s).toList T (by rw [Array.toArray_toList]; exact h2) hx (by rw [hy, Array.toArray_toList]) (by rw [hi, shC_len]) hfit (fun v hv => (Array.all_eq_true_iff_forall_mem.1 (shC_one s)) v (by simpa using hv)) fun w' hg hs => h w' ?_ hs
    refine ⟨by rw [shsC_length, List.length_set, hn], .inr ⟨g, cap, _, rfl, h1, hg, h3, h4, ?_, ?_⟩⟩
    · rw [List.size_toArray, length_splice _ _ _ hfit, hcl]
    · rw [List.toList_toArray, splice_take _ _ _ _ (by rw [shC_len]; omega) (by rw [hcl]; exact Nat.mul_le_mul_right 36 h3), h6, shsC_set l k s (by omega)]
end Go.Proofs.YtppmbdpfledejaaGreatDoor
namespace Go.Proofs.YtppmbdpfledejaaGreatDoor
open Go.RowKit
def putE (e : Ev) : Bool := decide (e.kind = 1)
/-- f keeps e from its path itself. -/
def hideE (f e : Ev) : Bool := underP f.path e.path || (f.path == e.path && decide (0 < cmpD f.r f.q e.r e.q))
def firstE (h : List Ev) (e : Ev) : Bool := (h.filter putE).all fun f => !hideE f e
def shE (h : List Ev) (e : Ev) : Sh := ⟨if firstE h e then e.path else copyL e.path e.r e.q, e.r, e.q, e.sum, e.size⟩
def showsE (h : List Ev) : List Sh := (h.filter putE).map (shE h)
theorem putE_iff (e : Ev) : putE e = true ↔ e.kind = 1 := by simp [putE]
theorem firstE_iff (h : List Ev) (e : Ev) : firstE h e = true ↔ ∀ f ∈ h, putE f = true → underP f.path e.path = false ∧ (f.path = e.path → ¬ 0 < cmpD f.r f.q e.r e.q) := by
  unfold firstE hideE
  rw [List.all_eq_true]
  constructor
  · intro H f hf hp
    have h1 := H f (List.mem_filter.2 ⟨hf, hp⟩)
    simp only [Bool.not_eq_true', Bool.or_eq_false_iff, Bool.and_eq_false_iff, beq_eq_false_iff_ne, decide_eq_false_iff_not] at h1
    exact ⟨h1.1, fun hpp => h1.2.resolve_left fun h => h hpp⟩
  · intro H f hf
    obtain ⟨hf, hp⟩ := List.mem_filter.1 hf
    obtain ⟨h1, h2⟩ := H f hf hp
    simp only [Bool.not_eq_true', Bool.or_eq_false_iff, Bool.and_eq_false_iff, beq_eq_false_iff_ne, decide_eq_false_iff_not]
    refine ⟨h1, ?_⟩
    by_cases hpp : f.path = e.path
    · exact .inr (h2 hpp)
    · exact .inl hpp
theorem firstE_not (h : List Ev) (e : Ev) (f : Ev) (hf : f ∈ h) (hp : putE f = true) (hx : underP f.path e.path = true ∨ (f.path = e.path ∧ 0 < cmpD f.r f.q e.r e.q)) : firstE h e = false := by
  cases hh : firstE h e with
  | false => rfl
  | true =>
    obtain ⟨h1, h2⟩ := (firstE_iff h e).1 hh f hf hp
    rcases hx with hx | ⟨hx, hy⟩
    · rw [h1] at hx; cases hx
    · exact absurd hy (h2 hx)
/-- Of each path at which there is a Put the dot that no other one is above. -/
def TopsOf (l : List Ev) (m : List UInt8 → Option (Int × Int)) : Prop :=
  ∀ p, (m p = none → ∀ e ∈ l, putE e = true → e.path ≠ p) ∧ ∀ t, m p = some t → (∃ e ∈ l, putE e = true ∧ e.path = p ∧ e.r = t.1 ∧ e.q = t.2) ∧ ∀ e ∈ l, putE e = true → e.path = p → cmpD e.r e.q t.1 t.2 ≤ 0
def putT (m : List UInt8 → Option (Int × Int)) (e : Ev) : List UInt8 → Option (Int × Int) := fun p => if p = e.path then some (e.r, e.q) else m p
theorem tops_nil : TopsOf [] fun _ => none := fun p => ⟨fun _ e h => (by cases h), fun t h => (by cases h)⟩
theorem cmpD_self (r q : Int) : cmpD r q r q = 0 := (cmpD_zero r q r q).2 ⟨rfl, rfl⟩
theorem cmpD_up {a b c d e f : Int} (h1 : cmpD a b c d ≤ 0) (h2 : 0 < cmpD e f c d) : cmpD a b e f ≤ 0 := by
  rcases cmp_cases a b c d with ⟨x, y⟩ | ⟨x, y⟩ | ⟨x, y⟩ <;> rcases cmp_cases e f c d with ⟨u, v⟩ | ⟨u, v⟩ | ⟨u, v⟩ <;> rcases cmp_cases a b e f with ⟨i, j⟩ | ⟨i, j⟩ | ⟨i, j⟩ <;> omega
theorem cmpD_turn (a b c d : Int) : 0 < cmpD a b c d ↔ cmpD c d a b < 0 := by
  rcases cmp_cases a b c d with ⟨x, y⟩ | ⟨x, y⟩ | ⟨x, y⟩ <;> rcases cmp_cases c d a b with ⟨u, v⟩ | ⟨u, v⟩ | ⟨u, v⟩ <;> omega
theorem tops_keep {l : List Ev} {m : List UInt8 → Option (Int × Int)} {e : Ev} (H : TopsOf l m) (h : putE e = false ∨ ∃ t, m e.path = some t ∧ ¬ 0 < cmpD e.r e.q t.1 t.2) : TopsOf (l ++ [e]) m := by
  intro p
  obtain ⟨h1, h2⟩ := H p
  refine ⟨fun hm f hf hp => ?_, fun t ht => ⟨?_, fun f hf hp hpp => ?_⟩⟩
  · rcases List.mem_append.1 hf with hf | hf
    · exact h1 hm f hf hp
    · rw [List.mem_singleton.1 hf] at hp ⊢
      rcases h with h | ⟨t, ht, -⟩
      · rw [h] at hp; cases hp
      · intro e1; rw [e1, hm] at ht; cases ht
  · obtain ⟨f, hf, hx⟩ := (h2 t ht).1
    exact ⟨f, List.mem_append.2 (.inl hf), hx⟩
  · rcases List.mem_append.1 hf with hf | hf
    · exact (h2 t ht).2 f hf hp hpp
    · rw [List.mem_singleton.1 hf] at hp hpp ⊢
      rcases h with h | ⟨u, hu, hn⟩
      · rw [h] at hp; cases hp
      · rw [hpp, ht] at hu; cases hu; omega
theorem tops_put {l : List Ev} {m : List UInt8 → Option (Int × Int)} {e : Ev} (H : TopsOf l m) (he : putE e = true) (h : m e.path = none ∨ ∃ t, m e.path = some t ∧ 0 < cmpD e.r e.q t.1 t.2) : TopsOf (l ++ [e]) (putT m e) := by
  intro p
  obtain ⟨h1, h2⟩ := H p
  unfold putT
  by_cases hpe : p = e.path
  · subst hpe
    rw [if_pos rfl]
    refine ⟨fun hm => (by cases hm), fun t ht => ?_⟩
    cases ht
    refine ⟨⟨e, by simp, he, rfl, rfl, rfl⟩, fun f hf hp hpp => ?_⟩
    rcases List.mem_append.1 hf with hf | hf
    · rcases h with h | ⟨t, ht, hlt⟩
      · exact absurd hpp (h1 h f hf hp)
      · exact cmpD_up ((h2 t ht).2 f hf hp hpp) hlt
    · rw [List.mem_singleton.1 hf, cmpD_self]; exact Int.le_refl _
  · rw [if_neg hpe]
    refine ⟨fun hm f hf hp => ?_, fun t ht => ⟨?_, fun f hf hp hpp => ?_⟩⟩
    · rcases List.mem_append.1 hf with hf | hf
      · exact h1 hm f hf hp
      · rw [List.mem_singleton.1 hf]; exact fun e1 => hpe e1.symm
    · obtain ⟨f, hf, hx⟩ := (h2 t ht).1
      exact ⟨f, List.mem_append.2 (.inl hf), hx⟩
    · rcases List.mem_append.1 hf with hf | hf
      · exact (h2 t ht).2 f hf hp hpp
      · rw [List.mem_singleton.1 hf] at hpp; exact absurd hpp.symm hpe
/-- An event is seen at its path itself, if it is the top there, and nothing lies below. -/
theorem first_tops {h : List Ev} {m : List UInt8 → Option (Int × Int)} (H : TopsOf h m) {ks : List (List UInt8)} (hk : ∀ p, p ∈ ks ↔ (m p).isSome = true) {e : Ev} (he : e ∈ h) (hp : putE e = true) {t : Int × Int} (ht : m e.path = some t) :
    firstE h e = (decide (e.r = t.1 ∧ e.q = t.2) && !ks.any fun p => underP p e.path) := by
  obtain ⟨⟨f, hf, hpf, hff, hr, hq⟩, hmax⟩ := (H e.path).2 t ht
  by_cases hd : e.r = t.1 ∧ e.q = t.2
  · rw [decide_eq_true hd, Bool.true_and]
    cases ha : ks.any fun p => underP p e.path with
    | true =>
      obtain ⟨p, hpk, hu⟩ := List.any_eq_true.1 ha
      obtain ⟨u, hu2⟩ := Option.isSome_iff_exists.1 ((hk p).1 hpk)
      obtain ⟨⟨g, hg, hpg, hgg, -⟩, -⟩ := (H p).2 u hu2
      exact firstE_not h e g hg hpg (.inl (by rw [hgg]; exact hu))
    | false =>
      refine (firstE_iff h e).2 fun g hg hpg => ⟨?_, fun hgp hlt => ?_⟩
      · cases hu : underP g.path e.path with
        | false => rfl
        | true =>
          have : (ks.any fun p => underP p e.path) = true := List.any_eq_true.2 ⟨g.path, (hk _).2 (by
            cases hm : m g.path with
            | some _ => rfl
            | none => exact absurd rfl ((H g.path).1 hm g hg hpg)), hu⟩
          rw [ha] at this; cases this
      · have := hmax g hg hpg hgp
        rw [hd.1, hd.2] at hlt; omega
  · rw [decide_eq_false hd, Bool.false_and]
    refine firstE_not h e f hf hpf (.inr ⟨hff, ?_⟩)
    have h1 := hmax e he hp rfl
    rw [hr, hq]
    rcases cmp_cases e.r e.q t.1 t.2 with ⟨x, y⟩ | ⟨x, y⟩ | ⟨x, y⟩
    · exact absurd y hd
    · exact (cmpD_turn _ _ _ _).2 (by omega)
    · omega
/-! ### what lies below, found by halving -/
def leastU (d : List UInt8) : List UInt8 := d ++ [47, 0]
theorem bl_append (d a b : List UInt8) : Op.bytesLess (d ++ a) (d ++ b) = Op.bytesLess a b := by
  induction d with
  | nil => rfl
  | cons c t ih => rw [List.cons_append, List.cons_append, Op.bytesLess]; simp [ih]
theorem under_least {p d : List UInt8} (h : underP p d = true) : Op.bytesLess p (leastU d) = false := by
  obtain ⟨r, hr, rfl⟩ := (under_iff p d).1 h
  unfold leastU
  rw [bl_append]
  cases r with
  | nil => exact absurd rfl hr
  | cons c t =>
    rw [Op.bytesLess, Op.bytesLess]
    simp
    cases t <;> simp [Op.bytesLess]
theorem between_under {x p d : List UInt8} (hp : underP p d = true) (h1 : Op.bytesLess x (leastU d) = false) (h2 : Op.bytesLess p x = false) : underP x d = true := by
  obtain ⟨r, hr, rfl⟩ := (under_iff p d).1 hp
  clear hp
  rw [under_iff]
  unfold leastU at h1
  induction d generalizing x with
  | nil =>
    simp only [List.nil_append] at h1 h2 ⊢
    cases x with
    | nil => simp [Op.bytesLess] at h1
    | cons a t =>
      simp only [Op.bytesLess] at h1 h2
      have ha : a = 47 := by
        rcases UInt8.lt_or_lt_of_ne (a := a) (b := 47) |> fun f => Classical.em (a = 47) with h | h
        · exact h
        · exfalso
          rcases UInt8.lt_or_lt_of_ne h with h | h
          · simp [h] at h1
          · simp [h] at h2
      subst ha
      refine ⟨t, fun e => ?_, rfl⟩
      subst e
      simp [Op.bytesLess] at h1
  | cons c d ih =>
    simp only [List.cons_append] at h1 h2 ⊢
    cases x with
    | nil => simp [Op.bytesLess] at h1
    | cons a t =>
      simp only [Op.bytesLess] at h1 h2
      have ha : a = c := by
        rcases Classical.em (a = c) with h | h
        · exact h
        · exfalso
          rcases UInt8.lt_or_lt_of_ne h with h | h
          · simp [h] at h1
          · simp [h] at h2
      subst ha
      simp at h1 h2
      obtain ⟨q, hq, e⟩ := ih (x := t) h1 h2
      exact ⟨q, hq, by rw [e]⟩
/-- The first one that isn't below the least: if any lies below, it does. -/
theorem search_under {ks : List (List UInt8)} (hk : ks.Pairwise fun a b => Op.bytesLess a b = true) (d : List UInt8) {i : Nat} (hi : i ≤ ks.length) (h1 : ∀ t p, t < i → ks[t]? = some p → Op.bytesLess p (leastU d) = true) (h2 : ∀ p, ks[i]? = some p → Op.bytesLess p (leastU d) = false) :
    (ks.any fun p => underP p d) = match ks[i]? with | some p => underP p d | none => false := by
  cases ha : ks.any fun p => underP p d with
  | true =>
    obtain ⟨p, hp, hu⟩ := List.any_eq_true.1 ha
    obtain ⟨j, hj, rfl⟩ := List.getElem_of_mem hp
    have hij : i ≤ j := by
      rcases Nat.lt_or_ge j i with h | h
      · have := h1 j _ h (List.getElem?_eq_getElem hj)
        rw [under_least hu] at this; cases this
      · exact h
    have hil : i < ks.length := by omega
    rw [List.getElem?_eq_getElem hil]
    refine (between_under hu (h2 _ (List.getElem?_eq_getElem hil)) ?_).symm
    rcases Nat.lt_or_ge i j with h | h
    · exact bl_asymm (List.pairwise_iff_getElem.1 hk i j hil hj h)
    · obtain rfl : i = j := by omega
      exact bytesLess_irrefl _
  | false =>
    cases hx : ks[i]? with
    | none => rfl
    | some p => exact (Bool.eq_false_iff.2 fun hu => by rw [Bool.eq_false_iff] at ha; exact ha (List.any_eq_true.2 ⟨p, List.mem_of_getElem? hx, hu⟩)).symm
/-! ### of heads -/
end Go.Proofs.YtppmbdpfledejaaGreatDoor
namespace Go.Proofs.YtppmbdpfledejaaGreatDoor
open Go.RowKit
theorem addr_zeroS (a : Addr) : a.add 0 = a := by unfold Addr.add; split <;> simp_all
theorem sh_fieldS {w : World} {A : Addr} {s : Sh} (hc : ∀ j u, (shC s)[j]? = some u → w.cell? (A.add j) = some u) (j : Nat) (hj : j ≠ 0) (u : Value) (hu : (shC s)[j]? = some u) : w.cell? ⟨A.block, A.off + j, none⟩ = some u := by
  have h := hc j u hu
  unfold Addr.add at h
  rw [if_neg hj] at h
  exact h
theorem sh_field0 {w : World} {A : Addr} {s : Sh} (hc : ∀ j u, (shC s)[j]? = some u → w.cell? (A.add j) = some u) (u : Value) (hu : (shC s)[0]? = some u) : w.cell? A = some u := by
  have h := hc 0 u hu
  rwa [addr_zeroS] at h
/-- A block that is one that is shown. -/
def ShAt (w : World) (B : Nat) (T : TypeId) (s : Sh) : Prop := w.heap[B]? = some (.cells (shC s) T (0, 0))
theorem shAt_cell {w : World} {N : Nat} {T : TypeId} {s : Sh} (h : ShAt w N T s) (j : Nat) (u : Value) (hu : (shC s)[j]? = some u) : w.cell? ⟨N, j, none⟩ = some u := by
  unfold ShAt at h
  simp only [World.cell?, h]
  exact hu
theorem shAt_addr {w : World} {N : Nat} {T : TypeId} {s : Sh} (h : ShAt w N T s) : ∀ j u, (shC s)[j]? = some u → w.cell? ((⟨N, 0, none⟩ : Addr).add j) = some u := fun j u hu => by
  rw [Addr.add_lit, Nat.zero_add]; exact shAt_cell h j u hu
theorem shAt_one {w : World} {N : Nat} {T : TypeId} {s : Sh} (h : ShAt w N T s) : ∀ j u, (shsC [s])[j]? = some u → w.cell? ((⟨N, 0, none⟩ : Addr).add j) = some u := fun j u hu => by
  rw [shsC, shsC, List.append_nil, Array.getElem?_toList] at hu
  exact shAt_addr h j u hu
theorem shAt_kept {w w' : World} {B : Nat} {T : TypeId} {s : Sh} (h : ShAt w B T s) (hb : Below w.heap.size w w') : ShAt w' B T s :=
  (hb.block B (Array.getElem?_eq_some_iff.1 h).1).trans h
theorem shAt_cells {w : World} {B : Nat} {T : TypeId} {s : Sh} (h : ShAt w B T s) : w.cell? ⟨B, 0, none⟩ = some (.string (str s.path)) ∧ w.cell? ⟨B, 1, none⟩ = some (.int .i64 s.r) ∧ w.cell? ⟨B, 2, none⟩ = some (.int .i64 s.q) ∧ w.cell? ⟨B, 35, none⟩ = some (.int .i64 s.size) :=
  ⟨shAt_cell h _ _ (shC_at s).1, shAt_cell h _ _ (shC_at s).2.1, shAt_cell h _ _ (shC_at s).2.2.1, shAt_cell h _ _ (shC_at s).2.2.2⟩
theorem shC_sum (s : Sh) (j : Nat) (u : Value) (h : (row .u8 32 s.sum).toList[j]? = some u) : (shC s)[3 + j]? = some u := by
  have hj : j < 32 := by have := (List.getElem?_eq_some_iff.1 h).1; simpa [row_size] using this
  rw [Array.getElem?_toList] at h
  unfold shC
  rw [Array.getElem?_append_left (by simp [row_size]; omega), Array.getElem?_append_right (by simp)]
  simpa using h
theorem shAt_sum {w : World} {B : Nat} {T : TypeId} {s : Sh} (h : ShAt w B T s) : w.rangeAt B 3 (row .u8 32 s.sum).toList := fun j u hu => shAt_cell h _ _ (shC_sum s j u hu)
/-- A binary operation whose answer is known. -/
theorem binop_on {P : Program} {ops : Array Oper} {rest : List Oper} {o : Oper} {a : Act} {w : World} {Q : Exit → Act → World → Prop} (hw : Region.wanted o (yielded ops a.tmps) = true) (op : BinOp) (t rt : TypeId) (x y : Operand) (ho : o.op = .binOp op t x y rt) (u v r : Value) (hx : a.eval x = u) (hy : a.eval y = v)
    (hg : ∀ w, (eqGuard op t x y u v).run P w = .ok () w) (hq : ∀ w, (binOp op t u v).run P w = .ok r w) (h : wpList P ops Q rest (a.put o.dst r) w) : wpList P ops Q (o :: rest) a w := by
  refine wpList_step fun K hK => ?_
  rw [if_pos hw]
  unfold Oper.wp
  have e : (execOp a.eval o).run P w = .ok (.value r) w := by simp only [execOp, ho, hx, hy, Sem.run_bind, hg, hq, Result.andThen_ok, Sem.run_pure]
  rw [e]
  exact hK _ _ h
theorem dots_neq {r q r' q' : Int} {b : Bool} (hb : b = !(decide (r = r') && decide (q = q'))) : ∀ w, (binOp .neq 29 (.agg #[.int .i64 r, .int .i64 q]) (.agg #[.int .i64 r', .int .i64 q'])).run Tryz.prog w = .ok (.bool b) w := fun w => by
  subst hb
  go_simp; by_cases h1 : r = r' <;> by_cases h2 : q = q' <;> simp_all
theorem dots_guard (op : BinOp) (x y : Operand) (xs ys : Array Value) : ∀ w, (eqGuard op 29 x y (.agg xs) (.agg ys)).run Tryz.prog w = .ok () w := fun w => run_eqGuard_agg w op 29 x y xs ys (by kernel_rfl)
section
variable (w : World)
end
end Go.Proofs.YtppmbdpfledejaaGreatDoor
namespace Go.Proofs.YtppmbdpfledejaaGreatDoor
open Go.RowKit
/-- The cells of a Hash. -/
def stC (h p : Nat → BitVec 32) (n : Nat) : List Value := rowL .u32 8 h ++ (rowL .u8 64 p ++ [.int .i64 n])
theorem rowL_toArray (k : IntKind) (n : Nat) (f : Nat → BitVec 32) : (rowL k n f).toArray = row k n f := rfl
theorem rowL_get (k : IntKind) (n : Nat) (f : Nat → BitVec 32) (i : Nat) (h : i < n) : (rowL k n f)[i]? = some (.int k (u32 (f i))) := by simp [rowL, h]
theorem stC_length (h p : Nat → BitVec 32) (n : Nat) : (stC h p n).length = 73 := by simp [stC, rowL_length]
theorem stC_word (h p : Nat → BitVec 32) (n i : Nat) (hi : i < 8) : (stC h p n)[i]? = some (.int .u32 (u32 (h i))) := by
  unfold stC; rw [List.getElem?_append_left (by rw [rowL_length]; exact hi), rowL_get _ _ _ _ hi]
theorem stC_byte (h p : Nat → BitVec 32) (n i : Nat) (hi : i < 64) : (stC h p n)[8 + i]? = some (.int .u8 (u32 (p i))) := by
  unfold stC
  rw [List.getElem?_append_right (by rw [rowL_length]; omega), rowL_length, List.getElem?_append_left (by rw [rowL_length]; omega), show 8 + i - 8 = i from by omega, rowL_get _ _ _ _ hi]
theorem stC_len (h p : Nat → BitVec 32) (n : Nat) : (stC h p n)[72]? = some (.int .i64 n) := by
  unfold stC
  rw [List.getElem?_append_right (by rw [rowL_length]; omega), rowL_length, List.getElem?_append_right (by rw [rowL_length]; omega), rowL_length]; rfl
theorem stC_one (h p : Nat → BitVec 32) (n : Nat) : ∀ v ∈ stC h p n, v.oneCell' = true := by
  intro v hv
  simp only [stC, List.mem_append, List.mem_singleton] at hv
  rcases hv with hv | hv | rfl
  · exact rowL_one _ _ _ v hv
  · exact rowL_one _ _ _ v hv
  · rfl
theorem stC_ext (L : List Value) (h p : Nat → BitVec 32) (n : Nat) (hl : L.length = 73) (h0 : ∀ i, i < 8 → L[i]? = some (.int .u32 (u32 (h i)))) (h1 : ∀ i, i < 64 → L[8 + i]? = some (.int .u8 (u32 (p i)))) (h2 : L[72]? = some (.int .i64 n)) : L = stC h p n := by
  apply List.ext_getElem?
  intro i
  by_cases a : i < 8
  · rw [h0 i a, stC_word _ _ _ _ a]
  · by_cases b : i < 72
    · obtain ⟨j, rfl⟩ : ∃ j, i = 8 + j := ⟨i - 8, by omega⟩
      rw [h1 j (by omega), stC_byte _ _ _ _ (by omega)]
    · by_cases c : i = 72
      · subst c; rw [h2, stC_len]
      · rw [List.getElem?_eq_none (by omega), List.getElem?_eq_none (by rw [stC_length]; omega)]
/-- The waiting bytes with some laid over them. -/
def over (p : Nat → BitVec 32) (r : Nat) (cs : List (BitVec 32)) (i : Nat) : BitVec 32 := if r ≤ i ∧ i < r + cs.length then cs.getD (i - r) 0#32 else p i
theorem stC_copy (h p : Nat → BitVec 32) (n r : Nat) (cs : List (BitVec 32)) (hr : r + cs.length ≤ 64) : splice (stC h p n) (8 + r) (bytesL cs) = stC h (over p r cs) n := by
  have hb := bytesL_length cs
  have hl := stC_length h p n
  apply stC_ext
  · rw [length_splice _ _ _ (by omega), hl]
  · intro i hi; rw [splice_get _ _ _ (by omega), if_pos (by omega), stC_word _ _ _ _ hi]
  · intro i hi
    rw [splice_get _ _ _ (by omega)]
    unfold over
    by_cases a : r ≤ i
    · by_cases b : i < r + cs.length
      · rw [if_neg (by omega), if_pos (by omega), if_pos ⟨a, b⟩, show 8 + i - (8 + r) = i - r from by omega, bytesL_get _ _ (by omega)]
      · rw [if_neg (by omega), if_neg (by omega), if_neg (by omega), stC_byte _ _ _ _ hi]
    · rw [if_pos (by omega), if_neg (by omega), stC_byte _ _ _ _ hi]
  · rw [splice_get _ _ _ (by omega), if_neg (by omega), if_neg (by omega), stC_len]
theorem stC_words (h h' p : Nat → BitVec 32) (n : Nat) : splice (stC h p n) 0 (rowL .u32 8 h') = stC h' p n := by
  have hb := rowL_length .u32 8 h'
  have hl := stC_length h p n
  apply stC_ext
  · rw [length_splice _ _ _ (by omega), hl]
  · intro i hi; rw [splice_get _ _ _ (by omega), if_neg (by omega), if_pos (by omega), Nat.sub_zero, rowL_get _ _ _ _ hi]
  · intro i hi; rw [splice_get _ _ _ (by omega), if_neg (by omega), if_neg (by omega), stC_byte _ _ _ _ hi]
  · rw [splice_get _ _ _ (by omega), if_neg (by omega), if_neg (by omega), stC_len]
theorem stC_set (h p : Nat → BitVec 32) (n m : Nat) : (stC h p n).toArray.setIfInBounds 72 (.int .i64 m) = (stC h p m).toArray := by
  rw [List.setIfInBounds_toArray]
  rfl
theorem range_words {w : World} {g : Nat} {t : TypeId} {h p : Nat → BitVec 32} {n : Nat} (e : w.heap[g]? = some (.cells (stC h p n).toArray t (0, 0))) : w.rangeAt g 0 (rowL .u32 8 h) := by
  intro j v hv
  have hj : j < 8 := by have := (List.getElem?_eq_some_iff.1 hv).1; rwa [rowL_length] at this
  rw [Nat.zero_add, cell_of_row w g j _ _ _ e, List.getElem?_toArray, stC_word _ _ _ _ hj, ← hv, rowL_get _ _ _ _ hj]
theorem range_bytes {w : World} {g : Nat} {t : TypeId} {h p : Nat → BitVec 32} {n : Nat} (e : w.heap[g]? = some (.cells (stC h p n).toArray t (0, 0))) : w.rangeAt g 8 (rowL .u8 64 p) := by
  intro j v hv
  have hj : j < 64 := by have := (List.getElem?_eq_some_iff.1 hv).1; rwa [rowL_length] at this
  rw [cell_of_row w g _ _ _ _ e, List.getElem?_toArray, stC_byte _ _ _ _ hj, ← hv, rowL_get _ _ _ _ hj]
theorem cell_len {w : World} {g : Nat} {t : TypeId} {h p : Nat → BitVec 32} {n : Nat} (e : w.heap[g]? = some (.cells (stC h p n).toArray t (0, 0))) : w.cell? ⟨g, 72, none⟩ = some (.int .i64 n) := by
  rw [cell_of_row w g _ _ _ _ e, List.getElem?_toArray, stC_len]
theorem sched_congr (f g : Nat → BitVec 32) (e : ∀ i, i < 64 → f i = g i) (t : Nat) : sched f t = sched g t := by
  induction t using Nat.strongRecOn with
  | _ t ih =>
    by_cases h : t < 16
    · rw [sched_lo _ _ h, sched_lo _ _ h, e _ (by omega), e _ (by omega), e _ (by omega), e _ (by omega)]
    · rw [sched_hi f t (by omega), sched_hi g t (by omega), ih (t - 2) (by omega), ih (t - 7) (by omega), ih (t - 15) (by omega), ih (t - 16) (by omega)]
theorem compressed_congr (h f g : Nat → BitVec 32) (e : ∀ i, i < 64 → f i = g i) : compressed h f = compressed h g := by
  funext i
  rw [← compressed_def, ← compressed_def, show sched f = sched g from funext (sched_congr f g e)]
/-- The words behind whole blocks hang on these blocks' bytes alone. -/
theorem wordsF_congr (asx bs : List (BitVec 32)) (k : Nat) (h : ∀ i, i < 64 * k → asx.getD i 0#32 = bs.getD i 0#32) : wordsF asx k = wordsF bs k := by
  induction k with
  | zero => rw [wordsF_zero, wordsF_zero]
  | succ k ih => rw [wordsF_succ, wordsF_succ, ih fun i hi => h i (by omega)]; exact compressed_congr _ _ _ fun i hi => h _ (by omega)
theorem getD_left (asx xs : List (BitVec 32)) (i : Nat) (h : i < asx.length) : (asx ++ xs).getD i 0#32 = asx.getD i 0#32 := by
  simp [List.getElem?_append_left h]
theorem getD_right (asx xs : List (BitVec 32)) (i : Nat) (h : asx.length ≤ i) : (asx ++ xs).getD i 0#32 = xs.getD (i - asx.length) 0#32 := by
  simp [List.getElem?_append_right h]
/-- Bytes more leave the words behind the whole blocks. -/
theorem words_more (asx xs : List (BitVec 32)) : wordsF (asx ++ xs) (asx.length / 64) = wordsF asx (asx.length / 64) :=
  wordsF_congr _ _ _ fun i hi => getD_left _ _ _ (by omega)
/-- Bytes more, laid behind those that wait, are the block's. -/
theorem over_more (asx xs : List (BitVec 32)) (p : Nat → BitVec 32) (hp : ∀ i, i < asx.length % 64 → p i = blockF asx (asx.length / 64) i) (i : Nat) (hi : i < asx.length % 64 + xs.length) :
    over p (asx.length % 64) xs i = blockF (asx ++ xs) (asx.length / 64) i := by
  unfold over blockF
  by_cases h : asx.length % 64 ≤ i
  · rw [if_pos ⟨h, hi⟩, getD_right _ _ _ (by omega)]; congr 1; omega
  · rw [if_neg (by omega), getD_left _ _ _ (by omega), hp _ (by omega)]; rfl
/-- What a Hash holds, where these bytes were written. -/
def Holds (T : TypeId) (w : World) (g : Nat) (bs : List (BitVec 32)) : Prop :=
  ∃ p, w.heap[g]? = some (.cells (stC (wordsF bs (bs.length / 64)) p bs.length).toArray T (0, 0)) ∧ ∀ i, i < bs.length % 64 → p i = blockF bs (bs.length / 64) i
/-- The block is full: its words. -/
theorem holds_full {T : TypeId} {w : World} {g : Nat} {asx xs : List (BitVec 32)} {p q : Nat → BitVec 32} (hp : ∀ i, i < asx.length % 64 → p i = blockF asx (asx.length / 64) i) (hl : asx.length % 64 + xs.length = 64)
    (h : w.heap[g]? = some (.cells (stC (compressed (wordsF asx (asx.length / 64)) (over p (asx.length % 64) xs)) q (asx ++ xs).length).toArray T (0, 0))) : Holds T w g (asx ++ xs) := by
  have e : (asx ++ xs).length / 64 = asx.length / 64 + 1 := by rw [List.length_append]; omega
  have e0 : (asx ++ xs).length % 64 = 0 := by rw [List.length_append]; omega
  refine ⟨q, ?_, fun i hi => by omega⟩
  rw [h, e, wordsF_succ, words_more, compressed_congr _ _ _ fun i hi => over_more asx xs p hp i (by omega)]
/-- The block is not full yet. -/
theorem holds_part {T : TypeId} {w : World} {g : Nat} {asx xs : List (BitVec 32)} {p : Nat → BitVec 32} (hp : ∀ i, i < asx.length % 64 → p i = blockF asx (asx.length / 64) i) (hl : asx.length % 64 + xs.length < 64)
    (h : w.heap[g]? = some (.cells (stC (wordsF asx (asx.length / 64)) (over p (asx.length % 64) xs) (asx ++ xs).length).toArray T (0, 0))) : Holds T w g (asx ++ xs) := by
  have e : (asx ++ xs).length / 64 = asx.length / 64 := by rw [List.length_append]; omega
  have e0 : (asx ++ xs).length % 64 = asx.length % 64 + xs.length := by rw [List.length_append]; omega
  refine ⟨over p (asx.length % 64) xs, ?_, fun i hi => ?_⟩
  · rw [h, e, words_more]
  · rw [e, over_more asx xs p hp i (by omega)]
end Go.Proofs.YtppmbdpfledejaaGreatDoor
namespace Go.Proofs.YtppmbdpfledejaaGreatDoor
open Go.RowKit
set_option maxRecDepth 100000 in
set_option maxHeartbeats 400000 in
theorem rot_any (x : BitVec 32) (n : Int) (w : World) :
    Calls Tryz.prog 165 #[.int .u32 (u32 x), .int .i64 n] w fun e w' => e = .returned (.int .u32 (u32 (rot x n))) ∧ w = w' := by
  go_enter Tryz.func165, Tryz.ntmps165
  go_wp2
  go_ret
  exact ⟨rfl, rfl⟩
set_option maxRecDepth 100000 in
set_option maxHeartbeats 400000 in
theorem ch_any (x y z : BitVec 32) (w : World) :
    Calls Tryz.prog 153 #[.int .u32 (u32 x), .int .u32 (u32 y), .int .u32 (u32 z)] w fun e w' => e = .returned (.int .u32 (u32 (ch x y z))) ∧ w = w' := by
  go_enter Tryz.func153, Tryz.ntmps153
  go_wp2
  go_ret
  exact ⟨rfl, rfl⟩
set_option maxRecDepth 100000 in
set_option maxHeartbeats 400000 in
theorem maj_any (x y z : BitVec 32) (w : World) :
    Calls Tryz.prog 155 #[.int .u32 (u32 x), .int .u32 (u32 y), .int .u32 (u32 z)] w fun e w' => e = .returned (.int .u32 (u32 (maj x y z))) ∧ w = w' := by
  go_enter Tryz.func155, Tryz.ntmps155
  go_wp2
  go_ret
  exact ⟨rfl, rfl⟩
set_option maxRecDepth 100000 in
set_option maxHeartbeats 400000 in
theorem big0_any (x : BitVec 32) (w : World) :
    Calls Tryz.prog 154 #[.int .u32 (u32 x)] w fun e w' => e = .returned (.int .u32 (u32 (big0 x))) ∧ w = w' := by
  go_enter Tryz.func154, Tryz.ntmps154
  go_wp2_with (go_at_call 165; refine (rot_any _ _ _).mono ?_; rintro e w' ⟨rfl, rfl⟩)
  go_ret
  exact ⟨rfl, rfl⟩
set_option maxRecDepth 100000 in
set_option maxHeartbeats 400000 in
theorem big1_any (x : BitVec 32) (w : World) :
    Calls Tryz.prog 152 #[.int .u32 (u32 x)] w fun e w' => e = .returned (.int .u32 (u32 (big1 x))) ∧ w = w' := by
  go_enter Tryz.func152, Tryz.ntmps152
  go_wp2_with (go_at_call 165; refine (rot_any _ _ _).mono ?_; rintro e w' ⟨rfl, rfl⟩)
  go_ret
  exact ⟨rfl, rfl⟩
set_option maxRecDepth 100000 in
set_option maxHeartbeats 400000 in
theorem small0_any (x : BitVec 32) (w : World) :
    Calls Tryz.prog 151 #[.int .u32 (u32 x)] w fun e w' => e = .returned (.int .u32 (u32 (small0 x))) ∧ w = w' := by
  go_enter Tryz.func151, Tryz.ntmps151
  go_wp2_with (go_at_call 165; refine (rot_any _ _ _).mono ?_; rintro e w' ⟨rfl, rfl⟩)
  go_ret
  exact ⟨rfl, rfl⟩
set_option maxRecDepth 100000 in
set_option maxHeartbeats 400000 in
theorem small1_any (x : BitVec 32) (w : World) :
    Calls Tryz.prog 150 #[.int .u32 (u32 x)] w fun e w' => e = .returned (.int .u32 (u32 (small1 x))) ∧ w = w' := by
  go_enter Tryz.func150, Tryz.ntmps150
  go_wp2_with (go_at_call 165; refine (rot_any _ _ _).mono ?_; rintro e w' ⟨rfl, rfl⟩)
  go_ret
  exact ⟨rfl, rfl⟩
set_option maxRecDepth 100000 in
set_option maxHeartbeats 400000 in
/-- K of a round: what its table's cell holds. -/
theorem k_in (i : Int) (c : Int) (w : World) (h0 : 0 ≤ i) (h1 : i < 64) (hc : w.cell? ⟨0, i.toNat, none⟩ = some (.int .u32 c)) :
    Calls Tryz.prog 134 #[.int .i64 i] w fun e w' => e = .returned (.int .u32 c) ∧ w = w' := by
  go_enter Tryz.func134, Tryz.ntmps134
  go_wp2
  go_ret
  exact ⟨rfl, rfl⟩
def firstV : Value := .agg #[.int .u32 1779033703, .int .u32 3144134277, .int .u32 1013904242, .int .u32 2773480762, .int .u32 1359893119, .int .u32 2600822924, .int .u32 528734635, .int .u32 1541459225]
def firstO : Obj := .cells #[.int .u32 1779033703, .int .u32 3144134277, .int .u32 1013904242, .int .u32 2773480762, .int .u32 1359893119, .int .u32 2600822924, .int .u32 528734635, .int .u32 1541459225] 120
set_option maxRecDepth 100000 in
set_option maxHeartbeats 400000 in
theorem first_any (w : World) :
    Calls Tryz.prog 106 #[] w fun e w' => e = .returned firstV ∧ w.alloc firstO = w' := by
  go_enter Tryz.func106, Tryz.ntmps106
  go_wp2
  exact bodyPost_ret (v := firstV) (by simp [results, Tryz.results106, go_sem, firstV]) rfl ⟨rfl, rfl⟩
end Go.Proofs.YtppmbdpfledejaaGreatDoor
namespace Go.Proofs.YtppmbdpfledejaaGreatDoor
open Go.RowKit
set_option maxRecDepth 100000 in
set_option maxHeartbeats 1000000 in
theorem round_any (h : Nat → BitVec 32) (k x : BitVec 32) (w : World) :
    Calls Tryz.prog 133 #[.agg (row .u32 8 h), .int .u32 (u32 k), .int .u32 (u32 x)] w fun e w' => e = .returned (.agg (row .u32 8 (roundF h k x))) ∧ Below w.heap.size w w' := by
  rw [row8]
  go_enter Tryz.func133, Tryz.ntmps133
  go_wp2
  have H0 := alloc2_0 w (.cells (row .u32 8 h) 120) (.cells (row .u32 8 fun _ => 0#32) 120)
  have Z0 := alloc2_1 w (.cells (row .u32 8 h) 120) (.cells (row .u32 8 fun _ => 0#32) 120)
  have B0 : Below w.heap.size w ((w.alloc (.cells (row .u32 8 h) 120)).alloc (.cells (row .u32 8 fun _ => 0#32) 120)) := ((Below.refl _ _).alloc (Nat.le_refl _) _).alloc (by simp) _
  simp only [row8, show u32 0#32 = 0 from rfl] at H0 Z0 B0
  generalize World.alloc (World.alloc w _) _ = w1 at *
  obtain ⟨c0, c1, c2, c3, c4, c5, c6, c7⟩ := cells8_of (h := h) H0
  go_quiet (first | (go_at_call 152; refine quiet_same (big1_any _ _)) | (go_at_call 153; refine quiet_same (ch_any _ _ _ _)))
  have H1 : (w1.drewN nq).heap[w.heap.size]? = _ := H0
  have Z1 : (w1.drewN nq).heap[w.heap.size + 1]? = _ := Z0
  have B1 := below_draws B0 nq
  clear H0 Z0 B0 c0 c1 c2 c3 c4 c5 c6 c7
  generalize w1.drewN nq = w2 at *
  obtain ⟨c0, c1, c2, c3, c4, c5, c6, c7⟩ := cells8_of (h := h) H1
  go_wp2
  go_quiet (first | (go_at_call 154; refine quiet_same (big0_any _ _)) | (go_at_call 155; refine quiet_same (maj_any _ _ _ _)))
  have H2 : (w2.drewN nq).heap[w.heap.size]? = _ := H1
  have Z2 : (w2.drewN nq).heap[w.heap.size + 1]? = _ := Z1
  have B2 := below_draws B1 nq
  clear H1 Z1 B1 c0 c1 c2 c3 c4 c5 c6 c7
  generalize w2.drewN nq = w3 at *
  obtain ⟨c0, c1, c2, c3, c4, c5, c6, c7⟩ := cells8_of (h := h) H2
  go_wp2_with (first | (refine wpList_store_row rfl 120 (.tmp 6) (.tmp 57) rfl (w.heap.size + 1) _ rfl rfl 120 _ Z2 (by kernel_rfl) rfl (by simp [Value.oneCell']) ?_))
  exact bodyPost_ret (results_cell_row Tryz.results133 _ _ (w.heap.size + 1) 120 _ (0, 0) _ rfl (setRow_heap _ _ _ _ _ _ Z2) Tryz.underlying120 rfl (by kernel_rfl)) rfl ⟨rfl, below_setRow B2 (by omega) _⟩
set_option maxRecDepth 100000 in
set_option maxHeartbeats 4000000 in
theorem schedule_any (f : Nat → BitVec 32) (w : World) :
    Calls Tryz.prog 132 #[.agg (row .u8 64 f)] w fun e w' => e = .returned (.agg (row .u32 64 (sched f))) ∧ Below w.heap.size w w' := by
  go_enter Tryz.func132, Tryz.ntmps132
  go_wp2
  go_loopw [4, 6] (fun _ c wr => ∃ k : Nat, k ≤ 16 ∧ c = .int .i64 k ∧ wr.heap[w.heap.size]? = some (.cells (row .u8 64 f) 121 (0, 0)) ∧ wr.heap[w.heap.size + 1]? = some (.cells (row .u32 64 fun _ => 0#32) 147 (0, 0)) ∧
      wr.heap[w.heap.size + 2]? = some (.cells (row .u32 64 (upTo (sched f) k)) 147 (0, 0)) ∧ w.heap.size + 3 ≤ wr.heap.size ∧ Below w.heap.size w wr) (fun _ c _ => 16 - (intOf c).toNat)
  case atStart =>
    refine ⟨0, by omega, rfl, alloc3_0 _ _ _ _, alloc3_1 _ _ _ _, ?_, by simp, (((Below.refl _ _).alloc (Nat.le_refl _) _).alloc (by simp) _).alloc (by simp; omega) _⟩
    rw [upTo_zero]; exact alloc3_2 _ _ _ _
  case round =>
    obtain ⟨k, hk, rfl, hb8, hz, ho, hs, hb⟩ := hrel
    by_cases hlt : k < 16
    · obtain ⟨p0, hp0⟩ : ∃ p : Nat, p = 4 * k := ⟨_, rfl⟩
      obtain ⟨p1, hp1⟩ : ∃ p : Nat, p = 4 * k + 1 := ⟨_, rfl⟩
      obtain ⟨p2, hp2⟩ : ∃ p : Nat, p = 4 * k + 2 := ⟨_, rfl⟩
      obtain ⟨p3, hp3⟩ : ∃ p : Nat, p = 4 * k + 3 := ⟨_, rfl⟩
      have e0 := wrap_at (4 * (k : Int)) p0 (by omega) (by omega)
      have e1 := wrap_at ((p0 : Int) + 1) p1 (by omega) (by omega)
      have e2 := wrap_at ((p0 : Int) + 2) p2 (by omega) (by omega)
      have e3 := wrap_at ((p0 : Int) + 3) p3 (by omega) (by omega)
      have q0 : (p0 : Int) < 64 := by omega
      have q1 : (p1 : Int) < 64 := by omega
      have q2 : (p2 : Int) < 64 := by omega
      have q3 : (p3 : Int) < 64 := by omega
      have q4 : (k : Int) < 64 := by omega
      have b0 := (cell_of_row wr _ p0 _ _ _ hb8).trans (row_get .u8 64 f p0 (by omega))
      have b1 := (cell_of_row wr _ p1 _ _ _ hb8).trans (row_get .u8 64 f p1 (by omega))
      have b2 := (cell_of_row wr _ p2 _ _ _ hb8).trans (row_get .u8 64 f p2 (by omega))
      have b3 := (cell_of_row wr _ p3 _ _ _ hb8).trans (row_get .u8 64 f p3 (by omega))
      have c0 := (cell_of_row wr _ k _ _ _ ho).trans (row_get .u32 64 _ k (by omega))
      have f0 := frozen_of_row wr _ k _ _ ho
      have HS := Lib.hid (sched_lo f k hlt)
      have H8 := Lib.hid hb8
      have HZ := Lib.hid hz
      have HO := Lib.hid ho
      have HP := Lib.hid (And.intro hp0 (And.intro hp1 (And.intro hp2 hp3)))
      clear hb8 hz ho hp0 hp1 hp2 hp3
      go_wp2
      go_still_tail 31, (by kernel_rfl)
      change wpList _ _ _ _ _ wr.drew
      have hb8 : wr.drew.heap[w.heap.size]? = _ := H8.out
      have hz : wr.drew.heap[w.heap.size + 1]? = _ := HZ.out
      have ho : wr.drew.heap[w.heap.size + 2]? = _ := HO.out
      have hs : w.heap.size + 3 ≤ wr.drew.heap.size := hs
      have hb := below_draws hb 1
      change Below _ _ wr.drew at hb
      clear H8 HZ HO b0 b1 b2 b3 c0 f0
      generalize wr.drew = w2 at *
      have c0 := (cell_of_row w2 _ k _ _ _ ho).trans (row_get .u32 64 _ k (by omega))
      have f0 := frozen_of_row w2 _ k _ _ ho
      have H8 := Lib.hid hb8
      have HZ := Lib.hid hz
      have HO := Lib.hid ho
      clear hb8 hz ho
      have e : f p0 <<< 24 ||| f p1 <<< 16 ||| f p2 <<< 8 ||| f p3 = sched f k := by
        obtain ⟨h0, h1, h2, h3⟩ := HP.out
        rw [HS.out, word_def, h0, h1, h2, h3]
      have HE := Lib.hid e
      clear e
      go_wp2
      go_roundw
      case rel =>
        rw [HE.out]
        refine ⟨k + 1, by omega, by go_num, ?_, ?_, ?_, by simpa using hs, hb.setCell (show w.heap.size ≤ w.heap.size + 2 by omega) _⟩
        · rw [heap_setCell_other _ _ _ _ (by simp; omega)]; exact H8.out
        · rw [heap_setCell_other _ _ _ _ (by simp)]; exact HZ.out
        · rw [← upTo_set]; exact heap_setCell_same _ _ _ _ _ _ HO.out
      case measure => simp [intOf]; omega
    · obtain rfl : k = 16 := by omega
      clear hb8
      go_wp2
      go_loopw [5] (fun c wr => ∃ k : Nat, 16 ≤ k ∧ k ≤ 64 ∧ c = .int .i64 k ∧ wr.heap[w.heap.size + 1]? = some (.cells (row .u32 64 fun _ => 0#32) 147 (0, 0)) ∧
          wr.heap[w.heap.size + 2]? = some (.cells (row .u32 64 (upTo (sched f) k)) 147 (0, 0)) ∧ w.heap.size + 3 ≤ wr.heap.size ∧ Below w.heap.size w wr) (fun c _ => 64 - (intOf c).toNat)
      case atStart => exact ⟨16, by omega, by omega, rfl, hz, ho, hs, hb⟩
      case round =>
        clear hz ho hs hb
        obtain ⟨k, hk16, hk, rfl, hz, ho, hs, hb⟩ := hrel
        by_cases hlt : k < 64
        · obtain ⟨p0, hp0⟩ : ∃ p : Nat, p = k - 2 := ⟨_, rfl⟩
          obtain ⟨p1, hp1⟩ : ∃ p : Nat, p = k - 7 := ⟨_, rfl⟩
          obtain ⟨p2, hp2⟩ : ∃ p : Nat, p = k - 15 := ⟨_, rfl⟩
          obtain ⟨p3, hp3⟩ : ∃ p : Nat, p = k - 16 := ⟨_, rfl⟩
          have e0 := wrap_at ((k : Int) - 2) p0 (by omega) (by omega)
          have e1 := wrap_at ((k : Int) - 7) p1 (by omega) (by omega)
          have e2 := wrap_at ((k : Int) - 15) p2 (by omega) (by omega)
          have e3 := wrap_at ((k : Int) - 16) p3 (by omega) (by omega)
          have q0 : (p0 : Int) < 64 := by omega
          have q1 : (p1 : Int) < 64 := by omega
          have q2 : (p2 : Int) < 64 := by omega
          have q3 : (p3 : Int) < 64 := by omega
          have q4 : (k : Int) < 64 := by omega
          have b0 := cell_upTo ho p0 (by omega) (by omega)
          have b1 := cell_upTo ho p1 (by omega) (by omega)
          have b2 := cell_upTo ho p2 (by omega) (by omega)
          have b3 := cell_upTo ho p3 (by omega) (by omega)
          have HS := Lib.hid (sched_hi f k hk16)
          have HP := Lib.hid (And.intro hp0 (And.intro hp1 (And.intro hp2 hp3)))
          have HZ := Lib.hid hz
          have HO := Lib.hid ho
          clear hz ho hp0 hp1 hp2 hp3
          go_wp2
          go_still_tail 23, (by kernel_rfl)
          still_call (still_same (small1_any _ _))
          repeat still_step
          still_call (still_same (small0_any _ _))
          repeat still_step
          refine wpStill_nil ?_
          change wpList _ _ _ _ _ wr.drew
          have hz : wr.drew.heap[w.heap.size + 1]? = _ := HZ.out
          have ho : wr.drew.heap[w.heap.size + 2]? = _ := HO.out
          have hs : w.heap.size + 3 ≤ wr.drew.heap.size := hs
          have hb := below_draws hb 1
          change Below _ _ wr.drew at hb
          clear HZ HO b0 b1 b2 b3
          generalize wr.drew = w2 at *
          have c0 := (cell_of_row w2 _ k _ _ _ ho).trans (row_get .u32 64 _ k (by omega))
          have f0 := frozen_of_row w2 _ k _ _ ho
          have HZ := Lib.hid hz
          have HO := Lib.hid ho
          clear hz ho
          have e : small1 (sched f p0) + sched f p1 + small0 (sched f p2) + sched f p3 = sched f k := by
            obtain ⟨h0, h1, h2, h3⟩ := HP.out
            rw [HS.out, h0, h1, h2, h3]
          have HE := Lib.hid e
          clear e
          go_wp2
          go_roundw
          case rel =>
            (repeat apply Exists.intro)
            refine ⟨?_, rfl⟩
            rw [HE.out]
            refine ⟨k + 1, by omega, by omega, by go_num, ?_, ?_, by simpa using hs, hb.setCell (show w.heap.size ≤ w.heap.size + 2 by omega) _⟩
            · rw [heap_setCell_other _ _ _ _ (by simp)]; exact HZ.out
            · rw [← upTo_set]; exact heap_setCell_same _ _ _ _ _ _ HO.out
          case measure => simp [intOf]; omega
        · obtain rfl : k = 64 := by omega
          rw [upTo_full] at ho
          go_wp2_with (first | (refine wpList_load_row rfl 147 _ rfl (w.heap.size + 2) rfl 147 _ (0, 0) _ ho Tryz.underlying147 rfl (by kernel_rfl) ?_) | (refine wpList_store_row rfl 147 (.tmp 2) (.tmp 68) rfl (w.heap.size + 1) _ rfl rfl 147 _ hz (by kernel_rfl) rfl (by simp [Value.oneCell', row]) ?_))
          exact bodyPost_ret (results_cell_row Tryz.results132 _ _ (w.heap.size + 1) 147 _ (0, 0) _ rfl (setRow_heap _ _ _ _ _ _ hz) Tryz.underlying147 rfl (by kernel_rfl)) rfl ⟨rfl, below_setRow hb (by omega) _⟩
end Go.Proofs.YtppmbdpfledejaaGreatDoor
namespace Go.Proofs.YtppmbdpfledejaaGreatDoor
open Go.RowKit
/-- The constants' table holds its constants. -/
def Tab (w : World) : Prop := ∀ i : Nat, i < 64 → w.cell? ⟨0, i, none⟩ = some (.int .u32 (u32 (kB i)))
theorem tab_lt {w : World} (h : Tab w) : 0 < w.heap.size := World.block_lt_of_cell? w ⟨0, 0, none⟩ (h 0 (by omega))
theorem tab_keep {w w' : World} {B : Nat} (h : Tab w) (hb : Below B w w') (hB : w.heap.size ≤ B) : Tab w' := fun i hi => by
  rw [cell_same (hb.block 0 (Nat.lt_of_lt_of_le (tab_lt h) hB))]; exact h i hi
theorem k_still (k : Nat) (hk : k < 64) (w : World) (h : Tab w) : Calls Tryz.prog 134 #[.int .i64 k] w fun e w' => e = .returned (.int .u32 (u32 (kB k))) ∧ w' = w :=
  still_same (k_in (k : Int) _ _ (by omega) (by omega) (by rw [Int.toNat_natCast]; exact h k hk))
theorem schedule_R (f : Nat → BitVec 32) (w : World) : Calls Tryz.prog 132 #[.agg (row .u8 64 f)] w fun e w' => e = .returned (rowV .u32 64 (sched f)) ∧ Below w.heap.size w w' := schedule_any f w
theorem cellsU32' : Tryz.prog.cellsOf 119 = 1 := by kernel_rfl
theorem index_words (f : Nat → BitVec 32) (i : Nat) (hi : i < 64) : ∀ w, (Instr.index 147 (rowV .u32 64 f) (.int .i64 i)).run Tryz.prog w = .ok (.int .u32 (u32 (f i))) w := fun w =>
  index_row w f i hi Tryz.underlying147 Tryz.underlying119 cellsU32'
theorem round_L' (h : Nat → BitVec 32) (k x : BitVec 32) (w : World) : Calls Tryz.prog 133 #[.agg #[.int .u32 (u32 (h 0)), .int .u32 (u32 (h 1)), .int .u32 (u32 (h 2)), .int .u32 (u32 (h 3)), .int .u32 (u32 (h 4)), .int .u32 (u32 (h 5)), .int .u32 (u32 (h 6)), .int .u32 (u32 (h 7))], .int .u32 (u32 k), .int .u32 (u32 x)] w fun e w' => e = .returned (.agg (row .u32 8 (roundF h k x))) ∧ Below w.heap.size w w' := round_any h k x w
set_option maxRecDepth 100000 in
set_option maxHeartbeats 4000000 in
theorem compress_any (h f : Nat → BitVec 32) (w : World) (tab : Tab w) :
    Calls Tryz.prog 107 #[.agg (row .u32 8 h), .agg (row .u8 64 f)] w fun e w' => e = .returned (.agg (row .u32 8 (compressed h f))) ∧ Below w.heap.size w w' := by
  have H0 := alloc3_0 w (.cells (row .u32 8 h) 120 (0, 0)) (.cells (row .u8 64 f) 121 (0, 0)) (.cells (row .u32 8 fun _ => 0#32) 120 (0, 0))
  have H1 := alloc3_1 w (.cells (row .u32 8 h) 120 (0, 0)) (.cells (row .u8 64 f) 121 (0, 0)) (.cells (row .u32 8 fun _ => 0#32) 120 (0, 0))
  have H2 := alloc3_2 w (.cells (row .u32 8 h) 120 (0, 0)) (.cells (row .u8 64 f) 121 (0, 0)) (.cells (row .u32 8 fun _ => 0#32) 120 (0, 0))
  have B0 : Below w.heap.size w (((w.alloc (.cells (row .u32 8 h) 120 (0, 0))).alloc (.cells (row .u8 64 f) 121 (0, 0))).alloc (.cells (row .u32 8 fun _ => 0#32) 120 (0, 0))) :=
    (((Below.refl _ _).alloc (Nat.le_refl _) _).alloc (by simp) _).alloc (by simp; omega) _
  have S0 : (((w.alloc (.cells (row .u32 8 h) 120 (0, 0))).alloc (.cells (row .u8 64 f) 121 (0, 0))).alloc (.cells (row .u32 8 fun _ => 0#32) 120 (0, 0))).heap.size = w.heap.size + 3 := by simp
  obtain ⟨w0, hw0⟩ : ∃ w0, w0 = ((w.alloc (.cells (row .u32 8 h) 120 (0, 0))).alloc (.cells (row .u8 64 f) 121 (0, 0))).alloc (.cells (row .u32 8 fun _ => 0#32) 120 (0, 0)) := ⟨_, rfl⟩
  rw [← hw0] at H0 H1 H2 B0 S0
  have HH := Lib.hid (And.intro H0 (And.intro H1 (And.intro H2 (And.intro B0 S0))))
  have HW := Lib.hid hw0
  clear H0 H1 H2 B0 S0 hw0
  go_enter Tryz.func107, Tryz.ntmps107
  go_wp2_with (first | (refine wpList_load_row rfl 120 (.tmp 2) rfl w.heap.size rfl 120 _ (0, 0) _ (HW.out ▸ HH.out.1) Tryz.underlying120 rfl (by kernel_rfl) ?_) | (refine store_new rfl 120 (.tmp 5) (.tmp 9) rfl rfl w0 (row .u32 8 fun _ => 0#32) (row .u32 8 h) 120 (by rw [HW.out]; rfl) (show Value.pointer (some ⟨w.heap.size + 3, 0, none⟩) = Value.pointer (some ⟨w0.heap.size, 0, none⟩) from congrArg (fun n => Value.pointer (some ⟨n, 0, none⟩)) HH.out.2.2.2.2.symm) rfl (by kernel_rfl) rfl (row_one _ _ _) ?_; intro w1 hh1 hb1 hs1; rw [HH.out.2.2.2.2] at hh1 hb1 hs1; have HA := Lib.hid ((hb1.block w.heap.size (by omega)).trans HH.out.1); have H1' := Lib.hid ((hb1.block (w.heap.size + 1) (by omega)).trans HH.out.2.1); have HZ := Lib.hid ((hb1.block (w.heap.size + 2) (by omega)).trans HH.out.2.2.1); have B1 := HH.out.2.2.2.1.trans (hb1.mono (by omega)); have HR := Lib.hid hh1; clear hh1 hb1 HH HW) | (refine wpList_load_row rfl 121 (.tmp 3) rfl (w.heap.size + 1) rfl 121 _ (0, 0) _ H1'.out Tryz.underlying121 rfl (by kernel_rfl) ?_) | (go_at_call 132; refine (schedule_R f _).mono ?_; rintro e w2 ⟨rfl, hb2⟩; have HA2 := Lib.hid ((hb2.block w.heap.size (by omega)).trans HA.out); have HZ2 := Lib.hid ((hb2.block (w.heap.size + 2) (by omega)).trans HZ.out); have HR2 := Lib.hid ((hb2.block (w.heap.size + 3) (by omega)).trans HR.out); have B2 := B1.trans (hb2.mono (by omega)); have hs2 : w.heap.size + 4 ≤ w2.heap.size := Nat.le_trans hs1 hb2.size; clear HA H1' HZ HR B1 hb2 hs1))
  go_loopw [6, 7, 12] (fun _ _ c wr => ∃ k : Nat, k ≤ 64 ∧ c = .int .i64 k ∧ wr.heap[w.heap.size]? = some (.cells (row .u32 8 h) 120 (0, 0)) ∧ wr.heap[w.heap.size + 2]? = some (.cells (row .u32 8 fun _ => 0#32) 120 (0, 0)) ∧
      wr.heap[w.heap.size + 3]? = some (.cells (row .u32 8 (rounds h (sched f) k)) 120 (0, 0)) ∧ w.heap.size + 4 ≤ wr.heap.size ∧ Below w.heap.size w wr) (fun _ _ c _ => 64 - (intOf c).toNat)
  case atStart => exact ⟨0, by omega, rfl, HA2.out, HZ2.out, by rw [rounds_zero]; exact HR2.out, hs2, B2⟩
  case round =>
    clear HA2 HZ2 HR2 B2 hs2
    obtain ⟨k, hk, rfl, ha, hz, hr, hs, hb⟩ := hrel
    by_cases hlt : k < 64
    · have hix := index_words (sched f) k hlt
      have HK := Lib.hid (tab_keep tab hb (Nat.le_refl _))
      obtain ⟨c0, c1, c2, c3, c4, c5, c6, c7⟩ := cells8_of hr
      have HA := Lib.hid ha
      have HZ := Lib.hid hz
      have HR := Lib.hid hr
      clear ha hz hr
      go_wp2
      go_still_tail 4, (by kernel_rfl)
      still_call (k_still k hlt _ HK.out)
      repeat still_step
      refine wpStill_nil ?_
      change wpList _ _ _ _ _ wr.drew
      have ha : wr.drew.heap[w.heap.size]? = _ := HA.out
      have hz : wr.drew.heap[w.heap.size + 2]? = _ := HZ.out
      have hr : wr.drew.heap[w.heap.size + 3]? = _ := HR.out
      have hs : w.heap.size + 4 ≤ wr.drew.heap.size := hs
      have hb := below_draws hb 1
      change Below _ _ wr.drew at hb
      clear HA HZ HR c0 c1 c2 c3 c4 c5 c6 c7 HK hix
      generalize wr.drew = w3 at *
      have HA := Lib.hid ha
      have HZ := Lib.hid hz
      have HR := Lib.hid hr
      clear ha hz hr
      go_wp2_with (first | (go_at_call 133; refine (round_L' (rounds h (sched f) k) (kB k) (sched f k) _).mono ?_; rintro e w4 ⟨rfl, hb4⟩; have HA4 := Lib.hid ((hb4.block w.heap.size (by omega)).trans HA.out); have HZ4 := Lib.hid ((hb4.block (w.heap.size + 2) (by omega)).trans HZ.out); have HR4 := Lib.hid ((hb4.block (w.heap.size + 3) (by omega)).trans HR.out); have B4 := hb.trans (hb4.mono (by omega)); have hs4 : w.heap.size + 4 ≤ w4.heap.size := Nat.le_trans hs hb4.size; clear HA HZ HR hb hb4 hs) | (refine store_old rfl 120 (.tmp 5) (.tmp 20) rfl rfl (w.heap.size + 3) _ _ 120 HR4.out rfl rfl (by kernel_rfl) rfl (row_one _ _ _) ?_; intro w5 hh5 ho5 hs5 hb5; have HA5 := Lib.hid ((ho5 w.heap.size (by omega)).trans HA4.out); have HZ5 := Lib.hid ((ho5 (w.heap.size + 2) (by omega)).trans HZ4.out); have HR5 := Lib.hid hh5; have B5 := hb5 _ _ B4 (by omega); have hs6 := Nat.le_trans hs4 hs5; clear HA4 HZ4 HR4 hh5 ho5 hs5 hb5 B4 hs4))
      go_roundw
      case rel => exact ⟨k + 1, by omega, by go_num, HA5.out, HZ5.out, by rw [rounds_succ]; exact HR5.out, hs6, B5⟩
      case measure => simp [intOf]; omega
    · obtain rfl : k = 64 := by omega
      have HA := Lib.hid ha
      have HZ := Lib.hid hz
      have HR := Lib.hid hr
      clear ha hz hr
      go_wp2
      go_loopw [8, 22] (fun _ c wr => ∃ k : Nat, k ≤ 8 ∧ c = .int .i64 k ∧ wr.heap[w.heap.size]? = some (.cells (row .u32 8 h) 120 (0, 0)) ∧ wr.heap[w.heap.size + 2]? = some (.cells (row .u32 8 fun _ => 0#32) 120 (0, 0)) ∧
          wr.heap[w.heap.size + 3]? = some (.cells (row .u32 8 (mixTo (compressed h f) (rounds h (sched f) 64) k)) 120 (0, 0)) ∧ w.heap.size + 4 ≤ wr.heap.size ∧ Below w.heap.size w wr) (fun _ c _ => 8 - (intOf c).toNat)
      case atStart => exact ⟨0, by omega, rfl, HA.out, HZ.out, by rw [mix_zero]; exact HR.out, hs, hb⟩
      case round =>
        clear HA HZ HR hs hb
        obtain ⟨k, hk, rfl, ha, hz, hr, hs, hb⟩ := hrel
        by_cases hlt : k < 8
        · have q4 : (k : Int) < 8 := by omega
          have c0 := (cell_of_row wr _ k _ _ _ hr).trans (row_get .u32 8 _ k hlt)
          rw [mix_at] at c0
          have c1 := (cell_of_row wr _ k _ _ _ ha).trans (row_get .u32 8 h k hlt)
          have HA := Lib.hid ha
          have HZ := Lib.hid hz
          have HR := Lib.hid hr
          clear ha hz hr
          go_wp2
          go_still_tail 8, (by kernel_rfl)
          change wpList _ _ _ _ _ wr.drew
          have ha : wr.drew.heap[w.heap.size]? = _ := HA.out
          have hz : wr.drew.heap[w.heap.size + 2]? = _ := HZ.out
          have hr : wr.drew.heap[w.heap.size + 3]? = _ := HR.out
          have hs : w.heap.size + 4 ≤ wr.drew.heap.size := hs
          have hb := below_draws hb 1
          change Below _ _ wr.drew at hb
          clear HA HZ HR c0 c1
          generalize wr.drew = w3 at *
          have c0 := (cell_of_row w3 _ k _ _ _ hr).trans (row_get .u32 8 _ k hlt)
          have f0 := frozen_of_row w3 _ k _ _ hr
          have HA := Lib.hid ha
          have HZ := Lib.hid hz
          have HR := Lib.hid hr
          clear ha hz hr
          have HE := Lib.hid (compressed_def h f k)
          go_wp2
          go_roundw
          case rel =>
            (repeat apply Exists.intro)
            refine ⟨?_, rfl⟩
            rw [HE.out]
            refine ⟨k + 1, by omega, by go_num, ?_, ?_, ?_, by simpa using hs, hb.setCell (show w.heap.size ≤ w.heap.size + 3 by omega) _⟩
            · rw [heap_setCell_other _ _ _ _ (by simp; omega)]; exact HA.out
            · rw [heap_setCell_other _ _ _ _ (by simp)]; exact HZ.out
            · rw [← mix_set]; exact heap_setCell_same _ _ _ _ _ _ HR.out
          case measure => simp [intOf]; omega
        · obtain rfl : k = 8 := by omega
          rw [mix_full] at hr
          go_wp2_with (first | (refine wpList_load_row rfl 120 (.tmp 5) rfl (w.heap.size + 3) rfl 120 _ (0, 0) _ hr Tryz.underlying120 rfl (by kernel_rfl) ?_) | (refine wpList_store_row rfl 120 (.tmp 4) (.tmp 34) rfl (w.heap.size + 2) _ rfl rfl 120 _ hz (by kernel_rfl) ((row_size _ _ _).trans (row_size _ _ _).symm) (row_one _ _ _) ?_))
          exact bodyPost_ret (results_cell_row Tryz.results107 _ _ (w.heap.size + 2) 120 _ (0, 0) _ rfl (setRow_heap _ _ _ _ _ _ hz) Tryz.underlying120 rfl (by kernel_rfl)) rfl ⟨rfl, below_setRow hb (by omega) _⟩
end Go.Proofs.YtppmbdpfledejaaGreatDoor
namespace Go.Proofs.YtppmbdpfledejaaGreatDoor
/-- Eight words at hand. -/
structure S8 where
  a : BitVec 32
  b : BitVec 32
  c : BitVec 32
  d : BitVec 32
  e : BitVec 32
  f : BitVec 32
  g : BitVec 32
  h : BitVec 32
def S8.fn (s : S8) : Nat → BitVec 32 := eight s.a s.b s.c s.d s.e s.f s.g s.h
end Go.Proofs.YtppmbdpfledejaaGreatDoor
