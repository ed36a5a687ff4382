/-
Texts that all claims of this seat share, part 9: HistMem, RefHistory.
-/
import Derived.Laws.AppendOwn
import Derived.Laws.OwnMore
import Derived.Great.Walk
import Derived.Deep.DeepCutAuto
import Derived.Test.YthkojphgjlojgaaDoorPk8
namespace Go.Proofs.YthkojphgjlojgaaDoor
open Go.RowKit
/-- What lies in memory while a history is made: the result's block, what is known, the paths. -/
def HistAt (w0 w : World) (h : Hist) (out : Value) : Prop :=
  ∃ (a : Nat → Value) (us : List (Ev × Value)), us.map (·.1) = h.out ∧ OwnEvs (w0.heap.size + 3) w out us ∧
    w.heap[w0.heap.size]? = some (.cells #[.slice none 0 0, .slice none 0 0, .slice none 0 0] 27 (0, 0)) ∧
    w.heap[w0.heap.size + 1]? = some (.cells #[a 0, a 1, a 2] 27 (0, 0)) ∧ (∀ j, j < 3 → TypDots w (a j) (h.know j)) ∧
    w.heap[w0.heap.size + 2]? = some (.cells #[.string ⟨#[97]⟩, .string ⟨#[97, 47, 98]⟩, .string ⟨#[99]⟩, .string ⟨#[100]⟩] 9 (0, 0)) ∧ w0.heap.size + 3 ≤ w.heap.size ∧ Below w0.heap.size w0 w
theorem know_cell {w : World} {B : Nat} {T : TypeId} {a : Nat → Value} (h : w.heap[B]? = some (.cells #[a 0, a 1, a 2] T (0, 0))) {i : Nat} (hi : i < 3) : w.cell? ⟨B, i, none⟩ = some (a i) := by
  rw [cell_of_row _ _ i _ _ _ h]
  match i, hi with
  | 0, _ => rfl
  | 1, _ => rfl
  | 2, _ => rfl
theorem know_set (a : Nat → Value) (x : Value) {i : Nat} (hi : i < 3) : (#[a 0, a 1, a 2] : Array Value).setIfInBounds i x = #[(fun j => if j = i then x else a j) 0, (fun j => if j = i then x else a j) 1, (fun j => if j = i then x else a j) 2] := by
  match i, hi with
  | 0, _ => rfl
  | 1, _ => rfl
  | 2, _ => rfl
theorem deed_nums (r K : Nat) (hr : r < 256) : wrap64 (r : Int) = (r : Int) ∧ (r : Int).tmod (K : Int) = ((r % K : Nat) : Int) ∧ (r : Int) % (K : Int) = ((r % K : Nat) : Int) := by
  refine ⟨by rw [wrap64]; omega, ?_, rfl⟩
  rw [Int.tmod_eq_emod_of_nonneg (by omega)]; rfl
theorem deed_wrap (r : Nat) (hr : r < 256) : IntKind.i64.wrap (r : Int) = (r : Int) := by rw [IntKind.wrap_i64]; omega
theorem deed_run {P : Program} {o : Oper} {a : Act} {w : World} (ty : TypeId) (x : Operand) (ho : o.op = .load ty x) (A : Addr) (hx : a.eval x = .pointer (some A)) {d : DeedT} {fs : Array Field} (hu : P.underlying ty = some (.struct fs))
    (hi : (P.info? ty).map (·.size) = some 6) (hc : ∀ j u, (deedC d)[j]? = some u → w.cell? (A.add j) = some u) : (execOp a.eval o).run P w = .ok (.value (.agg (deedC d).toArray)) w := by
  have hl : (loadCells A (deedC d).length).run P w = .ok (deedC d).toArray w := run_loadCells_list (P := P) w A _ hc
  rw [show (deedC d).length = 6 from rfl] at hl
  cases hq : P.info? ty with
  | none => simp [hq] at hi
  | some i =>
    have hs : i.size = 6 := by simpa [hq] using hi
    unfold execOp
    simp [ho, hx, Instr.loadAt, Instr.sureAddr, loadVar, isAgg, run_underlying hu, sizeOf, typeInfo, hq, hs, hl]
theorem load_deed {P : Program} {ops : Array Oper} {rest : List Oper} {o : Oper} {a : Act} {w : World} {Q : Exit → Act → World → Prop} (hw : Region.wanted o (yielded ops a.tmps) = true) (ty : TypeId) (x : Operand) (ho : o.op = .load ty x) (A : Addr) (hx : a.eval x = .pointer (some A)) {d : DeedT} {fs : Array Field}
    (hu : P.underlying ty = some (.struct fs)) (hi : (P.info? ty).map (·.size) = some 6) (hc : ∀ j u, (deedC d)[j]? = some u → w.cell? (A.add j) = some u)
    (h : wpList P ops Q rest (a.put o.dst (.agg #[.int .u8 (d.who : Int), .int .u8 (d.other : Int), .int .u8 (d.path : Int), .bool d.learns, .bool d.gone, .int .u8 (d.size : Int)])) w) : wpList P ops Q (o :: rest) a w := by
  refine wpList_step fun K hK => ?_
  rw [if_pos hw]
  unfold Oper.wp
  rw [deed_run ty x ho A hx hu hi hc]
  exact hK _ _ h
set_option maxRecDepth 100000 in
theorem deedSize : (Tryd.prog.info? 56).map (·.size) = some 6 := by kernel_rfl
theorem deeds_at {w : World} {v : Value} {l : List DeedT} (h : HasDeeds w v l) (n k : Nat) (hn : l.length = n) (d : DeedT) (hd : l[k]? = some d) : ∃ ad cap, v = .slice (some ad) n cap ∧ ∀ j u, (deedC d)[j]? = some u → w.cell? ((ad.add (k * 6)).add j) = some u := by
  obtain ⟨ao, cap, rfl, hnil, hc⟩ := h
  cases ao with
  | none => obtain ⟨rfl, _⟩ := hnil rfl; simp at hd
  | some ad => exact ⟨ad, cap, by rw [hn], fun j u hu => by rw [addr_add2]; exact (hc ad rfl).2 k d hd j u hu⟩
theorem hist_start (w : World) : HistAt w (((w.alloc (.cells #[.slice none 0 0, .slice none 0 0, .slice none 0 0] 27 (0, 0))).alloc (.cells #[.slice none 0 0, .slice none 0 0, .slice none 0 0] 27 (0, 0))).alloc (.cells #[.string ⟨#[97]⟩, .string ⟨#[97, 47, 98]⟩, .string ⟨#[99]⟩, .string ⟨#[100]⟩] 9 (0, 0))) hist0 (.slice none 0 0) := by
  have h0 := heap_last w (.cells #[.slice none 0 0, .slice none 0 0, .slice none 0 0] 27 (0, 0))
  have hb0 := (Below.refl w.heap.size w).alloc (Nat.le_refl _) (.cells #[.slice none 0 0, .slice none 0 0, .slice none 0 0] 27 (0, 0))
  have s0 : (w.alloc (.cells #[.slice none 0 0, .slice none 0 0, .slice none 0 0] 27 (0, 0))).heap.size = w.heap.size + 1 := by simp
  generalize w.alloc (.cells #[.slice none 0 0, .slice none 0 0, .slice none 0 0] 27 (0, 0)) = W0 at *
  have h1 := heap_last W0 (.cells #[.slice none 0 0, .slice none 0 0, .slice none 0 0] 27 (0, 0))
  have hb1 := (Below.refl W0.heap.size W0).alloc (Nat.le_refl _) (.cells #[.slice none 0 0, .slice none 0 0, .slice none 0 0] 27 (0, 0))
  have s1 : (W0.alloc (.cells #[.slice none 0 0, .slice none 0 0, .slice none 0 0] 27 (0, 0))).heap.size = w.heap.size + 2 := by simp [s0]
  generalize W0.alloc (.cells #[.slice none 0 0, .slice none 0 0, .slice none 0 0] 27 (0, 0)) = W1 at *
  have h2 := heap_last W1 (.cells #[.string ⟨#[97]⟩, .string ⟨#[97, 47, 98]⟩, .string ⟨#[99]⟩, .string ⟨#[100]⟩] 9 (0, 0))
  have hb2 := (Below.refl W1.heap.size W1).alloc (Nat.le_refl _) (.cells #[.string ⟨#[97]⟩, .string ⟨#[97, 47, 98]⟩, .string ⟨#[99]⟩, .string ⟨#[100]⟩] 9 (0, 0))
  have s2 : (W1.alloc (.cells #[.string ⟨#[97]⟩, .string ⟨#[97, 47, 98]⟩, .string ⟨#[99]⟩, .string ⟨#[100]⟩] 9 (0, 0))).heap.size = w.heap.size + 3 := by simp [s1]
  rw [s0] at h1
  rw [s1] at h2
  refine ⟨fun _ => .slice none 0 0, [], rfl, ownEvs_nil _ _, row_kept (row_kept h0 hb1) hb2, row_kept h1 hb2, fun j _ => typ_nil _, h2, by omega, below_next (below_next hb0 hb1) hb2⟩
/-- A slice loaded from a cell, within a region. -/
theorem load_cell_at {P : Program} {ops : Array Oper} {o : Oper} {ts : Array Value} {ds : List Deferred} {w : World} {K : Act → World → Prop} {Q : Exit → Act → World → Prop} {E : Prop} (d : Nat) (hd : o.dst = some d) (hw : Region.wanted o (yielded ops ts) = true) (ty : TypeId) (x : Operand) (ho : o.op = .load ty x)
    (A : Addr) (hx : Act.eval { tmps := ts, defers := ds } x = .pointer (some A)) (ao : Option Addr) (n c : Nat) {e : TypeId} (hu : P.underlying ty = some (.slice e)) (hc : w.cell? A = some (.slice ao n c))
    (h : K { tmps := ts.setIfInBounds d (.slice ao n c), defers := ds } w) : if Region.wanted o (yielded ops ts) = true then Oper.wp P o { tmps := ts, defers := ds } w K Q else E := by
  rw [if_pos hw]
  have hy : (execOp (Act.eval { tmps := ts, defers := ds }) o).run P w = .ok (.value (.slice ao n c)) w := by
    unfold execOp
    simp [ho, hx, Instr.loadAt, Instr.sureAddr, loadVar, isAgg, run_underlying hu, hc]
  unfold Oper.wp
  rw [hy]
  simpa [Oper.upon, hd, Act.put] using h
/-- A slice stored in a cell of a block that is known whole, within a region. -/
theorem store_slice_at {P : Program} {ops : Array Oper} {o : Oper} {a : Act} {w : World} {K : Act → World → Prop} {Q : Exit → Act → World → Prop} {E : Prop} (hd : o.dst = none) (hw : Region.wanted o (yielded ops a.tmps) = true) (ty : TypeId) (x y : Operand) (ho : o.op = .store ty x y)
    (g off : Nat) (cur : Array Value) (ao : Option Addr) (n c : Nat) (t : TypeId) (hg : w.heap[g]? = some (.cells cur t (0, 0))) (hx : a.eval x = .pointer (some ⟨g, off, none⟩)) (hy : a.eval y = .slice ao n c) (hfit : off < cur.size)
    (hi : (P.info? ty).map (·.size) = some 1) (h : ∀ w', w'.heap[g]? = some (.cells (cur.setIfInBounds off (.slice ao n c)) t (0, 0)) → Solo g w w' → K a w') : if Region.wanted o (yielded ops a.tmps) = true then Oper.wp P o a w K Q else E := by
  rw [if_pos hw]
  have hcell : w.cell? ⟨g, off, none⟩ = some cur[off] := by simp [World.cell?, hg, hfit]
  have hfro : w.frozen? ⟨g, off, none⟩ = false := by simp [World.frozen?, hg]
  have hadd : (⟨g, off, none⟩ : Addr).add 0 = ⟨g, off, none⟩ := by unfold Addr.add; split <;> simp_all
  have hst : (storeVar ty ⟨g, off, none⟩ (.slice ao n c)).run P w = .ok () (w.setRow g (cur.setIfInBounds off (.slice ao n c))) := by
    cases hq : P.info? ty with
    | none => simp [hq] at hi
    | some i =>
      have hs : i.size = 1 := by simpa [hq] using hi
      simp [storeVar, sizeOf, typeInfo, hq, Value.cells, hs, storeCells, hadd, run_store P w _ _ _ (show (Value.slice ao n c).oneCell' = true from rfl), hcell, hfro, setCell_eq_setRow w g off cur t (0, 0) _ hg]
  unfold Oper.wp execOp
  simp only [ho, hx, hy, Instr.storeAt, Instr.sureAddr, Sem.run_bind, Sem.run_pure, Result.andThen_ok, hst]
  have h' := h _ (setRow_heap w g cur _ t _ hg) (solo_setRow w g _)
  simpa [Oper.upon, hd, Act.put] using h'
theorem own_solo {w w' : World} {base g : Nat} {e : TypeId} {size : Nat} {v : Value} {n : Nat} {xs : List Value} (h : w.ownsRow base e size v n xs) (hs : Solo g w w') (hg : g < base) : w'.ownsRow base e size v n xs := by
  refine ⟨h.1, ?_⟩
  rcases h.2 with h0 | ⟨b, cap, cur, rfl, h1, h2, rest⟩
  · exact .inl h0
  · exact .inr ⟨b, cap, cur, rfl, h1, (hs.block b (by omega)).trans h2, rest⟩
set_option maxRecDepth 100000 in
theorem vecSize12 : (Tryd.prog.info? 26).map (·.size) = some 1 := by kernel_rfl
theorem hist_learn {w0 wz w9 : World} {h : Hist} {d : DeedT} {out : Value} {a : Nat → Value} {us : List (Ev × Value)} {i oo : Nat} {ao : Option Addr} {n c : Nat} (hL : d.learns = true) (hi : i = d.who % 3) (hoo : oo = d.other % 3) (hi3 : i < 3) (hus : us.map (·.1) = h.out)
    (r1 : wz.heap[w0.heap.size]? = some (.cells #[.slice none 0 0, .slice none 0 0, .slice none 0 0] 27 (0, 0))) (r2 : wz.heap[w0.heap.size + 1]? = some (.cells #[a 0, a 1, a 2] 27 (0, 0)))
    (r3 : wz.heap[w0.heap.size + 2]? = some (.cells #[.string ⟨#[97]⟩, .string ⟨#[97, 47, 98]⟩, .string ⟨#[99]⟩, .string ⟨#[100]⟩] 9 (0, 0))) (r4 : w0.heap.size + 3 ≤ wz.heap.size)
    (hy : ∀ j, j < 3 → TypDots wz (a j) (h.know j)) (ho : OwnEvs (w0.heap.size + 3) wz out us) (hu : TypDots wz (.slice ao n c) (joinV (h.know i) (h.know oo)))
    (hg : w9.heap[w0.heap.size + 1]? = some (.cells ((#[a 0, a 1, a 2] : Array Value).setIfInBounds i (.slice ao n c)) 27 (0, 0))) (hs : Solo (w0.heap.size + 1) wz w9) (hb : Below w0.heap.size w0 w9) : HistAt w0 w9 (stepH h d) out := by
  rw [know_set a _ hi3] at hg
  have hstep : stepH h d = ⟨putK h.know i (joinV (h.know i) (h.know oo)), h.out⟩ := by rw [stepH, if_pos hL, hi, hoo]
  rw [hstep]
  refine ⟨fun j => if j = i then .slice ao n c else a j, us, hus, ⟨own_solo ho.1 hs (by omega), fun x hx => typ_solo (ho.2 x hx) hs r2 (by decide)⟩, (hs.block _ (by omega)).trans r1, hg, fun j hj => ?_, (hs.block _ (by omega)).trans r3, by rw [hs.size]; exact r4, hb⟩
  by_cases hji : j = i
  · simp only [if_pos hji, putK]; exact typ_solo hu hs r2 (by decide)
  · simp only [if_neg hji, putK]; exact typ_solo (hy j hj) hs r2 (by decide)
theorem ready_allocH {P : Program} {md : Region.Mode} {ops : Array Oper} {Q : Exit → Act → World → Prop} {S : World → Prop} {fuel : Nat} {listed : Array Bool} {ts : Array Value} {ds : List Deferred} {w : World} (i d : Nat) (hr : Region.ready md ops listed = [i]) {o : Oper} (hoi : ops[i]? = some o) (hd : o.dst = some d) (hw : Region.wanted o (yielded ops ts) = true) (t : TypeId) (ho : o.op = .alloc t) (cs : Array Value)
    (hz : (P.info? t).map (fun i => i.zero) = some (some (.agg cs))) (hS : S (w.alloc (.cells cs t (0, 0))))
    (h : wpAnyH P md ops Q S fuel (listed.setIfInBounds i true) { tmps := ts.setIfInBounds d (.pointer (some ⟨w.heap.size, 0, none⟩)), defers := ds } (w.alloc (.cells cs t (0, 0)))) : wpAnyH P md ops Q S (fuel + 1) listed { tmps := ts, defers := ds } w :=
  wpAnyH_ready hr (by simp) (AllReadyH.cons hoi (fun K hK => alloc_at d hd hw t ho cs hz (hK.out _ _ hS (fun _ => h))) AllReadyH.nil)
set_option maxRecDepth 100000 in
theorem ev_zeroH : (Tryd.prog.info? 36).map (fun i => i.zero) = some (some (.agg (evC noEv (.slice none 0 0)))) := by kernel_rfl
theorem row_sizeF {n : Nat} (hn : n < 256) : row .u8 32 (sizeF n) = #[.int .u8 (n : Int), .int .u8 0, .int .u8 0, .int .u8 0, .int .u8 0, .int .u8 0, .int .u8 0, .int .u8 0, .int .u8 0, .int .u8 0, .int .u8 0, .int .u8 0, .int .u8 0, .int .u8 0, .int .u8 0, .int .u8 0, .int .u8 0, .int .u8 0, .int .u8 0, .int .u8 0, .int .u8 0, .int .u8 0, .int .u8 0, .int .u8 0, .int .u8 0, .int .u8 0, .int .u8 0, .int .u8 0, .int .u8 0, .int .u8 0, .int .u8 0, .int .u8 0] := by
  have h : u32 (sizeF n 0) = (n : Int) := by
    show u32 (BitVec.ofNat 32 n) = _
    unfold u32; rw [BitVec.toNat_ofNat]; omega
  rw [← h]; rfl
set_option maxRecDepth 100000 in
theorem dig_built {n : Nat} (hn : n < 256) : Tryd.prog.built 34 [(0, .int .u8 (n : Int))] = some (row .u8 32 (sizeF n)) := by
  rw [row_sizeF hn]; kernel_rfl
theorem path_cellH {w : World} {B : Nat} {T : TypeId} (h : w.heap[B]? = some (.cells #[.string ⟨#[97]⟩, .string ⟨#[97, 47, 98]⟩, .string ⟨#[99]⟩, .string ⟨#[100]⟩] T (0, 0))) {k : Nat} (hk : k < 4) : w.cell? ⟨B, k, none⟩ = some (.string (str (pathsH.getD k []))) := by
  rw [cell_of_row _ _ k _ _ _ h]
  match k, hk with
  | 0, _ => rfl
  | 1, _ => rfl
  | 2, _ => rfl
  | 3, _ => rfl
theorem slice_yields12H {P : Program} {ops : Array Oper} {S : World → Prop} {o : Oper} {a : Act} (hw : Region.wanted o (yielded ops a.tmps) = true) (ty : TypeId) (x : Operand) (ho : o.op = .load ty x)
    (A : Addr) (hx : a.eval x = .pointer (some A)) (ao : Option Addr) (n c : Nat) {e : TypeId} (hu : P.underlying ty = some (.slice e)) (hS : ∀ w, S w → w.cell? A = some (.slice ao n c)) : YieldsIf P ops S o (.slice ao n c) a :=
  .inl ⟨hw, fun w h => by
    have hc := hS w h
    unfold execOp
    simp [ho, hx, Instr.loadAt, Instr.sureAddr, loadVar, isAgg, run_underlying hu, hc]⟩
theorem take_step {l : List DeedT} {k : Nat} {d : DeedT} (hd : l[k]? = some d) (h : Hist) : (l.take (k + 1)).foldl stepH h = stepH ((l.take k).foldl stepH h) d := by
  rw [List.take_add_one, hd, List.foldl_append]; rfl
theorem inv_take (l : List DeedT) (hs : ∀ d ∈ l, d.size < 256) (k : Nat) (hk : k ≤ 40) : ∃ n, InvH ((l.take k).foldl stepH hist0) n := by
  have hl : (l.take k).length ≤ 40 := by rw [List.length_take]; omega
  exact ⟨_, inv_fold (l.take k) hist0 0 inv0 (by omega) (fun d hd => hs d (List.mem_of_mem_take hd))⟩
theorem know_len {h : Hist} {n : Nat} (H : InvH h n) {i : Nat} (hi : i < 3) : (h.know i).length < 2000000 := by
  have := rising_length (H.vec i hi); omega
theorem results_tmp_cell {fn : Func} {p u : Tmp} {ty : TypeId} (h : fn.results = #[.tmp u, .cell p ty]) (tmps : Array Value) (P : Program) (w : World) :
    (results fn tmps).run P w =
      ((asAddr (tmps.getD p undef)).run P w).andThen fun a w₁ => ((loadVar ty a).run P w₁).andThen fun v w₂ => .ok (.tuple #[tmps.getD u undef, v]) w₂ := by
  simp only [results, h]
  simp [Sem.run_bind, Result.andThen]
theorem results_2cell {P : Program} {fn : Func} {p u : Tmp} {ty : TypeId} (h : fn.results = #[.tmp u, .cell p ty]) (tmps : Array Value) (w : World) (g : Nat) (t : TypeId) (cs : Array Value) (fr : Nat × Nat) (d : TypeDesc) (x : Value)
    (hp : tmps.getD p undef = .pointer (some ⟨g, 0, none⟩)) (hx : tmps.getD u undef = x) (hg : w.heap[g]? = some (.cells cs t fr))
    (hu : P.underlying ty = some d) (hd : (match d with | .struct _ | .array _ _ => true | _ => false) = true) (hi : (P.info? ty).map (·.size) = some cs.size) :
    (results fn tmps).run P w = .ok (.tuple #[x, .agg cs]) w := by
  rw [results_tmp_cell h, hp, hx]
  simp [asAddr, run_loadVar_row w g t ty cs fr d hg hu hd hi]
theorem dots_grownH {w w' : World} {v : Value} {l : List D2} {row : Option Nat} (h : HasDots w v l) (hg : w.grownBy w' row) (hne : l = [] ∨ v.ownBlock ≠ row) : HasDots w' v l := by
  obtain ⟨ao, cap, rfl, hnil, hc⟩ := h
  refine ⟨ao, cap, rfl, hnil, fun ad had => ⟨(hc ad had).1, fun j u hu => ?_⟩⟩
  rcases hne with rfl | hne
  · simp [dotsC] at hu
  · have h1 := (hc ad had).2 j u hu
    refine hg.cell h1 fun e => hne ?_
    rw [had]
    show some ad.block = row
    rw [← e]; unfold Addr.add; split <;> rfl
theorem typ_grown {w w' : World} {v : Value} {l : List D2} {row : Option Nat} (h : TypDots w v l) (hg : w.grownBy w' row) (hrow : ∀ k, row = some k → ∃ cs T fr, T ≠ 32 ∧ w.heap[k]? = some (.cells cs T fr)) : TypDots w' v l := by
  have hne : l = [] ∨ v.ownBlock ≠ row := h.2.elim .inl fun ⟨k, cs', fr', h1, h2⟩ => .inr fun e => by
    obtain ⟨cs, T, fr, h3, h4⟩ := hrow k (by rw [← e, h1])
    rw [h2] at h4; cases h4; exact h3 rfl
  refine ⟨dots_grownH h.1 hg hne, h.2.elim .inl fun ⟨k, cs', fr', h1, h2⟩ => ?_⟩
  rcases hne with rfl | hne
  · exact .inl rfl
  · exact .inr ⟨k, cs', fr', h1, (hg.block k (Array.getElem?_eq_some_iff.1 h2).1 (fun e => hne (by rw [h1, e]))).trans h2⟩
theorem own_blockH {w : World} {base : Nat} {e : TypeId} {size : Nat} {v : Value} {n : Nat} {xs : List Value} (h : w.ownsRow base e size v n xs) : ∀ b, v.ownBlock = some b → base ≤ b ∧ b < w.heap.size ∧ ∃ cs, w.heap[b]? = some (.cells cs e (0, 0)) := by
  intro b hb
  rcases h.2 with ⟨rfl, -⟩ | ⟨g, cap, cur, rfl, h1, h2, -⟩
  · cases hb
  · cases hb; exact ⟨h1, (Array.getElem?_eq_some_iff.1 h2).1, cur, h2⟩
theorem own_solo2 {w w' : World} {base g : Nat} {e : TypeId} {size : Nat} {v : Value} {n : Nat} {xs : List Value} (h : w.ownsRow base e size v n xs) (hs : Solo g w w') (hg : ∀ b, v.ownBlock = some b → b ≠ g) : w'.ownsRow base e size v n xs := by
  refine ⟨h.1, ?_⟩
  rcases h.2 with h0 | ⟨b, cap, cur, rfl, h1, h2, rest⟩
  · exact .inl h0
  · exact .inr ⟨b, cap, cur, rfl, h1, (hs.block b (hg b rfl)).trans h2, rest⟩
/-- What lies in memory while an event is being made in block g. -/
structure HistMid (w0 w : World) (a : Nat → Value) (h : Hist) (out : Value) (us : List (Ev × Value)) (g : Nat) : Prop where
  r1 : w.heap[w0.heap.size]? = some (.cells #[.slice none 0 0, .slice none 0 0, .slice none 0 0] 27 (0, 0))
  r2 : w.heap[w0.heap.size + 1]? = some (.cells #[a 0, a 1, a 2] 27 (0, 0))
  r3 : w.heap[w0.heap.size + 2]? = some (.cells #[.string ⟨#[97]⟩, .string ⟨#[97, 47, 98]⟩, .string ⟨#[99]⟩, .string ⟨#[100]⟩] 9 (0, 0))
  typ : ∀ j, j < 3 → TypDots w (a j) (h.know j)
  own : OwnEvs (w0.heap.size + 3) w out us
  low : w0.heap.size + 3 ≤ g
  apart : ∀ b, out.ownBlock = some b → b < g
  top : g < w.heap.size
  bel : Below w0.heap.size w0 w
theorem histMid_below {w0 w w' : World} {a : Nat → Value} {h : Hist} {out : Value} {us : List (Ev × Value)} {g : Nat} (H : HistMid w0 w a h out us g) (hb : Below w.heap.size w w') : HistMid w0 w' a h out us g :=
  ⟨row_kept H.r1 hb, row_kept H.r2 hb, row_kept H.r3 hb, fun j hj => typ_below (H.typ j hj) hb, ⟨own_below H.own.1 hb, fun x hx => typ_below (H.own.2 x hx) hb⟩, H.low, H.apart, Nat.lt_of_lt_of_le H.top hb.size, below_next H.bel hb⟩
theorem histMid_solo {w0 w w' : World} {a : Nat → Value} {h : Hist} {out : Value} {us : List (Ev × Value)} {g : Nat} {e : Ev} {v : Value} (H : HistMid w0 w a h out us g) (he : EvAt w g 36 e v) (hs : Solo g w w') : HistMid w0 w' a h out us g := by
  have hl := H.low
  exact ⟨(hs.block _ (by omega)).trans H.r1, (hs.block _ (by omega)).trans H.r2, (hs.block _ (by omega)).trans H.r3, fun j hj => typ_solo (H.typ j hj) hs he (by decide),
    ⟨own_solo2 H.own.1 hs (fun b hb => by have := H.apart b hb; omega), fun x hx => typ_solo (H.own.2 x hx) hs he (by decide)⟩, H.low, H.apart, by rw [hs.size]; exact H.top, solo_below H.bel hs (by omega)⟩
theorem hist_event {w0 wz w9 wA w10 : World} {h : Hist} {d : DeedT} {out out' : Value} {a : Nat → Value} {us : List (Ev × Value)} {i g : Nat} {ao : Option Addr} {n c : Nat} {vd : Value} (hL : d.learns = false) (hi : i = d.who % 3) (hi3 : i < 3) (hus : us.map (·.1) = h.out)
    (H : HistMid w0 wz a h out us g) (hvd : vd = a i) (hu : TypDots wz (.slice ao n c) (withV (h.know i) (evH h d).r (evH h d).q))
    (hg : w9.heap[w0.heap.size + 1]? = some (.cells ((#[a 0, a 1, a 2] : Array Value).setIfInBounds i (.slice ao n c)) 27 (0, 0))) (hs : Solo (w0.heap.size + 1) wz w9) (hA : Below w9.heap.size w9 wA)
    (hown : w10.ownsRow (w0.heap.size + 3) 36 38 out' (us ++ [(evH h d, vd)]).length (evsC (us ++ [(evH h d, vd)]))) (hgr : wA.grownBy w10 out.ownBlock) : HistAt w0 w10 (stepH h d) out' := by
  have hl := H.low
  have htop := H.top
  rw [know_set a _ hi3] at hg
  have hstep : stepH h d = ⟨putK h.know i (withV (h.know i) (evH h d).r (evH h d).q), h.out ++ [evH h d]⟩ := by rw [stepH, hL, if_neg (by simp), hi]
  have hob := own_blockH H.own.1
  have h9 : w9.heap.size = wz.heap.size := hs.size
  have szA := hA.size
  have hold : ∀ b, out.ownBlock = some b → ∃ cs T fr, T ≠ 32 ∧ wA.heap[b]? = some (.cells cs T fr) := fun b hb => by
    obtain ⟨h1, h2, cs, h3⟩ := hob b hb
    exact ⟨cs, 36, (0, 0), by decide, row_kept ((hs.block b (by omega)).trans h3) hA⟩
  have low : ∀ {B : Nat} {o : Obj}, B < w0.heap.size + 3 → w9.heap[B]? = some o → w10.heap[B]? = some o := fun {B o} hB ho => by
    have hlt : B < w9.heap.size := (Array.getElem?_eq_some_iff.1 ho).1
    exact (hgr.block B (by omega) (fun e => by have := (hob B e.symm).1; omega)).trans ((hA.block B hlt).trans ho)
  have ty : ∀ {v : Value} {l : List D2}, TypDots wz v l → TypDots w10 v l := fun {v l} ht => typ_grown (typ_below (typ_solo ht hs H.r2 (by decide)) hA) hgr hold
  rw [hstep]
  refine ⟨fun j => if j = i then .slice ao n c else a j, us ++ [(evH h d, vd)], by rw [List.map_append, hus]; rfl, ⟨hown, fun x hx => ?_⟩, low (by omega) ((hs.block _ (by omega)).trans H.r1), low (by omega) hg, fun j hj => ?_, low (by omega) ((hs.block _ (by omega)).trans H.r3), ?_, ?_⟩
  · rcases List.mem_append.1 hx with hx | hx
    · exact ty (H.own.2 x hx)
    · rw [List.mem_singleton.1 hx, hvd]
      have := H.typ i hi3
      exact ty (show TypDots wz (a i) (evH h d).deps by unfold evH; rw [← hi]; exact this)
  · by_cases hji : j = i
    · simp only [if_pos hji, putK]; exact ty hu
    · simp only [if_neg hji, putK]; exact ty (H.typ j hj)
  · have := hgr.size; omega
  · refine below_grown (below_next (solo_below H.bel hs (by omega)) hA) hgr (by have := H.bel.size; omega) (fun b hb => ?_)
    have := (hob b hb).1; omega
set_option maxRecDepth 100000 in
theorem ev_slice1 (e : Ev) (ao : Option Addr) (n c : Nat) : Tryd.prog.builtSlice 36 1 [(0, .agg (evC e (.slice ao n c)))] = some (evC e (.slice ao n c)) := by kernel_rfl
/-- A slice of one event, made. -/
theorem build_ev1 {ops : Array Oper} {rest : List Oper} {o : Oper} {a : Act} {w : World} {Q : Exit → Act → World → Prop} (hg : o.guard = none) (d : Nat) (hd : o.dst = some d) (x : Operand) (ho : o.op = .buildSlice 24 1 #[(0, x)])
    (N : Nat) (hN : w.heap.size = N) (e : Ev) (ao : Option Addr) (n c : Nat) (hx : a.eval x = .agg (evC e (.slice ao n c)))
    (h : ∀ w', EvAt w' N 36 e (.slice ao n c) → Below w.heap.size w w' → N < w'.heap.size → wpList Tryd.prog ops Q rest (a.put (some d) (.slice (some ⟨N, 0, none⟩) 1 1)) w') : wpList Tryd.prog ops Q (o :: rest) a w := by
  refine Go.Great.wpList_buildSliceTo hg 24 36 1 #[(0, x)] ho N hN (some d) hd Tryd.underlying24 (evC e (.slice ao n c)) ?_ (h _ ?_ ((Below.refl _ _).alloc (Nat.le_refl _) _) ?_)
  · have hp : ((#[(0, x)] : Array (Nat × Operand)).map fun (i, x) => (i, a.eval x)).toList = [(0, .agg (evC e (.slice ao n c)))] := by simp [hx]
    rw [hp]; exact ev_slice1 e ao n c
  · rw [← hN]; exact heap_last _ _
  · rw [size_of_alloc, hN]; omega
theorem hist_len (l : List DeedT) : ∀ k, ((l.take k).foldl stepH hist0).out.length ≤ k
  | 0 => by simp [hist0]
  | k + 1 => by
    have ih := hist_len l k
    cases hd : l[k]? with
    | none => rw [List.take_add_one, hd]; simpa using Nat.le_succ_of_le ih
    | some d =>
      rw [take_step hd]
      generalize (l.take k).foldl stepH hist0 = h at *
      unfold stepH
      split
      · exact Nat.le_succ_of_le ih
      · simp only [List.length_append, List.length_cons, List.length_nil]; omega
set_option maxRecDepth 100000 in
theorem intSizeH : (Tryd.prog.info? 3).map (·.size) = some 1 := by kernel_rfl
set_option maxRecDepth 100000 in
theorem ev_kindH (e : Ev) (v : Value) (k : Int) : (evC e v).setIfInBounds 3 (.int .i64 k) = evC ⟨e.r, e.q, e.deps, k, e.path, e.sum, e.size⟩ v := by kernel_rfl
set_option maxRecDepth 100000 in
theorem ev_sizeH (e : Ev) (v : Value) (k : Int) : (evC e v).setIfInBounds 37 (.int .i64 k) = evC ⟨e.r, e.q, e.deps, e.kind, e.path, e.sum, k⟩ v := by kernel_rfl
set_option maxRecDepth 100000 in
theorem ev_sumH (e : Ev) (v : Value) (f : Nat → BitVec 32) : (splice (evC e v).toList 5 (row .u8 32 f).toList).toArray = evC ⟨e.r, e.q, e.deps, e.kind, e.path, f, e.size⟩ v := by kernel_rfl
theorem row_onesH (f : Nat → BitVec 32) : ∀ u ∈ (row .u8 32 f).toList, u.oneCell' = true := fun u hu => (Array.all_eq_true_iff_forall_mem.1 (row_one .u8 32 f)) u (by simpa using hu)
set_option maxRecDepth 100000 in
theorem dig_built0 : Tryd.prog.built 34 [] = some (row .u8 32 zeroF) := by kernel_rfl
theorem load_cell_on {P : Program} {ops : Array Oper} {rest : List Oper} {o : Oper} {a : Act} {w : World} {Q : Exit → Act → World → Prop} (hw : Region.wanted o (yielded ops a.tmps) = true) (ty : TypeId) (x : Operand) (ho : o.op = .load ty x)
    (A : Addr) (hx : a.eval x = .pointer (some A)) (b : Bool) (hu : P.underlying ty = some .bool) (hc : w.cell? A = some (.bool b)) (h : wpList P ops Q rest (a.put o.dst (.bool b)) w) : wpList P ops Q (o :: rest) a w := by
  have hy : (execOp a.eval o).run P w = .ok (.value (.bool b)) w := by
    unfold execOp
    simp [ho, hx, Instr.loadAt, Instr.sureAddr, loadVar, isAgg, run_underlying hu, hc]
  refine wpList_step fun K hK => ?_
  rw [if_pos hw]
  unfold Oper.wp
  rw [hy]
  exact hK _ _ h
end Go.Proofs.YthkojphgjlojgaaDoor
namespace Go.Proofs.YthkojphgjlojgaaDoor
open Go.RowKit
set_option maxRecDepth 100000 in
set_option maxHeartbeats 16000000 in
theorem history_any (l : List DeedT) (hs : ∀ x ∈ l, x.who < 256 ∧ x.other < 256 ∧ x.path < 256 ∧ x.size < 256) (v : Value) (w : World) (hv : HasDeeds w v l) : Calls Tryd.prog 7 #[v] w fun x w' => ∃ vo, ∃ a : Nat → Value, x = .returned (.tuple #[vo, .agg #[a 0, a 1, a 2]]) ∧ HasEvs w' vo (histN l).out ∧ (∀ j, j < 3 → TypDots w' (a j) ((histN l).know j)) ∧ Below w.heap.size w w' := by
  have HS := Lib.hid hs
  have HV := Lib.hid hv
  obtain ⟨n, hn⟩ : ∃ n, n = l.length := ⟨_, rfl⟩
  obtain ⟨ao, cap, rfl⟩ := deeds_shape hv n hn
  have HN := Lib.hid hn
  clear hs hv hn
  go_enter Tryd.func7, Tryd.ntmps7
  go_wp2
  have hk1 := heap_last (w.alloc (.cells #[.slice none 0 0, .slice none 0 0, .slice none 0 0] 27 (0, 0))) (.cells #[.slice none 0 0, .slice none 0 0, .slice none 0 0] 27 (0, 0))
  have HI := Lib.hid (show HistAt w (((w.alloc (.cells #[.slice none 0 0, .slice none 0 0, .slice none 0 0] 27 (0, 0))).alloc (.cells #[.slice none 0 0, .slice none 0 0, .slice none 0 0] 27 (0, 0))).alloc (.cells #[.string ⟨#[97]⟩, .string ⟨#[97, 47, 98]⟩, .string ⟨#[99]⟩, .string ⟨#[100]⟩] 9 (0, 0))) hist0 (.slice none 0 0) from hist_start w)
  clear hk1
  go_loopw [5, 7, 8, 9, 10] (fun o c _ _ _ wr => ∃ k : Nat, k ≤ n ∧ k ≤ 40 ∧ c = .int .i64 (k : Int) ∧ HistAt w wr ((l.take k).foldl stepH hist0) o) (fun _ c _ _ _ _ => 40 - (intOf c).toNat)
  case atStart => exact ⟨0, by omega, by omega, rfl, HI.out⟩
  case round =>
    obtain ⟨k, hkn, hk40, rfl, hh⟩ := hrel
    have HH := Lib.hid hh
    by_cases hr : k < n ∧ k < 40
    · have q0 : (k : Int) < (n : Int) := by omega
      have q1 : (k : Int) < 40 := by omega
      obtain ⟨d, hd⟩ : ∃ d, l[k]? = some d := ⟨_, List.getElem?_eq_getElem (by have := HN.out; omega)⟩
      obtain ⟨a, us, hus, hown, hres, hkn2, htyp, hpaths, hsz, hbel⟩ := hh
      obtain ⟨ad, cap', e, hdc⟩ := deeds_at (deeds_below HV.out hbel) n k HN.out.symm d hd
      cases e
      obtain ⟨b1, b2, b3, b4⟩ := HS.out d (List.mem_of_getElem? hd)
      obtain ⟨i, hi⟩ : ∃ i, i = d.who % 3 := ⟨_, rfl⟩
      obtain ⟨oo, hoo⟩ : ∃ j, j = d.other % 3 := ⟨_, rfl⟩
      have hi3 : i < 3 := by omega
      have ho3 : oo < 3 := by omega
      have q3 : (i : Int) < 3 := by omega
      have q4 : (oo : Int) < 3 := by omega
      obtain ⟨wa, ta, ea⟩ := deed_nums d.who 3 b1
      obtain ⟨wo, tq, eo⟩ := deed_nums d.other 3 b2
      have wo2 : IntKind.i64.wrap (d.other : Int) = (d.other : Int) := deed_wrap _ b2
      rw [← hi] at ta ea
      rw [← hoo] at tq eo
      have ta' : (d.who : Int).tmod 3 = (i : Int) := ta
      have ea' : (d.who : Int) % 3 = (i : Int) := ea
      have tq' : (d.other : Int).tmod 3 = (oo : Int) := tq
      have eo' : (d.other : Int) % 3 = (oo : Int) := eo
      have HIO := Lib.hid (And.intro hi (And.intro hoo (And.intro hi3 ho3)))
      clear ta ea tq eo hi hoo hi3 ho3
      have HDC := Lib.hid hdc
      have HD := Lib.hid hd
      have HB := Lib.hid (And.intro b1 (And.intro b2 (And.intro b3 b4)))
      have HO := Lib.hid hown
      have HR := Lib.hid (And.intro hres (And.intro hkn2 (And.intro hpaths hsz)))
      have HY := Lib.hid htyp
      have HU := Lib.hid hus
      have HBL := Lib.hid hbel
      clear hdc hd b1 b2 b3 b4 hown hres hkn2 hpaths hsz htyp hus hbel
      go_upto_region 9 with (first
        | (refine load_deed (by rfl) 56 (.tmp 24) rfl (ad.add (k * 6)) rfl Tryd.underlying56 deedSize HDC.out ?_))
      have hbw := (Below.refl wr.heap.size wr).alloc (Nat.le_refl _) (.cells #[.int .u8 (d.who : Int), .int .u8 (d.other : Int), .int .u8 (d.path : Int), .bool d.learns, .bool d.gone, .int .u8 (d.size : Int)] 56 (0, 0))
      have HD1 := Lib.hid (heap_last wr (.cells #[.int .u8 (d.who : Int), .int .u8 (d.other : Int), .int .u8 (d.path : Int), .bool d.learns, .bool d.gone, .int .u8 (d.size : Int)] 56 (0, 0)))
      have HR1 := Lib.hid (And.intro (row_kept HR.out.1 hbw) (And.intro (row_kept HR.out.2.1 hbw) (And.intro (row_kept HR.out.2.2.1 hbw) (Nat.le_trans HR.out.2.2.2 hbw.size))))
      have HY1 := Lib.hid (fun j hj => typ_below (HY.out j hj) hbw)
      have HO1 := Lib.hid (show OwnEvs _ _ _ us from ⟨own_below HO.out.1 hbw, fun x hx => typ_below (HO.out.2 x hx) hbw⟩)
      have HB1 := Lib.hid (below_next HBL.out hbw)
      have HLT := Lib.hid (show w.heap.size + 3 ≤ wr.heap.size from HR.out.2.2.2)
      clear hbw
      generalize wr.alloc (.cells #[.int .u8 (d.who : Int), .int .u8 (d.other : Int), .int .u8 (d.path : Int), .bool d.learns, .bool d.gone, .int .u8 (d.size : Int)] 56 (0, 0)) = W1 at *
      have c3 : W1.cell? ⟨wr.heap.size, 3, none⟩ = some (.bool d.learns) := (cell_of_row _ _ 3 _ _ _ HD1.out).trans rfl
      cases hL : d.learns with
      | true =>
        rw [hL] at c3
        go_upto_region 10 with fail
        obtain ⟨nn, hinv⟩ := inv_take l (fun x hx => (HS.out x hx).2.2.2) k hk40
        have JN := Lib.hid (fun v u w hv hu => refJoin_typ10 (((l.take k).foldl stepH hist0).know i) (((l.take k).foldl stepH hist0).know oo) (know_len hinv HIO.out.2.2.1) (know_len hinv HIO.out.2.2.2) v u w hv hu)
        clear hinv
        generalize hgen : (l.take k).foldl stepH hist0 = h at *
        obtain ⟨ai, ci, hai⟩ := dots_shape (HY1.out i HIO.out.2.2.1).1 _ rfl
        obtain ⟨aj, cj, haj⟩ := dots_shape (HY1.out oo HIO.out.2.2.2).1 _ rfl
        have HAI := Lib.hid hai
        have HAJ := Lib.hid haj
        have HG := Lib.hid hgen
        clear hai haj hgen
        refine wp_region_held_drew (S := fun w' => Below w.heap.size w w' ∧ w'.heap[wr.heap.size]? = some (.cells #[.int .u8 (d.who : Int), .int .u8 (d.other : Int), .int .u8 (d.path : Int), .bool d.learns, .bool d.gone, .int .u8 (d.size : Int)] 56 (0, 0))) (by kernel_rfl) ⟨drawS HB1.out, HD1.out⟩ (fun hHeld => ?_)
        have hdr : Below W1.heap.size W1 W1.drew := drawS (Below.refl _ _)
        have RD := Lib.hid (show W1.drew.heap[w.heap.size]? = _ ∧ W1.drew.heap[w.heap.size + 1]? = _ ∧ W1.drew.heap[w.heap.size + 2]? = _ ∧ w.heap.size + 3 ≤ W1.drew.heap.size from HR1.out)
        have YD := Lib.hid (fun j hj => typ_below (HY1.out j hj) hdr)
        have OD := Lib.hid (show OwnEvs _ _ _ us from ⟨own_below HO1.out.1 hdr, fun x hx => typ_below (HO1.out.2 x hx) hdr⟩)
        clear hdr
        generalize W1.drew = wd at *
        refine take_at (i := 0) 32 rfl rfl (by kernel_rfl) (by kernel_rfl) (by kernel_rfl) (fun _ _ _ h => h) (sure_yes (by rfl) (fun w => by go_simp; try with_reducible rfl)) hHeld ?_
        simp only [List.setIfInBounds_toArray, List.set_cons_zero, List.set_cons_succ]
        refine take_at (i := 1) 33 rfl rfl (by kernel_rfl) (by kernel_rfl) (by kernel_rfl) (fun _ _ _ h => h) (sure_yes (by rfl) (fun w => by go_simp; try with_reducible rfl)) hHeld ?_
        simp only [List.setIfInBounds_toArray, List.set_cons_zero, List.set_cons_succ]
        refine take_at (i := 2) 34 rfl rfl (by kernel_rfl) (by kernel_rfl) (by kernel_rfl) (fun _ _ _ h => h) (sure_yes (by rfl) (fun w => by go_simp; try with_reducible rfl)) hHeld ?_
        simp only [List.setIfInBounds_toArray, List.set_cons_zero, List.set_cons_succ]
        refine take_at (i := 4) 36 rfl rfl (by kernel_rfl) (by kernel_rfl) (by kernel_rfl) (fun _ _ _ h => h) (sure_yes (by rfl) (fun w => by go_simp; try with_reducible rfl)) hHeld ?_
        simp only [List.setIfInBounds_toArray, List.set_cons_zero, List.set_cons_succ]
        refine take_at (i := 5) 37 rfl rfl (by kernel_rfl) (by kernel_rfl) (by kernel_rfl) (fun _ _ _ h => h) (cell_yields (by rfl) 5 (.tmp 36) rfl wr.heap.size 1 rfl .u8 _ Tryd.underlying5 (fun _ h => (cell_of_row _ _ 1 _ _ _ h.2).trans rfl)) hHeld ?_
        simp only [List.setIfInBounds_toArray, List.set_cons_zero, List.set_cons_succ]
        refine take_at (i := 6) 38 rfl rfl (by kernel_rfl) (by kernel_rfl) (by kernel_rfl) (fun _ _ _ h => h) (sure_yes (by rfl) (fun w => by go_simp; try with_reducible rfl)) hHeld ?_
        simp only [List.setIfInBounds_toArray, List.set_cons_zero, List.set_cons_succ]
        refine take_at (i := 7) 39 rfl rfl (by kernel_rfl) (by kernel_rfl) (by kernel_rfl) (fun _ _ _ h => h) (sure_yes (by rfl) (fun w => by go_simp; try with_reducible rfl)) hHeld ?_
        simp only [List.setIfInBounds_toArray, List.set_cons_zero, List.set_cons_succ]
        refine take_at (i := 8) 40 rfl rfl (by kernel_rfl) (by kernel_rfl) (by kernel_rfl) (fun _ _ _ h => h) (sure_yes (by rfl) (fun w => by go_simp; try with_reducible rfl)) hHeld ?_
        simp only [List.setIfInBounds_toArray, List.set_cons_zero, List.set_cons_succ]
        refine wpAnyH_ready (rs := [3, 9]) (by kernel_rfl) (by simp) ?_
        refine AllReadyH.cons rfl (fun CONT hCONT => ?_) (AllReadyH.cons rfl (fun CONT hCONT => ?_) (AllReadyH.nil))
        · refine load_cell_at 35 rfl (by rfl) 26 (.tmp 34) rfl ⟨w.heap.size + 1, i, none⟩ rfl ai _ ci Tryd.underlying26 (by rw [← HAI.out]; exact know_cell RD.out.2.1 HIO.out.2.2.1) ?_
          refine hCONT.out _ _ hHeld (fun hHeld => ?_)
          clear hCONT CONT
          simp only [List.setIfInBounds_toArray, List.set_cons_zero, List.set_cons_succ]
          refine wpAnyH_ready (rs := [9]) (by kernel_rfl) (by simp) ?_
          refine AllReadyH.cons rfl (fun CONT hCONT => ?_) AllReadyH.nil
          refine load_cell_at 41 rfl (by rfl) 26 (.tmp 40) rfl ⟨w.heap.size + 1, oo, none⟩ rfl aj _ cj Tryd.underlying26 (by rw [← HAJ.out]; exact know_cell RD.out.2.1 HIO.out.2.2.2) ?_
          refine hCONT.out _ _ hHeld (fun hHeld => ?_)
          clear hCONT CONT
          simp only [List.setIfInBounds_toArray, List.set_cons_zero, List.set_cons_succ]
          refine wpAnyH_ready (rs := [10]) (by kernel_rfl) (by simp) ?_
          refine AllReadyH.cons rfl (fun CONT hCONT => ?_) AllReadyH.nil
          go_simp
          go_at_call 24
          refine (JN.out _ _ _ (by rw [← HAI.out]; exact (YD.out i HIO.out.2.2.1).1) (by rw [← HAJ.out]; exact (YD.out oo HIO.out.2.2.2).1)).mono ?_
          rintro x wz ⟨u, rfl, hu, hb⟩
          dsimp only
          have RZ := Lib.hid (And.intro (row_kept RD.out.1 hb) (And.intro (row_kept RD.out.2.1 hb) (And.intro (row_kept RD.out.2.2.1 hb) (Nat.le_trans RD.out.2.2.2 hb.size))))
          have YZ := Lib.hid (fun j hj => typ_below (YD.out j hj) hb)
          have OZ := Lib.hid (show OwnEvs _ _ _ us from ⟨own_below OD.out.1 hb, fun x hx => typ_below (OD.out.2 x hx) hb⟩)
          have UZ := Lib.hid hu
          obtain ⟨ao3, cap3, rfl⟩ := dots_shape hu.1 _ rfl
          refine hCONT.out _ _ ⟨below_next hHeld.1 hb, row_kept hHeld.2 hb⟩ (fun hHeld => ?_)
          clear hCONT CONT hb hu
          refine take_at (i := 11) 43 rfl rfl (by kernel_rfl) (by kernel_rfl) (by kernel_rfl) (fun _ _ _ h => h) (sure_yes (by rfl) (fun w => by go_simp; try with_reducible rfl)) hHeld ?_
          simp only [List.setIfInBounds_toArray, List.set_cons_zero, List.set_cons_succ]
          refine wpAnyH_ready (rs := [12]) (by kernel_rfl) (by simp) ?_
          refine AllReadyH.cons rfl (fun CONT hCONT => ?_) AllReadyH.nil
          refine store_slice_at rfl (by rfl) 26 (.tmp 43) (.tmp 42) rfl (w.heap.size + 1) i #[a 0, a 1, a 2] ao3 _ cap3 27 RZ.out.2.1 rfl rfl HIO.out.2.2.1 vecSize12 (fun w9 hg hs => ?_)
          have hlt := HLT.out
          have GK := Lib.hid (show w9.heap[w.heap.size + 1]? = _ from hg)
          have GS := Lib.hid hs
          refine hCONT.out _ _ ⟨solo_below hHeld.1 hs (by omega), (hs.block _ (by omega)).trans hHeld.2⟩ (fun hHeld => ?_)
          clear hCONT CONT hg hs hlt
          refine wpAnyH_done (by kernel_rfl) ?_ _
          have HX := Lib.hid (show HistAt w w9 ((l.take (k + 1)).foldl stepH hist0) _ by
            rw [take_step HD.out, HG.out]
            exact hist_learn hL HIO.out.1 HIO.out.2.1 HIO.out.2.2.1 HU.out RZ.out.1 RZ.out.2.1 RZ.out.2.2.1 RZ.out.2.2.2 YZ.out OZ.out UZ.out GK.out GS.out hHeld.1)
          go_wp2
          refine ⟨⟨k + 1, by omega, by omega, by simp, HX.out⟩, ?_⟩
          simp [intOf] <;> omega
        · refine load_cell_at 41 rfl (by rfl) 26 (.tmp 40) rfl ⟨w.heap.size + 1, oo, none⟩ rfl aj _ cj Tryd.underlying26 (by rw [← HAJ.out]; exact know_cell RD.out.2.1 HIO.out.2.2.2) ?_
          refine hCONT.out _ _ hHeld (fun hHeld => ?_)
          clear hCONT CONT
          simp only [List.setIfInBounds_toArray, List.set_cons_zero, List.set_cons_succ]
          refine wpAnyH_ready (rs := [3]) (by kernel_rfl) (by simp) ?_
          refine AllReadyH.cons rfl (fun CONT hCONT => ?_) AllReadyH.nil
          refine load_cell_at 35 rfl (by rfl) 26 (.tmp 34) rfl ⟨w.heap.size + 1, i, none⟩ rfl ai _ ci Tryd.underlying26 (by rw [← HAI.out]; exact know_cell RD.out.2.1 HIO.out.2.2.1) ?_
          refine hCONT.out _ _ hHeld (fun hHeld => ?_)
          clear hCONT CONT
          simp only [List.setIfInBounds_toArray, List.set_cons_zero, List.set_cons_succ]
          refine wpAnyH_ready (rs := [10]) (by kernel_rfl) (by simp) ?_
          refine AllReadyH.cons rfl (fun CONT hCONT => ?_) AllReadyH.nil
          go_simp
          go_at_call 24
          refine (JN.out _ _ _ (by rw [← HAI.out]; exact (YD.out i HIO.out.2.2.1).1) (by rw [← HAJ.out]; exact (YD.out oo HIO.out.2.2.2).1)).mono ?_
          rintro x wz ⟨u, rfl, hu, hb⟩
          dsimp only
          have RZ := Lib.hid (And.intro (row_kept RD.out.1 hb) (And.intro (row_kept RD.out.2.1 hb) (And.intro (row_kept RD.out.2.2.1 hb) (Nat.le_trans RD.out.2.2.2 hb.size))))
          have YZ := Lib.hid (fun j hj => typ_below (YD.out j hj) hb)
          have OZ := Lib.hid (show OwnEvs _ _ _ us from ⟨own_below OD.out.1 hb, fun x hx => typ_below (OD.out.2 x hx) hb⟩)
          have UZ := Lib.hid hu
          obtain ⟨ao3, cap3, rfl⟩ := dots_shape hu.1 _ rfl
          refine hCONT.out _ _ ⟨below_next hHeld.1 hb, row_kept hHeld.2 hb⟩ (fun hHeld => ?_)
          clear hCONT CONT hb hu
          refine take_at (i := 11) 43 rfl rfl (by kernel_rfl) (by kernel_rfl) (by kernel_rfl) (fun _ _ _ h => h) (sure_yes (by rfl) (fun w => by go_simp; try with_reducible rfl)) hHeld ?_
          simp only [List.setIfInBounds_toArray, List.set_cons_zero, List.set_cons_succ]
          refine wpAnyH_ready (rs := [12]) (by kernel_rfl) (by simp) ?_
          refine AllReadyH.cons rfl (fun CONT hCONT => ?_) AllReadyH.nil
          refine store_slice_at rfl (by rfl) 26 (.tmp 43) (.tmp 42) rfl (w.heap.size + 1) i #[a 0, a 1, a 2] ao3 _ cap3 27 RZ.out.2.1 rfl rfl HIO.out.2.2.1 vecSize12 (fun w9 hg hs => ?_)
          have hlt := HLT.out
          have GK := Lib.hid (show w9.heap[w.heap.size + 1]? = _ from hg)
          have GS := Lib.hid hs
          refine hCONT.out _ _ ⟨solo_below hHeld.1 hs (by omega), (hs.block _ (by omega)).trans hHeld.2⟩ (fun hHeld => ?_)
          clear hCONT CONT hg hs hlt
          refine wpAnyH_done (by kernel_rfl) ?_ _
          have HX := Lib.hid (show HistAt w w9 ((l.take (k + 1)).foldl stepH hist0) _ by
            rw [take_step HD.out, HG.out]
            exact hist_learn hL HIO.out.1 HIO.out.2.1 HIO.out.2.2.1 HU.out RZ.out.1 RZ.out.2.1 RZ.out.2.2.1 RZ.out.2.2.2 YZ.out OZ.out UZ.out GK.out GS.out hHeld.1)
          go_wp2
          refine ⟨⟨k + 1, by omega, by omega, by simp, HX.out⟩, ?_⟩
          simp [intOf] <;> omega
      | false =>
        rw [hL] at c3
        go_upto_region 11 with fail
        obtain ⟨nn, hinv⟩ := inv_take l (fun x hx => (HS.out x hx).2.2.2) k hk40
        have GN := Lib.hid (fun v w hv => refGet_any10 (((l.take k).foldl stepH hist0).know i) (know_len hinv HIO.out.2.2.1) (i : Int) v w hv)
        have HKL := Lib.hid (know_len hinv HIO.out.2.2.1)
        clear hinv
        generalize hgen : (l.take k).foldl stepH hist0 = h at *
        obtain ⟨ai, ci, hai⟩ := dots_shape (HY1.out i HIO.out.2.2.1).1 _ rfl
        have HAI := Lib.hid hai
        have HG := Lib.hid hgen
        have hbd := getV_bd (h.know i) (i : Int)
        obtain ⟨G, hG⟩ : ∃ G, G = getV (h.know i) (i : Int) := ⟨_, rfl⟩
        obtain ⟨q, hq⟩ : ∃ q, G + 1 = q := ⟨_, rfl⟩
        rw [← hG] at GN hbd
        obtain ⟨pp, hpp⟩ : ∃ pp, pp = d.path % 4 := ⟨_, rfl⟩
        have hp4 : pp < 4 := by rw [hpp]; exact Nat.mod_lt _ (by decide)
        have q5 : (pp : Int) < 4 := by omega
        obtain ⟨EN, hEN⟩ : ∃ EN : Ev, EN = ⟨(i : Int), q, h.know i, 1, pathsH.getD pp [], sizeF d.size, (d.size : Int)⟩ := ⟨_, rfl⟩
        have HEN := Lib.hid hEN
        have HP4 := Lib.hid (And.intro hpp (And.intro hp4 (And.intro hG hq)))
        have wq : IntKind.i64.wrap (G + 1) = q := by rw [hq, IntKind.wrap_i64]; omega
        have wq2 : wrap64 (G + 1) = q := by rw [hq, wrap64]; omega
        have ws2 : IntKind.i64.wrap (d.size : Int) = (d.size : Int) := deed_wrap _ HB.out.2.2.2
        have ws3 : wrap64 (d.size : Int) = (d.size : Int) := (deed_nums d.size 1 HB.out.2.2.2).1
        obtain ⟨wp, tp, ep⟩ := deed_nums d.path 4 HB.out.2.2.1
        rw [← hpp] at tp ep
        have wp2 : IntKind.i64.wrap (d.path : Int) = (d.path : Int) := deed_wrap _ HB.out.2.2.1
        have tp' : (d.path : Int).tmod 4 = (pp : Int) := tp
        have ep' : (d.path : Int) % 4 = (pp : Int) := ep
        clear hai hgen hEN hpp hp4 hG hq hbd tp ep
        go_cut [10] (fun s10 wx => ∃ PB, s10 = .pointer (some ⟨PB, 0, none⟩) ∧ W1.heap.size ≤ PB ∧ EvAt wx PB 36 EN (.slice ai (h.know i).length ci) ∧ Below W1.heap.size W1 wx)
        case first =>
          rename_i JJ KK hJJ hKK
          have HJJ := Lib.hid hJJ
          have HKK := Lib.hid hKK
          clear hJJ hKK
          refine wp_region_held_drew (S := fun w' => Below W1.heap.size W1 w') (by kernel_rfl) (drawS (Below.refl _ _)) (fun hHeld => ?_)
          generalize W1.drew = wd at hHeld ⊢
          refine take_at (i := 0) 44 rfl rfl (by kernel_rfl) (by kernel_rfl) (by kernel_rfl) (fun _ _ _ h => h) (sure_yes (by rfl) (fun w => by go_simp; try with_reducible rfl)) hHeld ?_
          simp only [List.setIfInBounds_toArray, List.set_cons_zero, List.set_cons_succ]
          refine take_at (i := 1) 45 rfl rfl (by kernel_rfl) (by kernel_rfl) (by kernel_rfl) (fun _ _ _ h => h) (sure_yes (by rfl) (fun w => by go_simp; try with_reducible rfl)) hHeld ?_
          simp only [List.setIfInBounds_toArray, List.set_cons_zero, List.set_cons_succ]
          refine take_at (i := 2) 46 rfl rfl (by kernel_rfl) (by kernel_rfl) (by kernel_rfl) (fun _ _ _ h => h) (sure_yes (by rfl) (fun w => by go_simp; try with_reducible rfl)) hHeld ?_
          simp only [List.setIfInBounds_toArray, List.set_cons_zero, List.set_cons_succ]
          refine take_at (i := 4) 48 rfl rfl (by kernel_rfl) (by kernel_rfl) (by kernel_rfl) (fun _ _ _ h => h) (sure_yes (by rfl) (fun w => by go_simp; try with_reducible rfl)) hHeld ?_
          simp only [List.setIfInBounds_toArray, List.set_cons_zero, List.set_cons_succ]
          refine take_at (i := 8) 52 rfl rfl (by kernel_rfl) (by kernel_rfl) (by kernel_rfl) (fun _ _ _ h => h) (sure_yes (by rfl) (fun w => by go_simp; try with_reducible rfl)) hHeld ?_
          simp only [List.setIfInBounds_toArray, List.set_cons_zero, List.set_cons_succ]
          refine take_at (i := 9) 53 rfl rfl (by kernel_rfl) (by kernel_rfl) (by kernel_rfl) (fun _ _ _ h => h) (sure_yes (by rfl) (fun w => by go_simp; try with_reducible rfl)) hHeld ?_
          simp only [List.setIfInBounds_toArray, List.set_cons_zero, List.set_cons_succ]
          refine take_at (i := 11) 55 rfl rfl (by kernel_rfl) (by kernel_rfl) (by kernel_rfl) (fun _ _ _ h => h) (sure_yes (by rfl) (fun w => by go_simp; try with_reducible rfl)) hHeld ?_
          simp only [List.setIfInBounds_toArray, List.set_cons_zero, List.set_cons_succ]
          refine take_at (i := 12) 56 rfl rfl (by kernel_rfl) (by kernel_rfl) (by kernel_rfl) (fun _ _ _ h => h) (sure_yes (by rfl) (fun w => by go_simp; try with_reducible rfl)) hHeld ?_
          simp only [List.setIfInBounds_toArray, List.set_cons_zero, List.set_cons_succ]
          refine take_at (i := 18) 62 rfl rfl (by kernel_rfl) (by kernel_rfl) (by kernel_rfl) (fun _ _ _ h => h) (sure_yes (by rfl) (fun w => by go_simp; try with_reducible rfl)) hHeld ?_
          simp only [List.setIfInBounds_toArray, List.set_cons_zero, List.set_cons_succ]
          refine take_at (i := 21) 65 rfl rfl (by kernel_rfl) (by kernel_rfl) (by kernel_rfl) (fun _ _ _ h => h) (sure_yes (by rfl) (fun w => by go_simp; try with_reducible rfl)) hHeld ?_
          simp only [List.setIfInBounds_toArray, List.set_cons_zero, List.set_cons_succ]
          refine take_at (i := 3) 47 rfl rfl (by kernel_rfl) (by kernel_rfl) (by kernel_rfl) (fun _ _ _ h => h) (slice_yields12H (by rfl) 26 (.tmp 46) rfl ⟨w.heap.size + 1, i, none⟩ rfl ai _ ci Tryd.underlying26 (fun _ h => by rw [← HAI.out]; exact know_cell (row_kept HR1.out.2.1 h) HIO.out.2.2.1)) hHeld ?_
          simp only [List.setIfInBounds_toArray, List.set_cons_zero, List.set_cons_succ]
          refine take_at (i := 10) 54 rfl rfl (by kernel_rfl) (by kernel_rfl) (by kernel_rfl) (fun _ _ _ h => h) (slice_yields12H (by rfl) 26 (.tmp 53) rfl ⟨w.heap.size + 1, i, none⟩ rfl ai _ ci Tryd.underlying26 (fun _ h => by rw [← HAI.out]; exact know_cell (row_kept HR1.out.2.1 h) HIO.out.2.2.1)) hHeld ?_
          simp only [List.setIfInBounds_toArray, List.set_cons_zero, List.set_cons_succ]
          refine take_at (i := 13) 57 rfl rfl (by kernel_rfl) (by kernel_rfl) (by kernel_rfl) (fun _ _ _ h => h) (cell_yields (by rfl) 5 (.tmp 56) rfl wr.heap.size 2 rfl .u8 _ Tryd.underlying5 (fun _ h => (cell_of_row _ _ 2 _ _ _ (row_kept HD1.out h)).trans rfl)) hHeld ?_
          simp only [List.setIfInBounds_toArray, List.set_cons_zero, List.set_cons_succ]
          refine take_at (i := 14) 58 rfl rfl (by kernel_rfl) (by kernel_rfl) (by kernel_rfl) (fun _ _ _ h => h) (sure_yes (by rfl) (fun w => by go_simp; try with_reducible rfl)) hHeld ?_
          simp only [List.setIfInBounds_toArray, List.set_cons_zero, List.set_cons_succ]
          refine take_at (i := 15) 59 rfl rfl (by kernel_rfl) (by kernel_rfl) (by kernel_rfl) (fun _ _ _ h => h) (sure_yes (by rfl) (fun w => by go_simp; try with_reducible rfl)) hHeld ?_
          simp only [List.setIfInBounds_toArray, List.set_cons_zero, List.set_cons_succ]
          refine take_at (i := 16) 60 rfl rfl (by kernel_rfl) (by kernel_rfl) (by kernel_rfl) (fun _ _ _ h => h) (sure_yes (by rfl) (fun w => by go_simp; try with_reducible rfl)) hHeld ?_
          simp only [List.setIfInBounds_toArray, List.set_cons_zero, List.set_cons_succ]
          refine take_at (i := 17) 61 rfl rfl (by kernel_rfl) (by kernel_rfl) (by kernel_rfl) (fun _ _ _ h => h) (str_yields12 (by rfl) 9 (.tmp 60) rfl ⟨w.heap.size + 1 + 1, pp, none⟩ rfl _ Tryd.underlying9 (fun _ h => path_cellH (row_kept HR1.out.2.2.1 h) HP4.out.2.1)) hHeld ?_
          simp only [List.setIfInBounds_toArray, List.set_cons_zero, List.set_cons_succ]
          refine take_at (i := 19) 63 rfl rfl (by kernel_rfl) (by kernel_rfl) (by kernel_rfl) (fun _ _ _ h => h) (cell_yields (by rfl) 5 (.tmp 62) rfl wr.heap.size 5 rfl .u8 _ Tryd.underlying5 (fun _ h => (cell_of_row _ _ 5 _ _ _ (row_kept HD1.out h)).trans rfl)) hHeld ?_
          simp only [List.setIfInBounds_toArray, List.set_cons_zero, List.set_cons_succ]
          refine take_at (i := 20) 64 rfl rfl (by kernel_rfl) (by kernel_rfl) (by kernel_rfl) (fun _ _ _ h => h) (build_yields (by rfl) 34 #[(0, .tmp 63)] rfl _ _ (dig_built HB.out.2.2.2) (by simp [Act.eval])) hHeld ?_
          simp only [List.setIfInBounds_toArray, List.set_cons_zero, List.set_cons_succ]
          refine take_at (i := 22) 66 rfl rfl (by kernel_rfl) (by kernel_rfl) (by kernel_rfl) (fun _ _ _ h => h) (cell_yields (by rfl) 5 (.tmp 65) rfl wr.heap.size 5 rfl .u8 _ Tryd.underlying5 (fun _ h => (cell_of_row _ _ 5 _ _ _ (row_kept HD1.out h)).trans rfl)) hHeld ?_
          simp only [List.setIfInBounds_toArray, List.set_cons_zero, List.set_cons_succ]
          refine take_at (i := 23) 67 rfl rfl (by kernel_rfl) (by kernel_rfl) (by kernel_rfl) (fun _ _ _ h => h) (sure_yes (by rfl) (fun w => by go_simp; try with_reducible rfl)) hHeld ?_
          simp only [List.setIfInBounds_toArray, List.set_cons_zero, List.set_cons_succ]
          refine wpAnyH_ready (rs := [5, 25]) (by kernel_rfl) (by simp) ?_
          refine AllReadyH.cons rfl (fun CONT hCONT => ?_) (AllReadyH.cons rfl (fun CONT hCONT => ?_) (AllReadyH.nil))
          · go_simp
            go_at_call 25
            refine (GN.out _ _ (by rw [← HAI.out]; exact dots_below (HY1.out i HIO.out.2.2.1).1 hHeld)).mono ?_
            rintro x wz ⟨rfl, hb⟩
            dsimp only
            refine hCONT.out _ _ (below_next hHeld hb) (fun hHeld => ?_)
            clear hCONT CONT hb
            refine take_at (i := 6) 50 rfl rfl (by kernel_rfl) (by kernel_rfl) (by kernel_rfl) (fun _ _ _ h => h) (sure_yes (by rfl) (fun w => by go_simp; try with_reducible rfl)) hHeld ?_
            simp only [List.setIfInBounds_toArray, List.set_cons_zero, List.set_cons_succ]
            refine take_at (i := 7) 51 rfl rfl (by kernel_rfl) (by kernel_rfl) (by kernel_rfl) (fun _ _ _ h => h) (sure_yes (by rfl) (fun w => by go_simp; try with_reducible rfl)) hHeld ?_
            simp only [List.setIfInBounds_toArray, List.set_cons_zero, List.set_cons_succ]
            refine take_at (i := 24) 68 rfl rfl (by kernel_rfl) (by kernel_rfl) (by kernel_rfl) (fun _ _ _ h => h) (build_yields (by rfl) 36 #[(0, .tmp 51), (1, .tmp 54), (2, .const (.int .i64 1)), (3, .tmp 61), (4, .tmp 64), (5, .tmp 67)] rfl _ _ (ev_built EN ai (h.know i).length ci) (by rw [HEN.out]; simp [Act.eval])) hHeld ?_
            simp only [List.setIfInBounds_toArray, List.set_cons_zero, List.set_cons_succ]
            refine ready_allocH 25 10 (by kernel_rfl) rfl rfl (by rfl) 36 rfl (evC noEv (.slice none 0 0)) ev_zeroH (hHeld.alloc hHeld.size _) ?_
            simp only [List.setIfInBounds_toArray, List.set_cons_zero, List.set_cons_succ]
            have hHeld2 := hHeld.alloc hHeld.size (.cells (evC noEv (.slice none 0 0)) 36 (0, 0))
            have A6 := Lib.hid (box_ev wz 36 noEv (.slice none 0 0))
            have LW := Lib.hid (show W1.heap.size ≤ wz.heap.size from hHeld.size)
            replace hHeld := hHeld2
            clear hHeld2
            generalize hgp : wz.heap.size = PB at *
            generalize wz.alloc (.cells (evC noEv (.slice none 0 0)) 36 (0, 0)) = W6 at *
            refine ready_store_ev 26 (by kernel_rfl) rfl rfl (by rfl) 36 (.tmp 10) (.tmp 68) rfl PB EN noEv (.slice ai (h.know i).length ci) (.slice none 0 0) rfl rfl 36 A6.out evSize rfl (fun w7 hg hs7 => ?_)
            have hb7 := solo_below hHeld hs7 LW.out
            refine ⟨hb7, ?_⟩
            have A7 := Lib.hid hg
            have B7 := Lib.hid hb7
            clear hg hs7 hb7 hHeld
            refine wpAnyH_done (by kernel_rfl) ?_ _
            refine HKK.out _ _ ?_
            have hJJ := HJJ.out
            go_meet
            exact ⟨PB, rfl, LW.out, A7.out, B7.out⟩
          · refine alloc_at 10 rfl (by rfl) 36 rfl (evC noEv (.slice none 0 0)) ev_zeroH ?_
            have A6 := Lib.hid (box_ev wd 36 noEv (.slice none 0 0))
            have LW := Lib.hid (show W1.heap.size ≤ wd.heap.size from hHeld.size)
            refine hCONT.out _ _ (hHeld.alloc hHeld.size _) (fun hHeld => ?_)
            clear hCONT CONT
            simp only [List.setIfInBounds_toArray, List.set_cons_zero, List.set_cons_succ]
            generalize hgp : wd.heap.size = PB at *
            generalize wd.alloc (.cells (evC noEv (.slice none 0 0)) 36 (0, 0)) = W6 at *
            refine wpAnyH_ready (rs := [5]) (by kernel_rfl) (by simp) ?_
            refine AllReadyH.cons rfl (fun CONT hCONT => ?_) AllReadyH.nil
            go_simp
            go_at_call 25
            refine (GN.out _ _ (by rw [← HAI.out]; exact dots_below (HY1.out i HIO.out.2.2.1).1 hHeld)).mono ?_
            rintro x wz ⟨rfl, hb⟩
            dsimp only
            have A6 := Lib.hid (evAt_kept A6.out hb)
            refine hCONT.out _ _ (below_next hHeld hb) (fun hHeld => ?_)
            clear hCONT CONT hb
            refine take_at (i := 6) 50 rfl rfl (by kernel_rfl) (by kernel_rfl) (by kernel_rfl) (fun _ _ _ h => h) (sure_yes (by rfl) (fun w => by go_simp; try with_reducible rfl)) hHeld ?_
            simp only [List.setIfInBounds_toArray, List.set_cons_zero, List.set_cons_succ]
            refine take_at (i := 7) 51 rfl rfl (by kernel_rfl) (by kernel_rfl) (by kernel_rfl) (fun _ _ _ h => h) (sure_yes (by rfl) (fun w => by go_simp; try with_reducible rfl)) hHeld ?_
            simp only [List.setIfInBounds_toArray, List.set_cons_zero, List.set_cons_succ]
            refine take_at (i := 24) 68 rfl rfl (by kernel_rfl) (by kernel_rfl) (by kernel_rfl) (fun _ _ _ h => h) (build_yields (by rfl) 36 #[(0, .tmp 51), (1, .tmp 54), (2, .const (.int .i64 1)), (3, .tmp 61), (4, .tmp 64), (5, .tmp 67)] rfl _ _ (ev_built EN ai (h.know i).length ci) (by rw [HEN.out]; simp [Act.eval])) hHeld ?_
            simp only [List.setIfInBounds_toArray, List.set_cons_zero, List.set_cons_succ]
            refine ready_store_ev 26 (by kernel_rfl) rfl rfl (by rfl) 36 (.tmp 10) (.tmp 68) rfl PB EN noEv (.slice ai (h.know i).length ci) (.slice none 0 0) rfl rfl 36 A6.out evSize rfl (fun w7 hg hs7 => ?_)
            have hb7 := solo_below hHeld hs7 LW.out
            refine ⟨hb7, ?_⟩
            have A7 := Lib.hid hg
            have B7 := Lib.hid hb7
            clear hg hs7 hb7 hHeld
            refine wpAnyH_done (by kernel_rfl) ?_ _
            refine HKK.out _ _ ?_
            have hJJ := HJJ.out
            go_meet
            exact ⟨PB, rfl, LW.out, A7.out, B7.out⟩
        case rest =>
          obtain ⟨PB, rfl, hpb, hev, hbw⟩ := hcut
          have PE := Lib.hid hev
          have MD := Lib.hid (show HistMid w wc a h _ us PB from ⟨row_kept HR1.out.1 hbw, row_kept HR1.out.2.1 hbw, row_kept HR1.out.2.2.1 hbw, fun j hj => typ_below (HY1.out j hj) hbw, ⟨own_below HO1.out.1 hbw, fun x hx => typ_below (HO1.out.2 x hx) hbw⟩, Nat.le_trans HR1.out.2.2.2 hpb, fun b hb => Nat.lt_of_lt_of_le (own_blockH HO1.out.1 b hb).2.1 hpb, (Array.getElem?_eq_some_iff.1 hev).1, below_next HB1.out hbw⟩)
          have c4 : wc.cell? ⟨wr.heap.size, 4, none⟩ = some (.bool d.gone) := (cell_of_row _ _ 4 _ _ _ (row_kept HD1.out hbw)).trans rfl
          have WT := Lib.hid (fun v w hv => refWith_typ10 (h.know i) (by have := HKL.out; exact this) (i : Int) q v w hv)
          have HUS := Lib.hid (show us.length ≤ 40 by have := congrArg List.length HU.out; rw [List.length_map] at this; rw [this, ← HG.out]; exact Nat.le_trans (hist_len l k) hk40)
          clear hpb hev hbw
          cases hGn : d.gone with
          | true =>
            rw [hGn] at c4
            go_upto_region 13 with (first
              | (refine load_cell_on (by rfl) 4 (.tmp 69) rfl ⟨wr.heap.size, 4, none⟩ rfl true Tryd.underlying4 c4 ?_))
            go_upto_region 14 with (first
              | (refine store_cell rfl 3 (.tmp 71) (.const (.int .i64 2)) rfl rfl .i64 PB 3 (evC EN (.slice ai (h.know i).length ci)) 2 36 PE.out rfl rfl (by rw [evC_size]; decide) intSizeH ?_; rintro w13 hg hs; rw [ev_kindH] at hg; have MD13 := Lib.hid (histMid_solo MD.out PE.out hs); have PE13 := Lib.hid (show EvAt w13 PB 36 (⟨EN.r, EN.q, EN.deps, 2, EN.path, EN.sum, EN.size⟩ : Ev) (.slice ai (h.know i).length ci) from hg); clear hg hs))
            go_upto_region 15 with (first
              | (refine build_on (by rfl) 34 #[] rfl [] (row .u8 32 zeroF) dig_built0 (by simp) ?_)
              | (refine store_in rfl 34 (.tmp 73) (.tmp 72) rfl rfl PB 5 (evC (⟨EN.r, EN.q, EN.deps, 2, EN.path, EN.sum, EN.size⟩ : Ev) (.slice ai (h.know i).length ci)).toList (row .u8 32 zeroF).toList 36 (by rw [Array.toArray_toList]; exact PE13.out) rfl (by rw [Array.toArray_toList]; rfl) (by rw [sumSize]; simp [row_size]) (by simp [evC_size, row_size]) (row_onesH _) ?_; rintro w14 hg hs; rw [ev_sumH] at hg; have MD14 := Lib.hid (histMid_solo MD13.out PE13.out hs); have PE14 := Lib.hid (show EvAt w14 PB 36 (⟨EN.r, EN.q, EN.deps, 2, EN.path, zeroF, EN.size⟩ : Ev) (.slice ai (h.know i).length ci) from hg); clear hg hs))
            go_upto_region 16 with (first
              | (refine store_cell rfl 3 (.tmp 74) (.const (.int .i64 0)) rfl rfl .i64 PB 37 (evC (⟨EN.r, EN.q, EN.deps, 2, EN.path, zeroF, EN.size⟩ : Ev) (.slice ai (h.know i).length ci)) 0 36 PE14.out rfl rfl (by rw [evC_size]; decide) intSizeH ?_; rintro w15 hg hs; rw [ev_sizeH] at hg; have MD15 := Lib.hid (histMid_solo MD14.out PE14.out hs); have PE15 := Lib.hid (show EvAt w15 PB 36 (⟨EN.r, EN.q, EN.deps, 2, EN.path, zeroF, 0⟩ : Ev) (.slice ai (h.know i).length ci) from hg); clear hg hs))
            trace_state
            have PX := Lib.hid (show EvAt w15 PB 36 (evH h d) (.slice ai (h.know i).length ci) by
              have e : evH h d = (⟨EN.r, EN.q, EN.deps, 2, EN.path, zeroF, 0⟩ : Ev) := by
                rw [HEN.out]; unfold evH; rw [hGn, ← HIO.out.1, ← HP4.out.1, ← HP4.out.2.2.2, HP4.out.2.2.1]; simp
              rw [e]; exact PE15.out)
            have MX := MD15
            generalize w15 = wE at *
            have hqe : q = (evH h d).q ∧ (i : Int) = (evH h d).r := by unfold evH; rw [← HIO.out.1, ← HP4.out.2.2.2, HP4.out.2.2.1]; exact ⟨rfl, rfl⟩
            have HQE := Lib.hid hqe
            clear hqe
            refine wp_region_held_drew (S := fun w' => EvAt w' PB 36 (evH h d) (.slice ai (h.know i).length ci)) (by kernel_rfl) (show EvAt wE.drew PB _ _ _ from PX.out) (fun hHeld => ?_)
            have MX1 := Lib.hid (show HistMid w wE.drew a h _ us PB from histMid_below MX.out (drawS (Below.refl _ _)))
            generalize wE.drew = wd at *
            refine take_at (i := 0) 75 rfl rfl (by kernel_rfl) (by kernel_rfl) (by kernel_rfl) (fun _ _ _ h => h) (sure_yes (by rfl) (fun w => by go_simp; try with_reducible rfl)) hHeld ?_
            simp only [List.setIfInBounds_toArray, List.set_cons_zero, List.set_cons_succ]
            refine take_at (i := 1) 76 rfl rfl (by kernel_rfl) (by kernel_rfl) (by kernel_rfl) (fun _ _ _ h => h) (sure_yes (by rfl) (fun w => by go_simp; try with_reducible rfl)) hHeld ?_
            simp only [List.setIfInBounds_toArray, List.set_cons_zero, List.set_cons_succ]
            refine take_at (i := 2) 77 rfl rfl (by kernel_rfl) (by kernel_rfl) (by kernel_rfl) (fun _ _ _ h => h) (sure_yes (by rfl) (fun w => by go_simp; try with_reducible rfl)) hHeld ?_
            simp only [List.setIfInBounds_toArray, List.set_cons_zero, List.set_cons_succ]
            refine take_at (i := 4) 79 rfl rfl (by kernel_rfl) (by kernel_rfl) (by kernel_rfl) (fun _ _ _ h => h) (sure_yes (by rfl) (fun w => by go_simp; try with_reducible rfl)) hHeld ?_
            simp only [List.setIfInBounds_toArray, List.set_cons_zero, List.set_cons_succ]
            refine take_at (i := 5) (v := .agg #[.int .i64 (i : Int), .int .i64 q]) 80 rfl rfl (by kernel_rfl) (by kernel_rfl) (by kernel_rfl) (fun _ _ _ h => h) (dot_yields (by rfl) 32 (.tmp 79) rfl ⟨PB, 0, none⟩ rfl (i : Int) q Tryd.underlying32 (by kernel_rfl) (fun _ h => by rw [HQE.out.1, HQE.out.2]; exact evAt_dot h)) hHeld ?_
            simp only [List.setIfInBounds_toArray, List.set_cons_zero, List.set_cons_succ]
            refine wpAnyH_ready (rs := [3]) (by kernel_rfl) (by simp) ?_
            refine AllReadyH.cons rfl (fun CONT hCONT => ?_) AllReadyH.nil
            refine load_cell_at 78 rfl (by rfl) 26 (.tmp 77) rfl ⟨w.heap.size + 1, i, none⟩ rfl ai _ ci Tryd.underlying26 (by rw [← HAI.out]; exact know_cell MX1.out.r2 HIO.out.2.2.1) ?_
            refine hCONT.out _ _ hHeld (fun hHeld => ?_)
            clear hCONT CONT
            simp only [List.setIfInBounds_toArray, List.set_cons_zero, List.set_cons_succ]
            refine wpAnyH_ready (rs := [6]) (by kernel_rfl) (by simp) ?_
            refine AllReadyH.cons rfl (fun CONT hCONT => ?_) AllReadyH.nil
            go_simp
            go_at_call 26
            refine (WT.out _ _ (by rw [← HAI.out]; exact (MX1.out.typ i HIO.out.2.2.1).1)).mono ?_
            rintro x wz ⟨u, rfl, hu, hb⟩
            dsimp only
            have MZ := Lib.hid (histMid_below MX1.out hb)
            have UZ := Lib.hid hu
            obtain ⟨ao3, cap3, rfl⟩ := dots_shape hu.1 _ rfl
            refine hCONT.out _ _ (evAt_kept hHeld hb) (fun hHeld => ?_)
            clear hCONT CONT hb hu
            refine take_at (i := 7) 82 rfl rfl (by kernel_rfl) (by kernel_rfl) (by kernel_rfl) (fun _ _ _ h => h) (sure_yes (by rfl) (fun w => by go_simp; try with_reducible rfl)) hHeld ?_
            simp only [List.setIfInBounds_toArray, List.set_cons_zero, List.set_cons_succ]
            refine wpAnyH_ready (rs := [8]) (by kernel_rfl) (by simp) ?_
            refine AllReadyH.cons rfl (fun CONT hCONT => ?_) AllReadyH.nil
            refine store_slice_at rfl (by rfl) 26 (.tmp 82) (.tmp 81) rfl (w.heap.size + 1) i #[a 0, a 1, a 2] ao3 _ cap3 27 MZ.out.r2 rfl rfl HIO.out.2.2.1 vecSize12 (fun w9 hg hs => ?_)
            have GK := Lib.hid (show w9.heap[w.heap.size + 1]? = _ from hg)
            have GS := Lib.hid hs
            refine hCONT.out _ _ ((hs.block _ (by have := MZ.out.low; omega)).trans hHeld) (fun hHeld => ?_)
            clear hCONT CONT hg hs
            refine wpAnyH_done (by kernel_rfl) ?_ _
            have P9 := Lib.hid hHeld
            clear hHeld
            obtain ⟨ie, hie, hiz⟩ := infoEv
            have HIZ := Lib.hid hiz
            clear hiz
            obtain ⟨N9, hN9⟩ : ∃ N, w9.heap.size = N := ⟨_, rfl⟩
            have HN9 := Lib.hid hN9
            clear hN9
            go_wp2_with (first
              | (refine load_ev_on (by rfl) 36 (.tmp 10) rfl PB rfl P9.out Tryd.underlying36 evSize ?_)
              | (refine build_ev1 rfl 85 rfl (.tmp 84) rfl N9 HN9.out (evH h d) ai (h.know i).length ci rfl ?_; rintro wA hEA hBA hNA; have EA := Lib.hid hEA; have BA := Lib.hid hBA; clear hEA hBA hNA)
              | (refine append_ev rfl (.tmp 83) (.tmp 85) 24 rfl (w.heap.size + 3) 36 ie Tryd.underlying24 hie HIZ.out _ us (evH h d, .slice ai (h.know i).length ci) rfl (own_below (own_solo MZ.out.own.1 GS.out (by omega)) BA.out) rfl ⟨N9, 0, none⟩ 1 rfl (fun j u hu => by rw [Addr.add_lit, Nat.zero_add]; exact evAt_cell EA.out j u hu) (by have := HUS.out; show us.length + 1 ≤ 100000; omega) (by have := BA.out.size; have := GS.out.size; have := MZ.out.low; have := MZ.out.top; omega) ?_; rintro v' w10 hown hgr; have HX := Lib.hid (show HistAt w w10 ((l.take (k + 1)).foldl stepH hist0) v' by
                  rw [take_step HD.out, HG.out]
                  exact hist_event hL HIO.out.1 HIO.out.2.2.1 HU.out MZ.out HAI.out.symm (by rw [← HQE.out.1, ← HQE.out.2]; exact UZ.out) GK.out GS.out BA.out hown hgr); clear hown hgr))
            refine ⟨⟨k + 1, by omega, by omega, by simp, HX.out⟩, ?_⟩
            simp [intOf] <;> omega
          | false =>
            rw [hGn] at c4
            go_upto_region 16 with (first
              | (refine load_cell_on (by rfl) 4 (.tmp 69) rfl ⟨wr.heap.size, 4, none⟩ rfl false Tryd.underlying4 c4 ?_))
            have PX := Lib.hid (show EvAt wc PB 36 (evH h d) (.slice ai (h.know i).length ci) by
              have e : evH h d = EN := by
                rw [HEN.out]; unfold evH; rw [hGn, ← HIO.out.1, ← HP4.out.1, ← HP4.out.2.2.2, HP4.out.2.2.1]; simp
              rw [e]; exact PE.out)
            have MX := MD
            generalize wc = wE at *
            have hqe : q = (evH h d).q ∧ (i : Int) = (evH h d).r := by unfold evH; rw [← HIO.out.1, ← HP4.out.2.2.2, HP4.out.2.2.1]; exact ⟨rfl, rfl⟩
            have HQE := Lib.hid hqe
            clear hqe
            refine wp_region_held_drew (S := fun w' => EvAt w' PB 36 (evH h d) (.slice ai (h.know i).length ci)) (by kernel_rfl) (show EvAt wE.drew PB _ _ _ from PX.out) (fun hHeld => ?_)
            have MX1 := Lib.hid (show HistMid w wE.drew a h _ us PB from histMid_below MX.out (drawS (Below.refl _ _)))
            generalize wE.drew = wd at *
            refine take_at (i := 0) 75 rfl rfl (by kernel_rfl) (by kernel_rfl) (by kernel_rfl) (fun _ _ _ h => h) (sure_yes (by rfl) (fun w => by go_simp; try with_reducible rfl)) hHeld ?_
            simp only [List.setIfInBounds_toArray, List.set_cons_zero, List.set_cons_succ]
            refine take_at (i := 1) 76 rfl rfl (by kernel_rfl) (by kernel_rfl) (by kernel_rfl) (fun _ _ _ h => h) (sure_yes (by rfl) (fun w => by go_simp; try with_reducible rfl)) hHeld ?_
            simp only [List.setIfInBounds_toArray, List.set_cons_zero, List.set_cons_succ]
            refine take_at (i := 2) 77 rfl rfl (by kernel_rfl) (by kernel_rfl) (by kernel_rfl) (fun _ _ _ h => h) (sure_yes (by rfl) (fun w => by go_simp; try with_reducible rfl)) hHeld ?_
            simp only [List.setIfInBounds_toArray, List.set_cons_zero, List.set_cons_succ]
            refine take_at (i := 4) 79 rfl rfl (by kernel_rfl) (by kernel_rfl) (by kernel_rfl) (fun _ _ _ h => h) (sure_yes (by rfl) (fun w => by go_simp; try with_reducible rfl)) hHeld ?_
            simp only [List.setIfInBounds_toArray, List.set_cons_zero, List.set_cons_succ]
            refine take_at (i := 5) (v := .agg #[.int .i64 (i : Int), .int .i64 q]) 80 rfl rfl (by kernel_rfl) (by kernel_rfl) (by kernel_rfl) (fun _ _ _ h => h) (dot_yields (by rfl) 32 (.tmp 79) rfl ⟨PB, 0, none⟩ rfl (i : Int) q Tryd.underlying32 (by kernel_rfl) (fun _ h => by rw [HQE.out.1, HQE.out.2]; exact evAt_dot h)) hHeld ?_
            simp only [List.setIfInBounds_toArray, List.set_cons_zero, List.set_cons_succ]
            refine wpAnyH_ready (rs := [3]) (by kernel_rfl) (by simp) ?_
            refine AllReadyH.cons rfl (fun CONT hCONT => ?_) AllReadyH.nil
            refine load_cell_at 78 rfl (by rfl) 26 (.tmp 77) rfl ⟨w.heap.size + 1, i, none⟩ rfl ai _ ci Tryd.underlying26 (by rw [← HAI.out]; exact know_cell MX1.out.r2 HIO.out.2.2.1) ?_
            refine hCONT.out _ _ hHeld (fun hHeld => ?_)
            clear hCONT CONT
            simp only [List.setIfInBounds_toArray, List.set_cons_zero, List.set_cons_succ]
            refine wpAnyH_ready (rs := [6]) (by kernel_rfl) (by simp) ?_
            refine AllReadyH.cons rfl (fun CONT hCONT => ?_) AllReadyH.nil
            go_simp
            go_at_call 26
            refine (WT.out _ _ (by rw [← HAI.out]; exact (MX1.out.typ i HIO.out.2.2.1).1)).mono ?_
            rintro x wz ⟨u, rfl, hu, hb⟩
            dsimp only
            have MZ := Lib.hid (histMid_below MX1.out hb)
            have UZ := Lib.hid hu
            obtain ⟨ao3, cap3, rfl⟩ := dots_shape hu.1 _ rfl
            refine hCONT.out _ _ (evAt_kept hHeld hb) (fun hHeld => ?_)
            clear hCONT CONT hb hu
            refine take_at (i := 7) 82 rfl rfl (by kernel_rfl) (by kernel_rfl) (by kernel_rfl) (fun _ _ _ h => h) (sure_yes (by rfl) (fun w => by go_simp; try with_reducible rfl)) hHeld ?_
            simp only [List.setIfInBounds_toArray, List.set_cons_zero, List.set_cons_succ]
            refine wpAnyH_ready (rs := [8]) (by kernel_rfl) (by simp) ?_
            refine AllReadyH.cons rfl (fun CONT hCONT => ?_) AllReadyH.nil
            refine store_slice_at rfl (by rfl) 26 (.tmp 82) (.tmp 81) rfl (w.heap.size + 1) i #[a 0, a 1, a 2] ao3 _ cap3 27 MZ.out.r2 rfl rfl HIO.out.2.2.1 vecSize12 (fun w9 hg hs => ?_)
            have GK := Lib.hid (show w9.heap[w.heap.size + 1]? = _ from hg)
            have GS := Lib.hid hs
            refine hCONT.out _ _ ((hs.block _ (by have := MZ.out.low; omega)).trans hHeld) (fun hHeld => ?_)
            clear hCONT CONT hg hs
            refine wpAnyH_done (by kernel_rfl) ?_ _
            have P9 := Lib.hid hHeld
            clear hHeld
            obtain ⟨ie, hie, hiz⟩ := infoEv
            have HIZ := Lib.hid hiz
            clear hiz
            obtain ⟨N9, hN9⟩ : ∃ N, w9.heap.size = N := ⟨_, rfl⟩
            have HN9 := Lib.hid hN9
            clear hN9
            go_wp2_with (first
              | (refine load_ev_on (by rfl) 36 (.tmp 10) rfl PB rfl P9.out Tryd.underlying36 evSize ?_)
              | (refine build_ev1 rfl 85 rfl (.tmp 84) rfl N9 HN9.out (evH h d) ai (h.know i).length ci rfl ?_; rintro wA hEA hBA hNA; have EA := Lib.hid hEA; have BA := Lib.hid hBA; clear hEA hBA hNA)
              | (refine append_ev rfl (.tmp 83) (.tmp 85) 24 rfl (w.heap.size + 3) 36 ie Tryd.underlying24 hie HIZ.out _ us (evH h d, .slice ai (h.know i).length ci) rfl (own_below (own_solo MZ.out.own.1 GS.out (by omega)) BA.out) rfl ⟨N9, 0, none⟩ 1 rfl (fun j u hu => by rw [Addr.add_lit, Nat.zero_add]; exact evAt_cell EA.out j u hu) (by have := HUS.out; show us.length + 1 ≤ 100000; omega) (by have := BA.out.size; have := GS.out.size; have := MZ.out.low; have := MZ.out.top; omega) ?_; rintro v' w10 hown hgr; have HX := Lib.hid (show HistAt w w10 ((l.take (k + 1)).foldl stepH hist0) v' by
                  rw [take_step HD.out, HG.out]
                  exact hist_event hL HIO.out.1 HIO.out.2.2.1 HU.out MZ.out HAI.out.symm (by rw [← HQE.out.1, ← HQE.out.2]; exact UZ.out) GK.out GS.out BA.out hown hgr); clear hown hgr))
            refine ⟨⟨k + 1, by omega, by omega, by simp, HX.out⟩, ?_⟩
            simp [intOf] <;> omega
    · obtain ⟨a, us, hus, hown, hres, hkn2, htyp, hpaths, hsz, hbel⟩ := hh
      have hend : (l.take k).foldl stepH hist0 = histN l := by
        unfold histN
        by_cases h40 : k = 40
        · rw [h40]
        · rw [List.take_of_length_le (by have := HN.out; omega), List.take_of_length_le (by have := HN.out; omega)]
      rw [hend] at hus htyp
      have hHS := Lib.hid (And.intro hown (And.intro hus htyp))
      have HRR := Lib.hid (And.intro hres (And.intro hkn2 hbel))
      have HA1 := Lib.hid (show (#[a 0, a 1, a 2] : Array Value).all (·.oneCell') = true by
        obtain ⟨x0, y0, e0⟩ := dots_shape (htyp 0 (by omega)).1 _ rfl
        obtain ⟨x1, y1, e1⟩ := dots_shape (htyp 1 (by omega)).1 _ rfl
        obtain ⟨x2, y2, e2⟩ := dots_shape (htyp 2 (by omega)).1 _ rfl
        rw [e0, e1, e2]; simp [Value.oneCell'])
      clear hus hown hres hkn2 htyp hpaths hsz hbel hend
      have q9 : ¬ ((k : Int) < (n : Int) ∧ (k : Int) < 40) := by omega
      by_cases hk1 : k < n
      · have q0 : (k : Int) < (n : Int) := by omega
        have q1 : ¬ (k : Int) < 40 := by omega
        clear q9 hr hkn hk40 hk1
        go_upto_region 18 with fail
        refine wp_region_held_drew (S := fun w' => w'.heap[w.heap.size + 1]? = some (.cells #[a 0, a 1, a 2] 27 (0, 0))) (by kernel_rfl) (show wr.drew.heap[w.heap.size + 1]? = _ from HRR.out.2.1) (fun hHeld => ?_)
        have hd0 : Below wr.heap.size wr wr.drew := drawS (Below.refl _ _)
        have RR := Lib.hid (show wr.drew.heap[w.heap.size]? = _ from HRR.out.1)
        have OW := Lib.hid (show OwnEvs (w.heap.size + 3) wr.drew _ us from ⟨own_below hHS.out.1.1 hd0, fun x hx => typ_below (hHS.out.1.2 x hx) hd0⟩)
        have TY := Lib.hid (fun j hj => typ_below (hHS.out.2.2 j hj) hd0)
        have BB := Lib.hid (below_next HRR.out.2.2 hd0)
        clear hd0
        generalize wr.drew = wd at *
        refine take_at (i := 0) 87 rfl rfl (by kernel_rfl) (by kernel_rfl) (by kernel_rfl) (fun _ _ _ h => h) (sure_yes (by rfl) (fun w => by go_simp; try with_reducible rfl)) hHeld ?_
        simp only [List.setIfInBounds_toArray, List.set_cons_zero, List.set_cons_succ]
        refine take_at (i := 1) 88 rfl rfl (by kernel_rfl) (by kernel_rfl) (by kernel_rfl) (fun _ _ _ h => h) (row_yields (by rfl) 27 (.tmp 4) rfl (w.heap.size + 1) rfl 27 #[a 0, a 1, a 2] (0, 0) _ Tryd.underlying27 rfl (by kernel_rfl) (fun _ h => h)) hHeld ?_
        simp only [List.setIfInBounds_toArray, List.set_cons_zero, List.set_cons_succ]
        refine take_at (i := 2) 2 rfl rfl (by kernel_rfl) (by kernel_rfl) (by kernel_rfl) (fun _ _ _ h => h) (sure_yes (by rfl) (fun w => by go_simp; try with_reducible rfl)) hHeld ?_
        simp only [List.setIfInBounds_toArray, List.set_cons_zero, List.set_cons_succ]
        refine wpAnyH_ready (rs := [3]) (by kernel_rfl) (by simp) ?_
        refine AllReadyH.cons rfl (fun CONT hCONT => ?_) AllReadyH.nil
        refine store_at rfl (by rfl) 27 (.tmp 3) (.tmp 88) rfl w.heap.size #[a 0, a 1, a 2] rfl rfl 27 _ RR.out (by kernel_rfl) rfl HA1.out ?_
        have hs := solo_setRow wd w.heap.size #[a 0, a 1, a 2]
        have R9 := Lib.hid (setRow_heap wd w.heap.size _ #[a 0, a 1, a 2] 27 (0, 0) RR.out)
        generalize wd.setRow w.heap.size #[a 0, a 1, a 2] = w9 at *
        have O9 := Lib.hid (show OwnEvs (w.heap.size + 3) w9 _ us from ⟨own_solo OW.out.1 hs (by omega), fun x hx => typ_solo (OW.out.2 x hx) hs RR.out (by decide)⟩)
        have T9 := Lib.hid (fun j hj => typ_solo (TY.out j hj) hs RR.out (by decide))
        have B9 := Lib.hid (solo_below BB.out hs (Nat.le_refl _))
        refine hCONT.out _ _ ((hs.block _ (by omega)).trans hHeld) (fun hHeld => ?_)
        clear hCONT CONT hs
        refine wpAnyH_done (by kernel_rfl) ?_ _
        go_wp2
        exact bodyPost_ret (results_2cell Tryd.results7 _ _ w.heap.size 27 _ (0, 0) _ _ rfl rfl R9.out Tryd.underlying27 rfl (by kernel_rfl)) rfl ⟨_, a, rfl, by rw [← hHS.out.2.1]; exact evs_of_own O9.out, T9.out, B9.out⟩
      · have q0 : ¬ (k : Int) < (n : Int) := by omega
        clear q9 hr hkn hk40 hk1
        go_upto_region 18 with fail
        refine wp_region_held_drew (S := fun w' => w'.heap[w.heap.size + 1]? = some (.cells #[a 0, a 1, a 2] 27 (0, 0))) (by kernel_rfl) (show wr.drew.heap[w.heap.size + 1]? = _ from HRR.out.2.1) (fun hHeld => ?_)
        have hd0 : Below wr.heap.size wr wr.drew := drawS (Below.refl _ _)
        have RR := Lib.hid (show wr.drew.heap[w.heap.size]? = _ from HRR.out.1)
        have OW := Lib.hid (show OwnEvs (w.heap.size + 3) wr.drew _ us from ⟨own_below hHS.out.1.1 hd0, fun x hx => typ_below (hHS.out.1.2 x hx) hd0⟩)
        have TY := Lib.hid (fun j hj => typ_below (hHS.out.2.2 j hj) hd0)
        have BB := Lib.hid (below_next HRR.out.2.2 hd0)
        clear hd0
        generalize wr.drew = wd at *
        refine take_at (i := 0) 87 rfl rfl (by kernel_rfl) (by kernel_rfl) (by kernel_rfl) (fun _ _ _ h => h) (sure_yes (by rfl) (fun w => by go_simp; try with_reducible rfl)) hHeld ?_
        simp only [List.setIfInBounds_toArray, List.set_cons_zero, List.set_cons_succ]
        refine take_at (i := 1) 88 rfl rfl (by kernel_rfl) (by kernel_rfl) (by kernel_rfl) (fun _ _ _ h => h) (row_yields (by rfl) 27 (.tmp 4) rfl (w.heap.size + 1) rfl 27 #[a 0, a 1, a 2] (0, 0) _ Tryd.underlying27 rfl (by kernel_rfl) (fun _ h => h)) hHeld ?_
        simp only [List.setIfInBounds_toArray, List.set_cons_zero, List.set_cons_succ]
        refine take_at (i := 2) 2 rfl rfl (by kernel_rfl) (by kernel_rfl) (by kernel_rfl) (fun _ _ _ h => h) (sure_yes (by rfl) (fun w => by go_simp; try with_reducible rfl)) hHeld ?_
        simp only [List.setIfInBounds_toArray, List.set_cons_zero, List.set_cons_succ]
        refine wpAnyH_ready (rs := [3]) (by kernel_rfl) (by simp) ?_
        refine AllReadyH.cons rfl (fun CONT hCONT => ?_) AllReadyH.nil
        refine store_at rfl (by rfl) 27 (.tmp 3) (.tmp 88) rfl w.heap.size #[a 0, a 1, a 2] rfl rfl 27 _ RR.out (by kernel_rfl) rfl HA1.out ?_
        have hs := solo_setRow wd w.heap.size #[a 0, a 1, a 2]
        have R9 := Lib.hid (setRow_heap wd w.heap.size _ #[a 0, a 1, a 2] 27 (0, 0) RR.out)
        generalize wd.setRow w.heap.size #[a 0, a 1, a 2] = w9 at *
        have O9 := Lib.hid (show OwnEvs (w.heap.size + 3) w9 _ us from ⟨own_solo OW.out.1 hs (by omega), fun x hx => typ_solo (OW.out.2 x hx) hs RR.out (by decide)⟩)
        have T9 := Lib.hid (fun j hj => typ_solo (TY.out j hj) hs RR.out (by decide))
        have B9 := Lib.hid (solo_below BB.out hs (Nat.le_refl _))
        refine hCONT.out _ _ ((hs.block _ (by omega)).trans hHeld) (fun hHeld => ?_)
        clear hCONT CONT hs
        refine wpAnyH_done (by kernel_rfl) ?_ _
        go_wp2
        exact bodyPost_ret (results_2cell Tryd.results7 _ _ w.heap.size 27 _ (0, 0) _ _ rfl rfl R9.out Tryd.underlying27 rfl (by kernel_rfl)) rfl ⟨_, a, rfl, by rw [← hHS.out.2.1]; exact evs_of_own O9.out, T9.out, B9.out⟩
end Go.Proofs.YthkojphgjlojgaaDoor
