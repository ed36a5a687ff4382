/-
Texts that all claims of this seat share, part 8: Ref08Get, TreeFiles, OpenShown, ViewTree, Ref14Tree.
-/
import Derived.Deep.Slices
import Derived.WideMake
import Derived.Test.YtppmbdpfledejaaGreatDoorPk7
namespace Go.Proofs.YtppmbdpfledejaaGreatDoor
open Go.RowKit
set_option maxRecDepth 100000 in
/-- One file appended to a slice of files of the call's own. -/
theorem append_file {P : Program} {w : World} {ops : Array Oper} {rest : List Oper} {o : Oper} {a : Act} {Q : Exit → Act → World → Prop} (hgd : o.guard = none) (s x : Operand) (t : TypeId)
    (ho : o.op = .call { callee := .builtin .append, args := #[s, x], argTypes := #[t, t] })
    (base : Nat) (e : TypeId) (i : TypeInfo) (ht : P.underlying t = some (.slice e)) (hi : P.info? e = some i) (hz : (i.zero.map (·.cells.size), i.size, i.bytes) = (some 2, 2, 40))
    (v : Value) (us : List (F8 × Value)) (f : F8 × Value) (hs : a.eval s = v) (hown : w.ownsRow base e 2 v us.length (filesC us)) (ad : Addr) (c : Nat) (hx : a.eval x = .slice (some ad) 1 c)
    (hc : w.cell? ad = some (.string (str f.1.1)) ∧ w.cell? (ad.add 1) = some f.2) (hone : f.2.oneCell' = true)
    (hlen : us.length + 1 ≤ 1000000) (hbase : base ≤ w.heap.size)
    (h : ∀ v' w', w'.ownsRow base e 2 v' (us ++ [f]).length (filesC (us ++ [f])) → w.grownBy w' v.ownBlock → wpList P ops Q rest (a.put o.dst v') w') : wpList P ops Q (o :: rest) a w := by
  have hadd : ad.add 0 = ad := by unfold Addr.add; split <;> simp_all
  simp only [Prod.mk.injEq] at hz
  obtain ⟨hz1, hz2, hz3⟩ := hz
  cases hzz : i.zero with
  | none => rw [hzz] at hz1; cases hz1
  | some z =>
    rw [hzz] at hz1
    simp only [Option.map_some, Option.some.injEq] at hz1
    refine wpList_append_own w hgd s x t ho base e i z 2 40 ht hi hzz hz2 hz3 hz1 (by decide) v us.length (filesC us) hs hown ad 1 c (filesC [f]) hx rfl (fun j u hj => ?_) (fun u hu => ?_)
      (by unfold maxLen; omega) (by omega) hbase fun v' w' h1 h2 _ => h v' w' (by rw [filesC_append, List.length_append]; exact h1) h2
    · match j, hj with
      | 0, hj => rw [hadd, hc.1]; exact hj
      | 1, hj => rw [hc.2]; exact hj
    · simp only [filesC, List.mem_cons, List.not_mem_nil, or_false] at hu
      rcases hu with rfl | rfl
      · rfl
      · exact hone
set_option maxRecDepth 100000 in
theorem files_of_own {w : World} {base : Nat} {e : TypeId} {v : Value} {us : List (F8 × Value)} (h : w.ownsRow base e 2 v us.length (filesC us)) (ht : ∀ x ∈ us, HasText w x.2 x.1.2) : HasFiles w v (us.map (·.1)) := by
  rcases h.2 with ⟨rfl, h0⟩ | ⟨g, cap, cur, rfl, rest⟩
  · obtain rfl : us = [] := List.eq_nil_of_length_eq_zero h0
    exact files_nil w
  · exact ⟨us, rfl, ht, some ⟨g, 0, none⟩, cap, rfl, (fun h => by cases h), fun ad had => ⟨rest.2.2.1, fun j u hu => by
      cases had; exact h.cells rfl j u hu⟩⟩
set_option maxRecDepth 100000 in
theorem built_file (p : ByteArray) (ao : Option Addr) (n c : Nat) : Tryz.prog.built 70 [(0, .string p), (1, .slice ao n c)] = some #[.string p, .slice ao n c] := by rfl
set_option maxRecDepth 100000 in
theorem info_file : (Tryz.prog.info? 70).map (fun i => (i.zero.map (·.cells.size), i.size, i.bytes)) = some (some 2, 2, 40) := by kernel_rfl
end Go.Proofs.YtppmbdpfledejaaGreatDoor
namespace Go.Proofs.YtppmbdpfledejaaGreatDoor
open Go.RowKit
def rowsT (ts : List (List UInt8)) : List (List (BitVec 32)) := ts.map fun t => t.map w8
theorem rowsT_len (ts : List (List UInt8)) : (rowsT ts).length = ts.length := List.length_map ..
theorem rowsT_get {ts : List (List UInt8)} {j : Nat} {t : List UInt8} (h : ts[j]? = some t) : (rowsT ts)[j]? = some (t.map w8) := by rw [rowsT, List.getElem?_map, h]; rfl
def firstT (ts : List (List UInt8)) (s : Sh) : Option Nat := firstB (rowsT ts) s
def dataT (ts : List (List UInt8)) (s : Sh) : List UInt8 := ts.getD ((firstT ts s).getD 0) []
def fileT (ts : List (List UInt8)) (s : Sh) : F8 := (s.path, dataT ts s)
def haveT (l : List Sh) (ts : List (List UInt8)) : Bool := l.all fun s => (firstT ts s).isSome
/-- The files, and the error: 6 where one content is not there. -/
def treeV (l : List Sh) (ts : List (List UInt8)) : List F8 := if haveT l ts then l.map (fileT ts) else []
def treeErr (l : List Sh) (ts : List (List UInt8)) : Int := if haveT l ts then 0 else 6
theorem tree_no {l : List Sh} {ts : List (List UInt8)} {s : Sh} (hs : s ∈ l) (h : firstT ts s = none) : treeV l ts = [] ∧ treeErr l ts = 6 := by
  have : haveT l ts = false := by
    cases hh : haveT l ts with
    | false => rfl
    | true => have := List.all_eq_true.1 hh s hs; rw [h] at this; cases this
  unfold treeV treeErr
  rw [this]; exact ⟨rfl, rfl⟩
theorem tree_yes {l : List Sh} {ts : List (List UInt8)} (h : ∀ s ∈ l, ∃ j, firstT ts s = some j) : treeV l ts = l.map (fileT ts) ∧ treeErr l ts = 0 := by
  have : haveT l ts = true := List.all_eq_true.2 fun s hs => by obtain ⟨j, hj⟩ := h s hs; rw [hj]; rfl
  unfold treeV treeErr
  rw [this]; exact ⟨rfl, rfl⟩
theorem firstT_at {ts : List (List UInt8)} {s : Sh} {j : Nat} (h : firstT ts s = some j) : ∃ t, ts[j]? = some t ∧ dataT ts s = t ∧ fitsS s (t.map w8) = true := by
  obtain ⟨bs, h1, h2⟩ := firstB_lt h
  rw [rowsT, List.getElem?_map] at h1
  cases ht : ts[j]? with
  | none => rw [ht] at h1; cases h1
  | some t =>
    rw [ht] at h1
    refine ⟨t, rfl, ?_, by rw [← Option.some.inj h1] at h2; exact h2⟩
    unfold dataT
    rw [h, Option.getD_some, List.getD_eq_getElem?_getD, ht]; rfl
theorem yes_step {l : List Sh} {ts : List (List UInt8)} {i : Nat} {s : Sh} {j : Nat} (h : ∀ z ∈ l.take i, ∃ j, firstT ts z = some j) (hs : l[i]? = some s) (hj : firstT ts s = some j) : ∀ z ∈ l.take (i + 1), ∃ j, firstT ts z = some j := by
  intro z hz
  rw [List.take_add_one, hs, List.mem_append] at hz
  rcases hz with hz | hz
  · exact h z hz
  · simp only [Option.toList_some, List.mem_singleton] at hz
    subst hz; exact ⟨j, hj⟩
theorem map_step {α β : Type} {l : List α} {f : α → β} {i : Nat} {x : α} (hx : l[i]? = some x) : (l.take (i + 1)).map f = (l.take i).map f ++ [f x] := by
  rw [List.take_add_one, hx, List.map_append]; rfl
/-- Block b says of each that is shown the first that fits. -/
theorem firsts_look {l : List Sh} {ts : List (List UInt8)} {m : Value → Option Value} (h : Firsts l (rowsT ts) (rowsT ts).length m) {s : Sh} (hs : s ∈ l) : m (keyC s.sum s.size) = (firstT ts s).map fun (j : Nat) => Value.int .i64 (j : Int) := by
  have h1 := h s hs
  rwa [List.take_of_length_le (Nat.le_refl _)] at h1
theorem own_baseT {w : World} {b b' : Nat} {e : TypeId} {size : Nat} {v : Value} {n : Nat} {xs : List Value} (h : w.ownsRow b' e size v n xs) (hb : b ≤ b') : w.ownsRow b e size v n xs := by
  refine ⟨h.1, ?_⟩
  rcases h.2 with h0 | ⟨g, cap, cur, e1, e2, rest⟩
  · exact .inl h0
  · exact .inr ⟨g, cap, cur, e1, Nat.le_trans hb e2, rest⟩
/-- Rows of unlike elements are unlike blocks. -/
theorem own_apartT {w : World} {b b' : Nat} {e e' : TypeId} {s s' : Nat} {v v' : Value} {n n' : Nat} {xs xs' : List Value} (h : w.ownsRow b e s v n xs) (h' : w.ownsRow b' e' s' v' n' xs') (hne : e ≠ e') : v.ownBlock = none ∨ v.ownBlock ≠ v'.ownBlock := by
  rcases h.2 with ⟨rfl, -⟩ | ⟨g, cap, cur, rfl, -, hg, -⟩
  · exact .inl rfl
  · refine .inr fun e => ?_
    rcases h'.2 with ⟨rfl, -⟩ | ⟨g', cap', cur', rfl, -, hg', -⟩
    · cases e
    · have e2 : g = g' := by simpa [Value.ownBlock] using e
      subst e2
      rw [hg] at hg'
      cases hg'
      exact hne rfl
/-- The files so far: a slice of the call's own, of paths and of copies of the call's own (from block B on). -/
def KeepsT (B : Nat) (w' : World) (vl : Value) (us : List (F8 × Value)) : Prop :=
  w'.ownsRow B 70 2 vl us.length (filesC us) ∧ ∀ x ∈ us, w'.ownsRow B 5 1 x.2 (x.1.2.map w8).length (bytesL (x.1.2.map w8))
theorem keepsT_none (B : Nat) (w : World) : KeepsT B w (.slice none 0 0) [] := ⟨⟨rfl, .inl ⟨rfl, rfl⟩⟩, fun _ h => by cases h⟩
theorem keepsT_below {B : Nat} {w1 w2 : World} {vl : Value} {us : List (F8 × Value)} (h : KeepsT B w1 vl us) (hb : Below w1.heap.size w1 w2) : KeepsT B w2 vl us :=
  ⟨own_below h.1 hb, fun x hx => own_below (h.2 x hx) hb⟩
theorem keepsT_files {B : Nat} {w1 : World} {vl : Value} {us : List (F8 × Value)} (h : KeepsT B w1 vl us) : HasFiles w1 vl (us.map (·.1)) :=
  files_of_own h.1 fun x hx => has_of_own (h.2 x hx)
theorem keepsT_more {B : Nat} {w1 w2 : World} {vl v2 : Value} {us : List (F8 × Value)} {x : F8 × Value} (h : KeepsT B w1 vl us) (hx : w1.ownsRow B 5 1 x.2 (x.1.2.map w8).length (bytesL (x.1.2.map w8)))
    (ho : w2.ownsRow B 70 2 v2 (us ++ [x]).length (filesC (us ++ [x]))) (hg : w1.grownBy w2 vl.ownBlock) : KeepsT B w2 v2 (us ++ [x]) := by
  refine ⟨ho, fun y hy => ?_⟩
  rcases List.mem_append.1 hy with hy | hy
  · exact (h.2 y hy).kept hg (own_apartT (h.2 y hy) h.1 (by decide))
  · rw [List.mem_singleton] at hy; subst hy
    exact hx.kept hg (own_apartT hx h.1 (by decide))
theorem infoFileT : ∃ i, Tryz.prog.info? 70 = some i ∧ (i.zero.map (·.cells.size), i.size, i.bytes) = (some 2, 2, 40) := by
  have h := info_file
  cases hi : Tryz.prog.info? 70 with
  | none => rw [hi] at h; cases h
  | some i => rw [hi] at h; exact ⟨i, rfl, Option.some.inj h⟩
theorem file_slice1 (p : ByteArray) (ao : Option Addr) (n c : Nat) : Tryz.prog.builtSlice 70 1 [(0, .agg #[.string p, .slice ao n c])] = some #[.string p, .slice ao n c] := by kernel_rfl
/-- A slice of one file, made. -/
theorem build_fileM {ops : Array Oper} {rest : List Oper} {o : Oper} {a : Act} {w : World} {Q : Exit → Act → World → Prop} (hg : o.guard = none) (d : Nat) (hd : o.dst = some d) (x : Operand) (ho : o.op = .buildSlice 44 1 #[(0, x)])
    (N : Nat) (hN : w.heap.size = N) (p : ByteArray) (ao : Option Addr) (n c : Nat) (hx : a.eval x = .agg #[.string p, .slice ao n c])
    (h : ∀ w', w'.cell? ⟨N, 0, none⟩ = some (.string p) ∧ w'.cell? ((⟨N, 0, none⟩ : Addr).add 1) = some (.slice ao n c) → Below w.heap.size w w' → w'.heap.size = N + 1 → wpList Tryz.prog ops Q rest (a.put (some d) (.slice (some ⟨N, 0, none⟩) 1 1)) w') : wpList Tryz.prog ops Q (o :: rest) a w := by
  refine Go.Great.wpList_buildSliceTo hg 44 70 1 #[(0, x)] ho N hN (some d) hd Tryz.underlying44 #[.string p, .slice ao n c] ?_ (h _ ?_ ((Below.refl _ _).alloc (Nat.le_refl _) _) ?_)
  · have hp : ((#[(0, x)] : Array (Nat × Operand)).map fun (i, x) => (i, a.eval x)).toList = [(0, .agg #[.string p, .slice ao n c])] := by simp [hx]
    rw [hp]; exact file_slice1 p ao n c
  · rw [← hN]
    exact ⟨by rw [cell_of_row _ _ 0 _ _ _ (heap_last w _)]; rfl, by rw [Addr.add_lit, cell_of_row _ _ (0 + 1) _ _ _ (heap_last w _)]; rfl⟩
  · rw [size_of_alloc, hN]
/-- bytes.Clone, of nil too. -/
theorem cloneT_any (w : World) (v : Value) (l : List UInt8) (hn : l.length ≤ 140737488355328) (h : HasText w v l) :
    Calls Tryz.prog 47 #[v] w fun e w' => ∃ bo c', e = .returned (.slice bo l.length c') ∧ w'.ownsRow w.heap.size 5 1 (.slice bo l.length c') (l.map w8).length (bytesL (l.map w8)) ∧ Below w.heap.size w w' := by
  obtain ⟨ao, cap, rfl, hnil, hc⟩ := h
  cases ao with
  | none =>
    obtain ⟨e1, -⟩ := hnil rfl
    obtain rfl : l = [] := List.map_eq_nil_iff.1 e1
    refine (Tryz.bytes_Clone_nil _ cap w).mono fun e w' h => ?_
    obtain ⟨rfl, rfl⟩ := h
    exact ⟨none, 0, rfl, ⟨rfl, .inl ⟨rfl, rfl⟩⟩, Below.refl _ _⟩
  | some ad =>
    have hb : bytesL (l.map w8) = (l.map fun b => (b.toNat : Int)).map (Value.int .u8) := by rw [bytesL_map, List.map_map]; rfl
    refine (Tryz.bytes_Clone_at ad _ cap (l.map fun b => (b.toNat : Int)) w (by rw [List.length_map, List.length_map]) (by rw [List.length_map]; exact hn) (fun i hi => ?_)).mono fun e w' h => ?_
    · rw [List.length_map] at hi
      refine (hc ad rfl).2 i _ ?_
      rw [hb, List.getElem?_map, List.getElem?_eq_getElem (by rw [List.length_map]; exact hi), List.getD_eq_getElem?_getD, List.getElem?_eq_getElem (by rw [List.length_map]; exact hi)]
      rfl
    · obtain ⟨v', he, ho, -, hbl⟩ := h
      rw [← hb] at ho
      obtain ⟨bo, c', rfl⟩ := own_slice ho
      rw [List.length_map] at he ho
      exact ⟨bo, c', he, by rw [List.length_map]; exact ho, hbl⟩
/-- A slice read out of a cell. -/
theorem slice_yieldsT {P : Program} {ops : Array Oper} {S : World → Prop} {o : Oper} {a : Act} (hw : Region.wanted o (yielded ops a.tmps) = true) (ty : TypeId) (x : Operand) (ho : o.op = .load ty x)
    (ad : Addr) (hx : a.eval x = .pointer (some ad)) (bo : Option Addr) (n c : Nat) {e : TypeId} (hu : P.underlying ty = some (.slice e)) (hS : ∀ w, S w → w.cell? ad = some (.slice bo n c)) : YieldsIf P ops S o (.slice bo n c) a :=
  .inl ⟨hw, fun w h => by
    have hc := hS w h
    unfold execOp
    simp [ho, hx, Instr.loadAt, Instr.sureAddr, loadVar, isAgg, run_underlying hu, hc]⟩
/-- What lies in a block of another type than the row's that grows. -/
theorem shAt_apart {w w' : World} {g B size n : Nat} {T e : TypeId} {s : Sh} {v : Value} {xs : List Value} (h : ShAt w g T s) (ho : w.ownsRow B e size v n xs) (hne : T ≠ e) (hg : w.grownBy w' v.ownBlock) : ShAt w' g T s := by
  refine (hg.block g (Array.getElem?_eq_some_iff.1 (show w.heap[g]? = some _ from h)).1 fun x => ?_).trans h
  rcases ho.2 with ⟨rfl, -⟩ | ⟨g', cap, cur, rfl, -, hg', -⟩
  · cases x
  · have e2 : g = g' := by simpa [Value.ownBlock] using x
    subst e2
    rw [show w.heap[g]? = some (.cells (shC s) T (0, 0)) from h] at hg'
    have h1 := Option.some.inj hg'
    injection h1 with _ h2 _
    exact hne h2
theorem opH_kt {P : Program} {md : Region.Mode} {ops : Array Oper} {Q : Exit → Act → World → Prop} {S : World → Prop} {fuel : Nat} {listed : Array Bool} {ts : Array Value} {ds : List Deferred} {w : World} {i : Nat} {o : Oper} (d : Nat) (hoi : ops[i]? = some o) (hd : o.dst = some d) (hw : Region.wanted o (yielded ops ts) = true) (f : FuncId) (x y : Operand) (t u : TypeId)
    (ho : o.op = .call { callee := .value (.func f), args := #[x, y], argTypes := #[t, u] }) (v z : Value) (hx : Act.eval { tmps := ts, defers := ds } x = v) (hy : Act.eval { tmps := ts, defers := ds } y = z) (eg : ∀ vs w, (callFunc f vs).run P w = .ok (.enter f vs) w) (Post : Ending → World → Prop) (hcall : Calls P f #[v, z] w Post)
    (h : ∀ e w', Post e w' → ∃ r, e = .returned r ∧ S w' ∧ wpAnyH P md ops Q S fuel (listed.setIfInBounds i true) { tmps := ts.setIfInBounds d r, defers := ds } w') : OpH P md ops Q S fuel listed { tmps := ts, defers := ds } w i :=
  opH_c2 d hoi hd hw f (.func f) x y t u ho rfl v z hx hy eg Post hcall h
end Go.Proofs.YtppmbdpfledejaaGreatDoor
namespace Go.Proofs.YtppmbdpfledejaaGreatDoor
open Go.ChangeShapes Go.WideShapes Go.ChangeAt Go.RowKit
theorem shsC_inv (us : List Sh) : ∀ j u, (shsC us)[j]? = some u → ∃ i z q, us[i]? = some z ∧ j = i * 36 + q ∧ (shC z)[q]? = some u := by
  induction us with
  | nil => intro j u h; simp [shsC] at h
  | cons y t ih =>
    intro j u h
    rw [shsC] at h
    by_cases hj : j < 36
    · rw [List.getElem?_append_left (by rw [shC_len]; exact hj), Array.getElem?_toList] at h
      exact ⟨0, y, j, rfl, by omega, h⟩
    · rw [List.getElem?_append_right (by rw [shC_len]; omega), shC_len] at h
      obtain ⟨i, z, q, h1, h2, h3⟩ := ih (j - 36) u h
      exact ⟨i + 1, z, q, by simpa using h1, by omega, h3⟩
set_option maxRecDepth 100000 in
set_option maxHeartbeats 4000000 in
set_option linter.unusedSimpArgs false in
theorem open_shown_cells {H : Type} {enc : TypeId × Value → H} {w : World} {base : Nat} {sp : Nat → Bool} {held : Bool} {fuel : Nat} {cs : List Value} {x : DataW H × List MemPlace} (hsz : cs.length = 36) (hy : DataW.trod enc Tryz.prog w base sp held fuel 33 cs = some x) :
    ∃ s : Sh, cs = (shC s).toList ∧ ShOk s := by
  have hc1 : Tryz.prog.cellsOf 29 = 2 := by kernel_rfl
  have hc2 : Tryz.prog.cellsOf 3 = 1 := by kernel_rfl
  have hc3 : Tryz.prog.cellsOf 2 = 1 := by kernel_rfl
  have hc5 : Tryz.prog.cellsOf 9 = 1 := by kernel_rfl
  have hc6 : Tryz.prog.cellsOf 31 = 32 := by kernel_rfl
  have hc7 : Tryz.prog.cellsOf 5 = 1 := by kernel_rfl
  match cs, hsz with
  | k0 :: k1 :: k2 :: ks, hsz =>
  obtain ⟨ys, m', _, hd, _, hl', hf⟩ := DataW.trod_struct Tryz.underlying33 hy
  match ys, hl' with
  | [y0, y1, y2, y3], _ =>
  have g0 := hf 0 _ rfl
  have g1 := hf 1 _ rfl
  have g2 := hf 2 _ rfl
  have g3 := hf 3 _ rfl
  simp [Value.cells, hc1, hc2, hc5, hc6] at g0 g1 g2 g3
  obtain ⟨zs, m2, _, _, _, hl2, hf2⟩ := DataW.trod_struct Tryz.underlying29 g1
  match zs, hl2 with
  | [z0, z1], _ =>
  have i0 := hf2 0 _ rfl
  have i1 := hf2 1 _ rfl
  simp [hc2, hc3] at i0 i1
  obtain ⟨a, e0, -, w0⟩ := DataW.trod_int Tryz.underlying3 i0
  obtain ⟨b, e1, -, w1⟩ := DataW.trod_int Tryz.underlying2 i1
  obtain ⟨s, e3, h3, -⟩ := DataW.trod_string Tryz.underlying9 g0
  obtain ⟨f, hf4, e4⟩ := open_digest_cells Tryz.underlying31 Tryz.underlying5 hc7 hc6 g2
  obtain ⟨sz, e5, -, w5⟩ := DataW.trod_int Tryz.underlying3 g3
  simp only [List.cons.injEq, and_true] at e0 e1 e3
  have hlen : ks.length = 33 := by simpa using hsz
  have hks : ks = (row .u8 32 f).toList ++ [.int .i64 sz] := by
    rw [← e4, ← e5, List.take_of_length_le (l := ks.drop 32) (by rw [List.length_drop]; omega), List.take_append_drop]
  have hx : str s.data.toList = s := by unfold str; rfl
  refine ⟨⟨s.data.toList, a, b, f, sz⟩, ?_, fun i _ => hf4 i, w5⟩
  rw [e0, e1, e3, hks]
  simp only [shC, hx, Array.toList_append]
  rfl
set_option maxRecDepth 100000 in
set_option maxHeartbeats 4000000 in
theorem open_shown {H : Type} {enc : TypeId × Value → H} {w : World} {base : Nat} {sp : Nat → Bool} {held : Bool} {r : Reach} {b0 : Nat} {v : Value} {d : DataW H} {p : List MemPlace} (hv : Value.okWide Tryz.prog w r b0 24 v)
    (h : DataW.Trod enc Tryz.prog w base sp held 24 v d p) : ∃ l : List Sh, HoldsS w v l ∧ ∀ s ∈ l, ShOk s := by
  have hc0 : Tryz.prog.cellsOf 33 = 36 := by kernel_rfl
  obtain ⟨a1, len, cap, rfl⟩ := okWide_slice Tryz.underlying24 hv
  obtain ⟨fuel, hf⟩ := h
  rcases Go.Deep.open_slice Tryz.underlying24 hf with ⟨hcs, -⟩ | ⟨a, len', cap', m, n, D, Pl, hcs, _, hl, hm, hmm, hx, hrow⟩
  · simp [Value.cells] at hcs
    obtain ⟨rfl, rfl, rfl⟩ := hcs
    exact ⟨[], holdsS_nil w, (fun x h => by cases h)⟩
  · simp [Value.cells] at hcs
    obtain ⟨rfl, rfl, rfl⟩ := hcs
    have hlm : len ≤ m := by rw [hmm]; split <;> omega
    have each : ∀ i, i < len → ∃ y : Sh, (∀ j u, (shC y)[j]? = some u → w.cell? (a.add (i * 36 + j)) = some u) ∧ ShOk y := fun i hi => by
      obtain ⟨cs', h1, h2⟩ := hrow i (by omega)
      rw [hc0] at h1
      obtain ⟨_, hlen, hcell⟩ := World.cells?_some h1
      obtain ⟨s, hcs, g1⟩ := open_shown_cells hlen h2
      clear h1 h2
      refine ⟨s, fun j z hz => ?_, g1⟩
      have hj : j < 36 := by have := (Array.getElem?_eq_some_iff.1 hz).1; rw [shC_size] at this; exact this
      have hh := hcell j hj
      rw [Go.Deep.add_add] at hh
      rw [hh, hcs, Array.getElem?_toList, hz]
    haveI : Inhabited Sh := ⟨⟨[], 0, 0, fun _ => 0#32, 0⟩⟩
    obtain ⟨y, hy⟩ := Go.Deep.choose_lt each
    have hulen : ((List.range len).map y).length = len := by simp
    refine ⟨(List.range len).map y, ⟨some a, cap, by rw [hulen], (fun h => by cases h), fun ad had => ⟨by rw [hulen]; exact hl, fun j u hu => ?_⟩⟩, fun x hx => ?_⟩
    · cases had
      obtain ⟨i, z, q, h1, h2, h3⟩ := shsC_inv _ j u hu
      have hi : i < len := by have := (List.getElem?_eq_some_iff.1 h1).1; simpa using this
      rw [List.getElem?_map, List.getElem?_range hi] at h1
      obtain rfl := Option.some.inj h1
      rw [h2]
      exact (hy i hi).1 q u h3
    · obtain ⟨i, hi, rfl⟩ := List.mem_map.1 hx
      exact (hy i (by simpa using hi)).2
theorem bytes_text {bs : List (BitVec 32)} (hb : ∀ x ∈ bs, u32 x < 256) : (bs.map fun x => UInt8.ofNat x.toNat).map w8 = bs := by
  rw [List.map_map]
  conv => rhs; rw [← List.map_id bs]
  apply List.map_congr_left
  intro x hx
  have h1 := hb x hx
  unfold u32 at h1
  apply BitVec.eq_of_toNat_eq
  simp only [Function.comp, w8, BitVec.toNat_ofNat, UInt8.toNat_ofNat', id]
  omega
/-- Rows of bytes are texts. -/
theorem rows_text {ls : List (List (BitVec 32))} (h : ∀ l ∈ ls, ∀ x ∈ l, u32 x < 256) : ∃ ts : List (List UInt8), ls = rowsT ts := by
  refine ⟨ls.map fun l => l.map fun x => UInt8.ofNat x.toNat, ?_⟩
  unfold rowsT
  rw [List.map_map]
  conv => lhs; rw [← List.map_id ls]
  apply List.map_congr_left
  intro l hl
  exact (bytes_text (h l hl)).symm
end Go.Proofs.YtppmbdpfledejaaGreatDoor
namespace Go.Proofs.YtppmbdpfledejaaGreatDoor
open Go.RowKit Go.Maps
set_option linter.unusedSimpArgs false in
set_option maxRecDepth 100000 in
set_option maxHeartbeats 16000000 in
theorem tree_any (l : List Sh) (hl : l.length ≤ 20000) (hs : ∀ s ∈ l, ShOk s) (ts : List (List UInt8)) (hts : ∀ t ∈ ts, t.length ≤ 1099511627776) (hn : ts.length ≤ 20000) (v x : Value) (w : World) (tab : Tab w) (hv : HoldsS w v l) (hx : HasRows w x (rowsT ts)) :
    Calls Tryz.prog 14 #[v, x] w fun e w' => ∃ y, e = .returned (.tuple #[y, .int .i64 (treeErr l ts)]) ∧ HasFiles w' y (treeV l ts) ∧ Below w.heap.size w w' := by
  obtain ⟨n, hnn⟩ : ∃ n, n = l.length := ⟨_, rfl⟩
  have HN := Lib.hid hnn
  have HL := Lib.hid (show n ≤ 20000 by omega)
  obtain ⟨ao, cap, hvs⟩ := holdsS_shape hv n hnn
  subst hvs
  obtain ⟨q, hqq⟩ : ∃ q, q = ts.length := ⟨_, rfl⟩
  have HQ := Lib.hid hqq
  have HQL := Lib.hid (show q ≤ 20000 by omega)
  obtain ⟨xo, xc, hxs⟩ := rows_shape hx q (by rw [rowsT_len]; exact hqq)
  subst hxs
  have HV := Lib.hid hv
  have HX := Lib.hid hx
  have HS := Lib.hid hs
  have HTS := Lib.hid hts
  have FO := Lib.hid (firstOf_any l hl hs (rowsT ts) (fun bs hb => by obtain ⟨t, ht, rfl⟩ := List.mem_map.1 hb; rw [List.length_map]; exact hts t ht) (by rw [rowsT_len]; exact hn) _ _ w tab hv hx)
  have ENC := Lib.hid (show ∀ vs w, (callFunc 47 vs).run Tryz.prog w = .ok (.enter 47 vs) w from (enters_of Tryz.func47 (by kernel_rfl) rfl))
  obtain ⟨ie, hie, hiz⟩ := infoFileT
  have HIE := Lib.hid hie
  have HIZ := Lib.hid hiz
  clear hl hv hx hs hts tab hn hnn hqq hie hiz
  go_enter Tryz.func14, Tryz.ntmps14
  go_upto_region 2 with (first
    | (go_at_call 46; refine FO.out.mono ?_; rintro e w1 ⟨b, rfl, hb0, hfa, hb⟩; have HFA := Lib.hid hfa; have B1 := Lib.hid hb; clear hb0 hfa hb))
  obtain ⟨k0, m, hkm, hfs⟩ := HFA.out
  have HKM := Lib.hid hkm
  have HLK := Lib.hid (fun (s : Sh) (hs : s ∈ l) => firsts_look hfs hs)
  have HV1 := Lib.hid (holdsS_below HV.out B1.out)
  have HX1 := Lib.hid (rows_below HX.out B1.out)
  clear hkm hfs HFA FO
  go_wp2
  go_loopw [20] (fun c wr => ∃ i : Nat, i ≤ n ∧ c = .int .i64 (i : Int) ∧ (∀ s ∈ l.take i, ∃ j, firstT ts s = some j) ∧ Below w1.heap.size w1 wr) (fun c _ => n - (intOf c).toNat)
  case atStart => exact ⟨0, Nat.zero_le _, rfl, (fun _ h => by simp at h), Below.refl _ _⟩
  case round =>
    obtain ⟨i, hi, rfl, hys, hb⟩ := hrel
    have HYS := Lib.hid hys
    have HB := Lib.hid hb
    clear hys hb
    by_cases hin : i < n
    · have q0 : (i : Int) < (n : Int) := by omega
      have q1 : (i : Int) < 50000 := by have := HL.out; omega
      have hi1 : i + 1 ≤ n := hin
      have hi5 : i < 50000 := by have := HL.out; omega
      obtain ⟨s, hsx⟩ : ∃ x, l[i]? = some x := ⟨_, List.getElem?_eq_getElem (by have := HN.out; omega)⟩
      obtain ⟨ad, cap', e1, hcx⟩ := holdsS_at (holdsS_below HV1.out HB.out) n i HN.out.symm s hsx
      cases e1
      have HC := Lib.hid hcx
      have HSM := Lib.hid (List.mem_of_getElem? hsx)
      have HSX := Lib.hid hsx
      clear hsx hcx hi
      go_upto_region 4 with fail
      go_upto_region 5 with (first
        | (refine load_shA_on (by rfl) 33 (.tmp 22) rfl (ad.add (i * 36)) rfl Tryz.underlying33 shSize HC.out ?_)
        | (refine store_new rfl 33 (.tmp 8) (.tmp 23) rfl rfl wr _ (shC s) 33 rfl rfl rfl (by rw [shSize, shC_size]) (by rw [shC_size]; rfl) (shC_one _) ?_; rintro W2 hg hb hlt; have S2 := Lib.hid (show ShAt W2 wr.heap.size 33 s from hg); have C2 := Lib.hid hb; have HB2 := Lib.hid (below_next HB.out hb); clear hg hb hlt))
      have KM2 := Lib.hid (keyM_block HKM.out (HB2.out.block b (keyM_lt HKM.out)))
      have HKK := Lib.hid (sh_key (HS.out s HSM.out))
      obtain ⟨-, -, -, c4⟩ := shAt_cells S2.out
      obtain ⟨f, hf⟩ : ∃ f, f = s.sum := ⟨_, rfl⟩
      obtain ⟨z, hz⟩ : ∃ z, z = s.size := ⟨_, rfl⟩
      have HLS := Lib.hid (HLK.out s HSM.out)
      have HFZ := Lib.hid (And.intro hf hz)
      have LSUM := Lib.hid (fun (ops : Array Oper) (rest : List Oper) (o : Oper) (a : Act) (Q : Exit → Act → World → Prop) hw (ho : o.op = .load 31 (.tmp 26)) (hx : a.eval (.tmp 26) = .pointer (some ⟨wr.heap.size, 3, none⟩)) h => load_sumS (ops := ops) (rest := rest) (o := o) (a := a) (Q := Q) hw 31 (.tmp 26) ho wr.heap.size hx S2.out Tryz.underlying31 sumSizeS h)
      rw [← hf, ← hz] at HLS HKK
      rw [← hz] at c4
      rw [← hf] at LSUM
      clear hf hz
      cases hft : firstT ts s with
      | none =>
        have HTN := Lib.hid (tree_no HSM.out hft)
        rw [hft] at HLS
        have L9 := Lib.hid (show (Instr.lookup 99 (.map (some b)) (.agg (keyA f z)) true).run Tryz.prog W2 = .ok (.tuple #[.int .i64 0, .bool false]) W2 from by have h := keyM_look_ok KM2.out contentKeyed Tryz.underlying99 (int_zeroW _) _ HKK.out; rw [HLS.out] at h; exact h)
        clear hft
        go_wp2_with (first
          | (refine LSUM.out _ _ _ _ _ (by rfl) rfl rfl ?_)
          | (refine build_as rfl 103 #[(0, .tmp 27), (1, .tmp 29)] rfl _ _ (key_built f z) (by simp [Act.eval]) ?_)
          | (at_lookup; refine wpList_lookup_raw rfl (.tmp 25) (.tmp 30) 99 true rfl b rfl _ _ rfl L9.out ?_))
        go_ret2
        exact ⟨_, by rw [HTN.out.2]; rfl, by rw [HTN.out.1]; exact files_nil _, below_next B1.out HB2.out⟩
      | some j =>
        have HYN := Lib.hid (yes_step HYS.out HSX.out hft)
        rw [hft] at HLS
        have L9 := Lib.hid (show (Instr.lookup 99 (.map (some b)) (.agg (keyA f z)) true).run Tryz.prog W2 = .ok (.tuple #[.int .i64 (j : Int), .bool true]) W2 from by have h := keyM_look_ok KM2.out contentKeyed Tryz.underlying99 (int_zeroW _) _ HKK.out; rw [HLS.out] at h; exact h)
        clear hft
        go_wp2_with (first
          | (refine LSUM.out _ _ _ _ _ (by rfl) rfl rfl ?_)
          | (refine build_as rfl 103 #[(0, .tmp 27), (1, .tmp 29)] rfl _ _ (key_built f z) (by simp [Act.eval]) ?_)
          | (at_lookup; refine wpList_lookup_raw rfl (.tmp 25) (.tmp 30) 99 true rfl b rfl _ _ rfl L9.out ?_))
        go_roundw
        case rel => exact ⟨i + 1, hi1, by go_num, HYN.out, HB2.out⟩
        case measure => simp [intOf] <;> omega
    · obtain rfl : i = n := by omega
      have q0 : ¬ (i : Int) < (i : Int) := by omega
      have HAL := Lib.hid (show ∀ s ∈ l, ∃ j, firstT ts s = some j by have h := HYS.out; rwa [List.take_of_length_le (Nat.le_of_eq HN.out.symm)] at h)
      have HTY := Lib.hid (tree_yes HAL.out)
      have HV2 := Lib.hid (holdsS_below HV1.out HB.out)
      have HX2 := Lib.hid (rows_below HX1.out HB.out)
      have KM2 := Lib.hid (keyM_block HKM.out (HB.out.block b (keyM_lt HKM.out)))
      have BW2 := Lib.hid (below_next B1.out HB.out)
      clear hi HV HX HV1 HX1 HKM B1 HB HYS
      obtain ⟨w2, hw2⟩ : ∃ z, z = wr := ⟨_, rfl⟩
      subst hw2
      go_upto_region 11 with fail
      go_loopw [11, 39] (fun fl c wr => ∃ (i' : Nat) (us : List (F8 × Value)), i' ≤ i ∧ c = .int .i64 (i' : Int) ∧ us.map (·.1) = (l.take i').map (fileT ts) ∧ KeepsT w2.heap.size wr fl us ∧ Below w2.heap.size w2 wr) (fun _ c _ => i - (intOf c).toNat)
      case atStart => exact ⟨0, [], Nat.zero_le _, rfl, rfl, keepsT_none _ _, Below.refl _ _⟩
      case round =>
        obtain ⟨n, hni⟩ : ∃ z, z = i := ⟨_, rfl⟩
        subst hni
        obtain ⟨i, us, hi, rfl, hus, hkp, hb⟩ := hrel
        have HUS := Lib.hid hus
        have HKR := Lib.hid hkp
        have HB := Lib.hid hb
        have HUL := Lib.hid (show us.length ≤ 20000 by have h := congrArg List.length hus; rw [List.length_map, List.length_map, List.length_take] at h; have := HL.out; omega)
        clear hus hkp hb
        by_cases hin : i < n
        · have q0 : (i : Int) < (n : Int) := by omega
          have q1 : (i : Int) < 50000 := by have := HL.out; omega
          have hi1 : i + 1 ≤ n := hin
          have hi5 : i < 50000 := by have := HL.out; omega
          obtain ⟨s, hsx⟩ : ∃ x, l[i]? = some x := ⟨_, List.getElem?_eq_getElem (by have := HN.out; omega)⟩
          obtain ⟨ad, cap', e1, hcx⟩ := holdsS_at (holdsS_below HV2.out HB.out) n i HN.out.symm s hsx
          cases e1
          have HC := Lib.hid hcx
          have HSM := Lib.hid (List.mem_of_getElem? hsx)
          have HSX := Lib.hid hsx
          clear hsx hcx hi
          obtain ⟨j, hj⟩ := HAL.out s HSM.out
          obtain ⟨tt, htt, hdt, hfit⟩ := firstT_at hj
          obtain ⟨adx, capx, u, e2, hcu, hub⟩ := rows_at HX2.out q j (by rw [rowsT_len]; exact HQ.out.symm) _ (rowsT_get htt)
          cases e2
          obtain ⟨tl, htl⟩ : ∃ n, n = tt.length := ⟨_, rfl⟩
          obtain ⟨bo, bc, hub2⟩ := bytes_shapeR hub tl (by rw [List.length_map]; exact htl)
          subst hub2
          have HFT := Lib.hid (show fileT ts s = (s.path, tt) by unfold fileT; rw [hdt])
          have HTX := Lib.hid (show HasText w2 (.slice bo tl bc) tt from hub)
          have CL := Lib.hid (fun W h => cloneT_any W (.slice bo tl bc) tt (Nat.le_trans (HTS.out tt (List.mem_of_getElem? htt)) (by omega)) h)
          rw [← htl] at CL
          have q5 : (j : Int) < (q : Int) := by have := (List.getElem?_eq_some_iff.1 htt).1; have := HQ.out; omega
          have q6 : (j : Int) < 50000 := by have := HQL.out; omega
          have hj5 : j < 50000 := by omega
          have HCU := Lib.hid (cell_under12 hcu HB.out)
          have HLS := Lib.hid (HLK.out s HSM.out)
          rw [hj] at HLS
          clear hj htt hdt hfit hcu hub htl
          go_upto_region 12 with fail
          go_upto_region 13 with (first
            | (refine load_shA_on (by rfl) 33 (.tmp 41) rfl (ad.add (i * 36)) rfl Tryz.underlying33 shSize HC.out ?_)
            | (refine store_new rfl 33 (.tmp 13) (.tmp 42) rfl rfl wr _ (shC s) 33 rfl rfl rfl (by rw [shSize, shC_size]) (by rw [shC_size]; rfl) (shC_one _) ?_; rintro W2 hg hb hlt; have S2 := Lib.hid (show ShAt W2 wr.heap.size 33 s from hg); have C2 := Lib.hid hb; have HB2 := Lib.hid (below_next HB.out hb); clear hg hb hlt))
          have KM3 := Lib.hid (keyM_block KM2.out (HB2.out.block b (keyM_lt KM2.out)))
          have HKK := Lib.hid (sh_key (HS.out s HSM.out))
          obtain ⟨-, -, -, c4⟩ := shAt_cells S2.out
          have cu := cell_under12 HCU.out C2.out
          have HKP := Lib.hid (keepsT_below HKR.out C2.out)
          have L9 := Lib.hid (show (Instr.lookup 99 (.map (some b)) (.agg (keyA s.sum s.size)) false).run Tryz.prog W2 = .ok (.int .i64 (j : Int)) W2 from by have h := keyM_look KM3.out contentKeyed Tryz.underlying99 (int_zeroW _) _ HKK.out; rw [HLS.out] at h; exact h)
          go_upto_region 14 with (first
            | (refine load_sumS (by rfl) 31 (.tmp 45) rfl wr.heap.size rfl S2.out Tryz.underlying31 sumSizeS ?_)
            | (refine build_as rfl 103 #[(0, .tmp 46), (1, .tmp 48)] rfl _ _ (key_built s.sum s.size) (by simp [Act.eval]) ?_)
            | (at_lookup; refine wpList_lookup_raw rfl (.tmp 44) (.tmp 49) 99 false rfl b rfl _ _ rfl L9.out ?_))
          clear c4 cu
          refine wp_region_held_drew (S := fun w' => Below w2.heap.size w2 w' ∧ ShAt w' wr.heap.size 33 s) (by kernel_rfl) ⟨drawS HB2.out, S2.out⟩ (fun hHeld => ?_)
          have hKW := drawS (Below.refl W2.heap.size W2)
          generalize W2.drew = wd at hHeld hKW ⊢
          refine take_at (i := 0) 53 rfl rfl (by kernel_rfl) (by kernel_rfl) (by kernel_rfl) (fun _ _ _ h => h) (sure_yes (by rfl) (fun w => by go_simp; try with_reducible rfl)) hHeld ?_
          try simp only [List.setIfInBounds_toArray, List.set_cons_zero, List.set_cons_succ]
          refine take_at (i := 1) 54 rfl rfl (by kernel_rfl) (by kernel_rfl) (by kernel_rfl) (fun _ _ _ h => h) (sure_yes (by rfl) (fun w => by go_simp; try with_reducible rfl)) hHeld ?_
          try simp only [List.setIfInBounds_toArray, List.set_cons_zero, List.set_cons_succ]
          refine take_at (i := 3) 56 rfl rfl (by kernel_rfl) (by kernel_rfl) (by kernel_rfl) (fun _ _ _ h => h) (sure_yes (by rfl) (fun w => by go_simp; try with_reducible rfl)) hHeld ?_
          try simp only [List.setIfInBounds_toArray, List.set_cons_zero, List.set_cons_succ]
          refine take_at (i := 2) 55 rfl rfl (by kernel_rfl) (by kernel_rfl) (by kernel_rfl) (fun _ _ _ h => h) (str_yieldsC (by rfl) 9 (.tmp 54) rfl ⟨wr.heap.size, 0, none⟩ rfl (str s.path) Tryz.underlying9 (fun _ h => (shAt_cells h.2).1)) hHeld ?_
          try simp only [List.setIfInBounds_toArray, List.set_cons_zero, List.set_cons_succ]
          refine ready_one 4 (by kernel_rfl) ?_
          refine opH_cs 57 rfl rfl (by rfl) 47 (.tmp 56) 43 rfl (.slice bo tl bc) rfl ENC.out _ (CL.out _ (has_below HTX.out hHeld.1)) ?_
          rintro x wz ⟨co, cc, rfl, ho, hb⟩
          refine ⟨_, rfl, ⟨below_next hHeld.1 hb, shAt_kept hHeld.2 hb⟩, ?_⟩
          have HCO := Lib.hid (own_baseT ho hHeld.1.size)
          have HKZ := Lib.hid (keepsT_below (keepsT_below HKP.out hKW) hb)
          replace hHeld := And.intro (below_next hHeld.1 hb) (shAt_kept hHeld.2 hb)
          clear ho hb
          try simp only [List.setIfInBounds_toArray, List.set_cons_zero, List.set_cons_succ]
          refine ready_one 5 (by kernel_rfl) ?_
          refine opH_list rfl ?_
          refine build_on (by rfl) 70 #[(0, .tmp 55), (1, .tmp 57)] rfl _ _ (built_file (str s.path) co tl cc) (by simp [Act.eval]) ?_
          refine opH_end hHeld ?_
          simp only [Act.put, List.setIfInBounds_toArray, List.set_cons_zero, List.set_cons_succ]
          refine ready_one 6 (by kernel_rfl) ?_
          obtain ⟨N9, hN9⟩ : ∃ N, wz.heap.size = N := ⟨_, rfl⟩
          have HN9 := Lib.hid hN9
          clear hN9
          refine opH_list rfl ?_
          refine build_fileM rfl 59 rfl (.tmp 58) rfl N9 HN9.out (str s.path) co tl cc rfl ?_
          rintro wy hcc hb hnn
          refine opH_end (And.intro (below_next hHeld.1 hb) (shAt_kept hHeld.2 hb)) ?_
          have HCC := Lib.hid hcc
          have HKY := Lib.hid (keepsT_below HKZ.out hb)
          have HCY := Lib.hid (own_below HCO.out hb)
          replace hHeld := (And.intro (below_next hHeld.1 hb) (shAt_kept hHeld.2 hb))
          clear hcc hb hnn
          simp only [Act.put, List.setIfInBounds_toArray, List.set_cons_zero, List.set_cons_succ]
          refine ready_one 7 (by kernel_rfl) ?_
          refine opH_list rfl ?_
          refine append_file rfl (.tmp 53) (.tmp 59) 44 rfl w2.heap.size 70 ie Tryz.underlying44 HIE.out HIZ.out _ us ((s.path, tt), .slice co tl cc) rfl HKY.out.1 ⟨N9, 0, none⟩ 1 rfl HCC.out rfl (by have := HUL.out; omega) hHeld.1.size ?_
          rintro v9 w9 ho hg
          have H9 := keepsT_more (x := ((s.path, tt), .slice co tl cc)) HKY.out HCY.out ho hg
          have hHeld2 := And.intro (below_grown hHeld.1 hg hHeld.1.size (fun k hk => (HKY.out.1.lt k hk).1)) (shAt_apart hHeld.2 HKY.out.1 (by decide) hg)
          refine opH_end hHeld2 ?_
          have HK9 := Lib.hid H9
          have HB9 := Lib.hid hHeld2.1
          replace hHeld := hHeld2
          clear H9 hHeld2 ho hg
          simp only [Act.put, List.setIfInBounds_toArray, List.set_cons_zero, List.set_cons_succ]
          refine take_at (i := 8) (v := v9) 11 rfl rfl (by kernel_rfl) (by kernel_rfl) (by kernel_rfl) (fun _ _ _ h => h) (sure_yes (by rfl) (fun w => by go_simp; try with_reducible rfl)) hHeld ?_
          try simp only [List.setIfInBounds_toArray, List.set_cons_zero, List.set_cons_succ]
          refine wpAnyH_done (by kernel_rfl) ?_ _
          clear hHeld
          go_wp2
          go_roundw
          case rel => exact ⟨i + 1, us ++ [((s.path, tt), .slice co tl cc)], hi1, by go_num, by rw [List.map_append, HUS.out, map_step HSX.out, HFT.out]; rfl, HK9.out, HB9.out⟩
          case measure => simp [intOf] <;> omega
        · obtain rfl : i = n := by omega
          have q0 : ¬ (i : Int) < (i : Int) := by omega
          have HFF := Lib.hid (show us.map (·.1) = l.map (fileT ts) by rw [HUS.out, List.take_of_length_le (Nat.le_of_eq HN.out.symm)])
          clear hi
          go_wp2
          go_ret2
          exact ⟨_, by rw [HTY.out.2]; rfl, by rw [HTY.out.1, ← HFF.out]; exact keepsT_files HKR.out, below_next BW2.out HB.out⟩
end Go.Proofs.YtppmbdpfledejaaGreatDoor
namespace Go.Proofs.YtppmbdpfledejaaGreatDoor
open Go.RowKit Go.Maps
theorem add_zeroT (ad : Addr) : ad.add 0 = ad := by unfold Addr.add; split <;> simp_all
/-- The files so far: a slice of the call's own, of paths and of bytes that lie where they lay. -/
def KeepsR (w w' : World) (vl : Value) (us : List (F8 × Value)) : Prop :=
  w'.ownsRow w.heap.size 70 2 vl us.length (filesC us) ∧ ∀ x ∈ us, HasText w x.2 x.1.2
theorem keepsR_none (w w' : World) : KeepsR w w' (.slice none 0 0) [] := ⟨⟨rfl, .inl ⟨rfl, rfl⟩⟩, fun _ h => by cases h⟩
theorem keepsR_below {w w1 w2 : World} {vl : Value} {us : List (F8 × Value)} (h : KeepsR w w1 vl us) (hb : Below w1.heap.size w1 w2) : KeepsR w w2 vl us := ⟨own_below h.1 hb, h.2⟩
theorem keepsR_files {w w1 : World} {vl : Value} {us : List (F8 × Value)} (h : KeepsR w w1 vl us) (hb : Below w.heap.size w w1) : HasFiles w1 vl (us.map (·.1)) :=
  files_of_own h.1 fun x hx => has_below (h.2 x hx) hb
theorem keepsR_more {w w1 w2 : World} {vl v2 : Value} {us : List (F8 × Value)} {x : F8 × Value} (h : KeepsR w w1 vl us) (hx : HasText w x.2 x.1.2) (ho : w2.ownsRow w.heap.size 70 2 v2 (us ++ [x]).length (filesC (us ++ [x]))) : KeepsR w w2 v2 (us ++ [x]) := by
  refine ⟨ho, fun y hy => ?_⟩
  rcases List.mem_append.1 hy with hy | hy
  · exact h.2 y hy
  · rw [List.mem_singleton] at hy; subst hy; exact hx
theorem first_here {ls : List (List (BitVec 32))} {a : Nat} {bs : List (BitVec 32)} {s : Sh} (h : firstB (ls.take a) s = none) (hb : ls[a]? = some bs) (hf : fitsS s bs = true) : firstB ls s = some a := by
  have h1 := firstB_next hb s
  rw [h, if_pos hf, Option.none_or] at h1
  have e : ls = ls.take (a + 1) ++ ls.drop (a + 1) := (List.take_append_drop _ _).symm
  unfold firstB at *
  rw [e, List.findIdx?_append, h1]; rfl
theorem first_further {ls : List (List (BitVec 32))} {a : Nat} {bs : List (BitVec 32)} {s : Sh} (h : firstB (ls.take a) s = none) (hb : ls[a]? = some bs) (hf : fitsS s bs = false) : firstB (ls.take (a + 1)) s = none := by
  rw [firstB_next hb s, h, hf]; rfl
set_option linter.unusedSimpArgs false in
set_option maxRecDepth 100000 in
set_option maxHeartbeats 16000000 in
theorem refTree_any (l : List Sh) (hl : l.length ≤ 20000) (ts : List (List UInt8)) (hts : ∀ t ∈ ts, t.length ≤ 1099511627776) (hn : ts.length ≤ 20000) (v x : Value) (w : World) (tab : Tab w) (hv : HoldsS w v l) (hx : HasRows w x (rowsT ts)) :
    Calls Tryz.prog 15 #[v, x] w fun e w' => ∃ y, e = .returned (.tuple #[y, .int .i64 (treeErr l ts)]) ∧ HasFiles w' y (treeV l ts) ∧ Below w.heap.size w w' := by
  obtain ⟨n, hnn⟩ : ∃ n, n = l.length := ⟨_, rfl⟩
  have HN := Lib.hid hnn
  have HL := Lib.hid (show n ≤ 20000 by omega)
  obtain ⟨ao, cap, hvs⟩ := holdsS_shape hv n hnn
  subst hvs
  obtain ⟨q, hqq⟩ : ∃ q, q = ts.length := ⟨_, rfl⟩
  have HQ := Lib.hid hqq
  have HQL := Lib.hid (show q ≤ 20000 by omega)
  obtain ⟨xo, xc, hxs⟩ := rows_shape hx q (by rw [rowsT_len]; exact hqq)
  subst hxs
  have HV := Lib.hid hv
  have HX := Lib.hid hx
  have HTS := Lib.hid hts
  have HT := Lib.hid tab
  have ENF := Lib.hid (show ∀ vs w, (callFunc 17 vs).run Tryz.prog w = .ok (.enter 17 vs) w from (enters_of Tryz.func17 (by kernel_rfl) rfl))
  obtain ⟨ie, hie, hiz⟩ := infoFileT
  have HIE := Lib.hid hie
  have HIZ := Lib.hid hiz
  clear hl hv hx hts tab hn hnn hqq hie hiz
  go_enter Tryz.func15, Tryz.ntmps15
  go_upto_region 3 with fail
  go_loopw [6, 7] (fun fl c wr => ∃ (i : Nat) (us : List (F8 × Value)), i ≤ n ∧ c = .int .i64 (i : Int) ∧ us.map (·.1) = (l.take i).map (fileT ts) ∧ (∀ s ∈ l.take i, ∃ j, firstT ts s = some j) ∧ KeepsR w wr fl us ∧ Below w.heap.size w wr) (fun _ c _ => n - (intOf c).toNat)
  case atStart => exact ⟨0, [], Nat.zero_le _, rfl, rfl, (fun _ h => by simp at h), keepsR_none _ _, Below.refl _ _⟩
  case round =>
    obtain ⟨i, us, hi, rfl, hus, hys, hkp, hb⟩ := hrel
    have HUS := Lib.hid hus
    have HYS := Lib.hid hys
    have HKR := Lib.hid hkp
    have HB := Lib.hid hb
    have HUL := Lib.hid (show us.length ≤ 20000 by have h := congrArg List.length hus; rw [List.length_map, List.length_map, List.length_take] at h; have := HL.out; omega)
    clear hus hys hkp hb
    by_cases hin : i < n
    · have q0 : (i : Int) < (n : Int) := by omega
      have q1 : (i : Int) < 50000 := by have := HL.out; omega
      have hi1 : i + 1 ≤ n := hin
      have hi5 : i < 50000 := by have := HL.out; omega
      obtain ⟨s, hsx⟩ : ∃ x, l[i]? = some x := ⟨_, List.getElem?_eq_getElem (by have := HN.out; omega)⟩
      obtain ⟨ad, cap', e1, hcx⟩ := holdsS_at HV.out n i HN.out.symm s hsx
      cases e1
      have HC := Lib.hid hcx
      have HP0 := Lib.hid (by have h := hcx 0 _ (shC_at s).1; rwa [add_zeroT] at h)
      have HSM := Lib.hid (List.mem_of_getElem? hsx)
      have HSX := Lib.hid hsx
      clear hsx hcx hi
      go_upto_region 6 with fail
      obtain ⟨wo, hwo⟩ : ∃ z, z = wr := ⟨_, rfl⟩
      subst hwo
      go_loopw [8] (fun c wr => ∃ a : Nat, a ≤ q ∧ c = .int .i64 (a : Int) ∧ firstB ((rowsT ts).take a) s = none ∧ KeepsR w wr u6 us ∧ Below w.heap.size w wr) (fun c _ => q - (intOf c).toNat)
      case atStart => exact ⟨0, Nat.zero_le _, rfl, by rw [List.take_zero]; rfl, HKR.out, HB.out⟩
      case round =>
        obtain ⟨a, ha, rfl, hfn, hki, hbi⟩ := hrel
        have HFN := Lib.hid hfn
        have HKI := Lib.hid hki
        have HBI := Lib.hid hbi
        clear hfn hki hbi
        by_cases haq : a < q
        · have z0 : (a : Int) < (q : Int) := by omega
          have z1 : (a : Int) < 50000 := by have := HQL.out; omega
          have ha1 : a + 1 ≤ q := haq
          have ha5 : a < 50000 := by have := HQL.out; omega
          have zq : ((a : Int) == (q : Int)) = false := beq_eq_false_iff_ne.2 (by omega)
          obtain ⟨tt, htt⟩ : ∃ x, ts[a]? = some x := ⟨_, List.getElem?_eq_getElem (by have := HQ.out; omega)⟩
          obtain ⟨adx, capx, u, e2, hcu, hub⟩ := rows_at HX.out q a (by rw [rowsT_len]; exact HQ.out.symm) _ (rowsT_get htt)
          cases e2
          obtain ⟨tl, htl⟩ : ∃ n, n = tt.length := ⟨_, rfl⟩
          obtain ⟨bo, bc, hub2⟩ := bytes_shapeR hub tl (by rw [List.length_map]; exact htl)
          subst hub2
          have HTX := Lib.hid (show HasText w (.slice bo tl bc) tt from hub)
          have HCU := Lib.hid hcu
          have HTT := Lib.hid htt
          have FI := Lib.hid (fun W tb h => refFits_any s (tt.map w8) (fun x hx => by obtain ⟨y, _, rfl⟩ := List.mem_map.1 hx; exact w8_lt y) (by rw [List.length_map]; exact HTS.out tt (List.mem_of_getElem? htt)) (.slice bo tl bc) W tb h)
          clear htt hcu hub htl ha
          cases hff : fitsS s (tt.map w8) with
          | false =>
            rw [hff] at FI
            have HFU := Lib.hid (first_further HFN.out (rowsT_get HTT.out) hff)
            clear hff
            go_upto_region 6 with fail
            refine wp_region_held_drew (S := fun w' => Below w.heap.size w w' ∧ KeepsR w w' u6 us) (by kernel_rfl) (And.intro (drawS HBI.out) (keepsR_below HKI.out (drawS (Below.refl wr.heap.size wr)))) (fun hHeld => ?_)
            generalize wr.drew = wd at hHeld ⊢
            refine take_at (i := 0) 15 rfl rfl (by kernel_rfl) (by kernel_rfl) (by kernel_rfl) (fun _ _ _ h => h) (sure_yes (by rfl) (fun w => by go_simp; try with_reducible rfl)) hHeld ?_
            try simp only [List.setIfInBounds_toArray, List.set_cons_zero, List.set_cons_succ]
            refine take_at (i := 1) 16 rfl rfl (by kernel_rfl) (by kernel_rfl) (by kernel_rfl) (fun _ _ _ h => h) (sure_yes (by rfl) (fun w => by go_simp; try with_reducible rfl)) hHeld ?_
            try simp only [List.setIfInBounds_toArray, List.set_cons_zero, List.set_cons_succ]
            refine take_at (i := 2) 17 rfl rfl (by kernel_rfl) (by kernel_rfl) (by kernel_rfl) (fun _ _ _ h => h) (sure_yes (by rfl) (fun w => by go_simp; try with_reducible rfl)) hHeld ?_
            try simp only [List.setIfInBounds_toArray, List.set_cons_zero, List.set_cons_succ]
            refine take_at (i := 3) 18 rfl rfl (by kernel_rfl) (by kernel_rfl) (by kernel_rfl) (fun _ _ _ h => h) (sure_yes (by rfl) (fun w => by go_simp; try with_reducible rfl)) hHeld ?_
            try simp only [List.setIfInBounds_toArray, List.set_cons_zero, List.set_cons_succ]
            refine take_at (i := 4) 19 rfl rfl (by kernel_rfl) (by kernel_rfl) (by kernel_rfl) (fun _ _ _ h => h) (sure_yes (by rfl) (fun w => by go_simp; try with_reducible rfl)) hHeld ?_
            try simp only [List.setIfInBounds_toArray, List.set_cons_zero, List.set_cons_succ]
            refine take_at (i := 5) 20 rfl rfl (by kernel_rfl) (by kernel_rfl) (by kernel_rfl) (fun _ _ _ h => h) (sure_yes (by rfl) (fun w => by go_simp; try with_reducible rfl)) hHeld ?_
            try simp only [List.setIfInBounds_toArray, List.set_cons_zero, List.set_cons_succ]
            refine take_at (i := 6) 21 rfl rfl (by kernel_rfl) (by kernel_rfl) (by kernel_rfl) (fun _ _ _ h => h) (sure_yes (by rfl) (fun w => by go_simp; try with_reducible rfl)) hHeld ?_
            try simp only [List.setIfInBounds_toArray, List.set_cons_zero, List.set_cons_succ]
            refine take_at (i := 7) 22 rfl rfl (by kernel_rfl) (by kernel_rfl) (by kernel_rfl) (fun _ _ _ h => h) (sure_yes (by rfl) (fun w => by go_simp; try with_reducible rfl)) hHeld ?_
            try simp only [List.setIfInBounds_toArray, List.set_cons_zero, List.set_cons_succ]
            refine take_at (i := 9) 24 rfl rfl (by kernel_rfl) (by kernel_rfl) (by kernel_rfl) (fun _ _ _ h => h) (sure_yes (by rfl) (fun w => by go_simp; try with_reducible rfl)) hHeld ?_
            try simp only [List.setIfInBounds_toArray, List.set_cons_zero, List.set_cons_succ]
            refine take_at (i := 10) 25 rfl rfl (by kernel_rfl) (by kernel_rfl) (by kernel_rfl) (fun _ _ _ h => h) (sure_yes (by rfl) (fun w => by go_simp; try with_reducible rfl)) hHeld ?_
            try simp only [List.setIfInBounds_toArray, List.set_cons_zero, List.set_cons_succ]
            refine take_at (i := 11) 26 rfl rfl (by kernel_rfl) (by kernel_rfl) (by kernel_rfl) (fun _ _ _ h => h) (sure_yes (by rfl) (fun w => by go_simp; try with_reducible rfl)) hHeld ?_
            try simp only [List.setIfInBounds_toArray, List.set_cons_zero, List.set_cons_succ]
            refine take_at (i := 8) 23 rfl rfl (by kernel_rfl) (by kernel_rfl) (by kernel_rfl) (fun _ _ _ h => h) (shA_yields (by rfl) 36 (.tmp 22) rfl (ad.add (i * 36)) rfl Tryz.underlying36 rsSize (fun w h j u hu => cell_under12 (HC.out j u hu) h.1)) hHeld ?_
            try simp only [List.setIfInBounds_toArray, List.set_cons_zero, List.set_cons_succ]
            refine take_at (i := 12) 27 rfl rfl (by kernel_rfl) (by kernel_rfl) (by kernel_rfl) (fun _ _ _ h => h) (slice_yieldsT (by rfl) 43 (.tmp 26) rfl (adx.add a) rfl bo tl bc Tryz.underlying43 (fun w h => cell_under12 HCU.out h.1)) hHeld ?_
            try simp only [List.setIfInBounds_toArray, List.set_cons_zero, List.set_cons_succ]
            refine ready_one 13 (by kernel_rfl) ?_
            refine opH_kt 28 rfl rfl (by rfl) 17 (.tmp 23) (.tmp 27) 36 43 rfl (.agg (shC s)) (.slice bo tl bc) rfl rfl ENF.out _ (FI.out _ (tab_keep HT.out hHeld.1 (Nat.le_refl _)) (has_below HTX.out hHeld.1)) ?_
            rintro z wz ⟨rfl, hb⟩
            refine ⟨_, rfl, And.intro (below_next hHeld.1 hb) (keepsR_below hHeld.2 hb), ?_⟩
            replace hHeld := And.intro (below_next hHeld.1 hb) (keepsR_below hHeld.2 hb)
            clear hb
            try simp only [List.setIfInBounds_toArray, List.set_cons_zero, List.set_cons_succ]
            refine take_at (i := 14) 29 rfl rfl (by kernel_rfl) (by kernel_rfl) (by kernel_rfl) (fun _ _ _ h => h) (sure_yes (by rfl) (fun w => by go_simp; try with_reducible rfl)) hHeld ?_
            try simp only [List.setIfInBounds_toArray, List.set_cons_zero, List.set_cons_succ]
            refine take_at (i := 15) 30 rfl rfl (by kernel_rfl) (by kernel_rfl) (by kernel_rfl) (fun _ _ _ h => h) (sure_yes (by rfl) (fun w => by go_simp; try with_reducible rfl)) hHeld ?_
            try simp only [List.setIfInBounds_toArray, List.set_cons_zero, List.set_cons_succ]
            refine wpAnyH_done (by kernel_rfl) ?_ _
            have HBJ := Lib.hid hHeld.1
            have HKJ := Lib.hid hHeld.2
            clear hHeld
            go_wp2
            go_roundw
            case rel => exact ⟨a + 1, ha1, by go_num, HFU.out, HKJ.out, HBJ.out⟩
            case measure => simp [intOf] <;> omega
          | true =>
            rw [hff] at FI
            have HFI := Lib.hid (show firstT ts s = some a from first_here HFN.out (rowsT_get HTT.out) hff)
            have HFT := Lib.hid (show fileT ts s = (s.path, tt) by obtain ⟨t', h1, h2, -⟩ := firstT_at HFI.out; rw [HTT.out] at h1; unfold fileT; rw [h2, Option.some.inj h1])
            have HYN := Lib.hid (yes_step HYS.out HSX.out HFI.out)
            clear hff
            go_upto_region 6 with fail
            refine wp_region_held_drew (S := fun w' => Below w.heap.size w w' ∧ KeepsR w w' u6 us) (by kernel_rfl) (And.intro (drawS HBI.out) (keepsR_below HKI.out (drawS (Below.refl wr.heap.size wr)))) (fun hHeld => ?_)
            generalize wr.drew = wd at hHeld ⊢
            refine take_at (i := 0) 15 rfl rfl (by kernel_rfl) (by kernel_rfl) (by kernel_rfl) (fun _ _ _ h => h) (sure_yes (by rfl) (fun w => by go_simp; try with_reducible rfl)) hHeld ?_
            try simp only [List.setIfInBounds_toArray, List.set_cons_zero, List.set_cons_succ]
            refine take_at (i := 1) 16 rfl rfl (by kernel_rfl) (by kernel_rfl) (by kernel_rfl) (fun _ _ _ h => h) (sure_yes (by rfl) (fun w => by go_simp; try with_reducible rfl)) hHeld ?_
            try simp only [List.setIfInBounds_toArray, List.set_cons_zero, List.set_cons_succ]
            refine take_at (i := 2) 17 rfl rfl (by kernel_rfl) (by kernel_rfl) (by kernel_rfl) (fun _ _ _ h => h) (sure_yes (by rfl) (fun w => by go_simp; try with_reducible rfl)) hHeld ?_
            try simp only [List.setIfInBounds_toArray, List.set_cons_zero, List.set_cons_succ]
            refine take_at (i := 3) 18 rfl rfl (by kernel_rfl) (by kernel_rfl) (by kernel_rfl) (fun _ _ _ h => h) (sure_yes (by rfl) (fun w => by go_simp; try with_reducible rfl)) hHeld ?_
            try simp only [List.setIfInBounds_toArray, List.set_cons_zero, List.set_cons_succ]
            refine take_at (i := 4) 19 rfl rfl (by kernel_rfl) (by kernel_rfl) (by kernel_rfl) (fun _ _ _ h => h) (sure_yes (by rfl) (fun w => by go_simp; try with_reducible rfl)) hHeld ?_
            try simp only [List.setIfInBounds_toArray, List.set_cons_zero, List.set_cons_succ]
            refine take_at (i := 5) 20 rfl rfl (by kernel_rfl) (by kernel_rfl) (by kernel_rfl) (fun _ _ _ h => h) (sure_yes (by rfl) (fun w => by go_simp; try with_reducible rfl)) hHeld ?_
            try simp only [List.setIfInBounds_toArray, List.set_cons_zero, List.set_cons_succ]
            refine take_at (i := 6) 21 rfl rfl (by kernel_rfl) (by kernel_rfl) (by kernel_rfl) (fun _ _ _ h => h) (sure_yes (by rfl) (fun w => by go_simp; try with_reducible rfl)) hHeld ?_
            try simp only [List.setIfInBounds_toArray, List.set_cons_zero, List.set_cons_succ]
            refine take_at (i := 7) 22 rfl rfl (by kernel_rfl) (by kernel_rfl) (by kernel_rfl) (fun _ _ _ h => h) (sure_yes (by rfl) (fun w => by go_simp; try with_reducible rfl)) hHeld ?_
            try simp only [List.setIfInBounds_toArray, List.set_cons_zero, List.set_cons_succ]
            refine take_at (i := 9) 24 rfl rfl (by kernel_rfl) (by kernel_rfl) (by kernel_rfl) (fun _ _ _ h => h) (sure_yes (by rfl) (fun w => by go_simp; try with_reducible rfl)) hHeld ?_
            try simp only [List.setIfInBounds_toArray, List.set_cons_zero, List.set_cons_succ]
            refine take_at (i := 10) 25 rfl rfl (by kernel_rfl) (by kernel_rfl) (by kernel_rfl) (fun _ _ _ h => h) (sure_yes (by rfl) (fun w => by go_simp; try with_reducible rfl)) hHeld ?_
            try simp only [List.setIfInBounds_toArray, List.set_cons_zero, List.set_cons_succ]
            refine take_at (i := 11) 26 rfl rfl (by kernel_rfl) (by kernel_rfl) (by kernel_rfl) (fun _ _ _ h => h) (sure_yes (by rfl) (fun w => by go_simp; try with_reducible rfl)) hHeld ?_
            try simp only [List.setIfInBounds_toArray, List.set_cons_zero, List.set_cons_succ]
            refine take_at (i := 8) 23 rfl rfl (by kernel_rfl) (by kernel_rfl) (by kernel_rfl) (fun _ _ _ h => h) (shA_yields (by rfl) 36 (.tmp 22) rfl (ad.add (i * 36)) rfl Tryz.underlying36 rsSize (fun w h j u hu => cell_under12 (HC.out j u hu) h.1)) hHeld ?_
            try simp only [List.setIfInBounds_toArray, List.set_cons_zero, List.set_cons_succ]
            refine take_at (i := 12) 27 rfl rfl (by kernel_rfl) (by kernel_rfl) (by kernel_rfl) (fun _ _ _ h => h) (slice_yieldsT (by rfl) 43 (.tmp 26) rfl (adx.add a) rfl bo tl bc Tryz.underlying43 (fun w h => cell_under12 HCU.out h.1)) hHeld ?_
            try simp only [List.setIfInBounds_toArray, List.set_cons_zero, List.set_cons_succ]
            refine ready_one 13 (by kernel_rfl) ?_
            refine opH_kt 28 rfl rfl (by rfl) 17 (.tmp 23) (.tmp 27) 36 43 rfl (.agg (shC s)) (.slice bo tl bc) rfl rfl ENF.out _ (FI.out _ (tab_keep HT.out hHeld.1 (Nat.le_refl _)) (has_below HTX.out hHeld.1)) ?_
            rintro z wz ⟨rfl, hb⟩
            refine ⟨_, rfl, And.intro (below_next hHeld.1 hb) (keepsR_below hHeld.2 hb), ?_⟩
            replace hHeld := And.intro (below_next hHeld.1 hb) (keepsR_below hHeld.2 hb)
            clear hb
            try simp only [List.setIfInBounds_toArray, List.set_cons_zero, List.set_cons_succ]
            refine take_at (i := 14) 29 rfl rfl (by kernel_rfl) (by kernel_rfl) (by kernel_rfl) (fun _ _ _ h => h) (sure_yes (by rfl) (fun w => by go_simp; try with_reducible rfl)) hHeld ?_
            try simp only [List.setIfInBounds_toArray, List.set_cons_zero, List.set_cons_succ]
            refine take_at (i := 15) 30 rfl rfl (by kernel_rfl) (by kernel_rfl) (by kernel_rfl) (fun _ _ _ h => h) (sure_yes (by rfl) (fun w => by go_simp; try with_reducible rfl)) hHeld ?_
            try simp only [List.setIfInBounds_toArray, List.set_cons_zero, List.set_cons_succ]
            refine wpAnyH_done (by kernel_rfl) ?_ _
            have HBJ := Lib.hid hHeld.1
            have HKJ := Lib.hid hHeld.2
            clear hHeld
            obtain ⟨wj, hwj⟩ : ∃ z, z = wz := ⟨_, rfl⟩
            subst hwj
            go_upto_region 10 with fail
            refine wp_region_held_drew (S := fun w' => Below w.heap.size w w') (by kernel_rfl) (drawS HBJ.out) (fun hHeld => ?_)
            have HKZ := Lib.hid (keepsR_below HKJ.out (drawS (Below.refl wj.heap.size wj)))
            generalize wj.drew = wz at hHeld HKZ ⊢
            refine take_at (i := 0) 37 rfl rfl (by kernel_rfl) (by kernel_rfl) (by kernel_rfl) (fun _ _ _ h => h) (sure_yes (by rfl) (fun w => by go_simp; try with_reducible rfl)) hHeld ?_
            try simp only [List.setIfInBounds_toArray, List.set_cons_zero, List.set_cons_succ]
            refine take_at (i := 1) 38 rfl rfl (by kernel_rfl) (by kernel_rfl) (by kernel_rfl) (fun _ _ _ h => h) (sure_yes (by rfl) (fun w => by go_simp; try with_reducible rfl)) hHeld ?_
            try simp only [List.setIfInBounds_toArray, List.set_cons_zero, List.set_cons_succ]
            refine take_at (i := 2) 39 rfl rfl (by kernel_rfl) (by kernel_rfl) (by kernel_rfl) (fun _ _ _ h => h) (sure_yes (by rfl) (fun w => by go_simp; try with_reducible rfl)) hHeld ?_
            try simp only [List.setIfInBounds_toArray, List.set_cons_zero, List.set_cons_succ]
            refine take_at (i := 3) 40 rfl rfl (by kernel_rfl) (by kernel_rfl) (by kernel_rfl) (fun _ _ _ h => h) (sure_yes (by rfl) (fun w => by go_simp; try with_reducible rfl)) hHeld ?_
            try simp only [List.setIfInBounds_toArray, List.set_cons_zero, List.set_cons_succ]
            refine take_at (i := 4) 41 rfl rfl (by kernel_rfl) (by kernel_rfl) (by kernel_rfl) (fun _ _ _ h => h) (sure_yes (by rfl) (fun w => by go_simp; try with_reducible rfl)) hHeld ?_
            try simp only [List.setIfInBounds_toArray, List.set_cons_zero, List.set_cons_succ]
            refine take_at (i := 6) 43 rfl rfl (by kernel_rfl) (by kernel_rfl) (by kernel_rfl) (fun _ _ _ h => h) (sure_yes (by rfl) (fun w => by go_simp; try with_reducible rfl)) hHeld ?_
            try simp only [List.setIfInBounds_toArray, List.set_cons_zero, List.set_cons_succ]
            refine take_at (i := 7) 44 rfl rfl (by kernel_rfl) (by kernel_rfl) (by kernel_rfl) (fun _ _ _ h => h) (sure_yes (by rfl) (fun w => by go_simp; try with_reducible rfl)) hHeld ?_
            try simp only [List.setIfInBounds_toArray, List.set_cons_zero, List.set_cons_succ]
            refine take_at (i := 8) 45 rfl rfl (by kernel_rfl) (by kernel_rfl) (by kernel_rfl) (fun _ _ _ h => h) (sure_yes (by rfl) (fun w => by go_simp; try with_reducible rfl)) hHeld ?_
            try simp only [List.setIfInBounds_toArray, List.set_cons_zero, List.set_cons_succ]
            refine take_at (i := 5) 42 rfl rfl (by kernel_rfl) (by kernel_rfl) (by kernel_rfl) (fun _ _ _ h => h) (str_yieldsC (by rfl) 9 (.tmp 41) rfl (ad.add (i * 36)) rfl (str s.path) Tryz.underlying9 (fun w h => cell_under12 HP0.out h)) hHeld ?_
            try simp only [List.setIfInBounds_toArray, List.set_cons_zero, List.set_cons_succ]
            refine take_at (i := 9) 46 rfl rfl (by kernel_rfl) (by kernel_rfl) (by kernel_rfl) (fun _ _ _ h => h) (slice_yieldsT (by rfl) 43 (.tmp 45) rfl (adx.add a) rfl bo tl bc Tryz.underlying43 (fun w h => cell_under12 HCU.out h)) hHeld ?_
            try simp only [List.setIfInBounds_toArray, List.set_cons_zero, List.set_cons_succ]
            refine ready_one 10 (by kernel_rfl) ?_
            refine opH_list rfl ?_
            refine build_on (by rfl) 70 #[(0, .tmp 42), (1, .tmp 46)] rfl _ _ (built_file (str s.path) bo tl bc) (by simp [Act.eval]) ?_
            refine opH_end hHeld ?_
            simp only [Act.put, List.setIfInBounds_toArray, List.set_cons_zero, List.set_cons_succ]
            refine ready_one 11 (by kernel_rfl) ?_
            obtain ⟨N9, hN9⟩ : ∃ N, wz.heap.size = N := ⟨_, rfl⟩
            have HN9 := Lib.hid hN9
            clear hN9
            refine opH_list rfl ?_
            refine build_fileM rfl 48 rfl (.tmp 47) rfl N9 HN9.out (str s.path) bo tl bc rfl ?_
            rintro wy hcc hb hnn
            refine opH_end (below_next hHeld hb) ?_
            have HCC := Lib.hid hcc
            have HKY := Lib.hid (keepsR_below HKZ.out hb)
            replace hHeld := (below_next hHeld hb)
            clear hcc hb hnn
            simp only [Act.put, List.setIfInBounds_toArray, List.set_cons_zero, List.set_cons_succ]
            refine ready_one 12 (by kernel_rfl) ?_
            refine opH_list rfl ?_
            refine append_file rfl (.tmp 37) (.tmp 48) 44 rfl w.heap.size 70 ie Tryz.underlying44 HIE.out HIZ.out _ us ((s.path, tt), .slice bo tl bc) rfl HKY.out.1 ⟨N9, 0, none⟩ 1 rfl HCC.out rfl (by have := HUL.out; omega) hHeld.size ?_
            rintro v9 w9 ho hg
            have H9 := keepsR_more (x := ((s.path, tt), .slice bo tl bc)) HKY.out HTX.out ho
            have hHeld2 := below_grown hHeld hg hHeld.size (fun k hk => (HKY.out.1.lt k hk).1)
            refine opH_end hHeld2 ?_
            have HK9 := Lib.hid H9
            have HB9 := Lib.hid hHeld2
            replace hHeld := hHeld2
            clear H9 hHeld2 ho hg
            simp only [Act.put, List.setIfInBounds_toArray, List.set_cons_zero, List.set_cons_succ]
            refine take_at (i := 13) (v := v9) 6 rfl rfl (by kernel_rfl) (by kernel_rfl) (by kernel_rfl) (fun _ _ _ h => h) (sure_yes (by rfl) (fun w => by go_simp; try with_reducible rfl)) hHeld ?_
            try simp only [List.setIfInBounds_toArray, List.set_cons_zero, List.set_cons_succ]
            refine wpAnyH_done (by kernel_rfl) ?_ _
            clear hHeld
            go_wp2
            go_roundw
            case rel => exact ⟨i + 1, us ++ [((s.path, tt), .slice bo tl bc)], hi1, by go_num, by rw [List.map_append, HUS.out, map_step HSX.out, HFT.out]; rfl, HYN.out, HK9.out, HB9.out⟩
            case measure => simp [intOf] <;> omega
        · obtain rfl : a = q := by omega
          have z0 : ¬ (a : Int) < (a : Int) := by omega
          have HFE := Lib.hid (tree_no HSM.out (show firstT ts s = none from by have h := HFN.out; rwa [List.take_of_length_le (by rw [rowsT_len]; exact Nat.le_of_eq HQ.out.symm)] at h))
          clear ha
          go_upto_region 6 with fail
          refine wp_region_held_drew (S := fun w' => Below w.heap.size w w' ∧ KeepsR w w' u6 us) (by kernel_rfl) (And.intro (drawS HBI.out) (keepsR_below HKI.out (drawS (Below.refl wr.heap.size wr)))) (fun hHeld => ?_)
          generalize wr.drew = wd at hHeld ⊢
          refine take_at (i := 0) 15 rfl rfl (by kernel_rfl) (by kernel_rfl) (by kernel_rfl) (fun _ _ _ h => h) (sure_yes (by rfl) (fun w => by go_simp; try with_reducible rfl)) hHeld ?_
          try simp only [List.setIfInBounds_toArray, List.set_cons_zero, List.set_cons_succ]
          refine take_at (i := 1) 16 rfl rfl (by kernel_rfl) (by kernel_rfl) (by kernel_rfl) (fun _ _ _ h => h) (sure_yes (by rfl) (fun w => by go_simp; try with_reducible rfl)) hHeld ?_
          try simp only [List.setIfInBounds_toArray, List.set_cons_zero, List.set_cons_succ]
          refine take_at (i := 2) 17 rfl rfl (by kernel_rfl) (by kernel_rfl) (by kernel_rfl) (fun _ _ _ h => h) (sure_yes (by rfl) (fun w => by go_simp; try with_reducible rfl)) hHeld ?_
          try simp only [List.setIfInBounds_toArray, List.set_cons_zero, List.set_cons_succ]
          refine take_at (i := 3) 18 rfl rfl (by kernel_rfl) (by kernel_rfl) (by kernel_rfl) (fun _ _ _ h => h) (sure_yes (by rfl) (fun w => by go_simp; try with_reducible rfl)) hHeld ?_
          try simp only [List.setIfInBounds_toArray, List.set_cons_zero, List.set_cons_succ]
          refine take_at (i := 4) 19 rfl rfl (by kernel_rfl) (by kernel_rfl) (by kernel_rfl) (fun _ _ _ h => h) (sure_yes (by rfl) (fun w => by go_simp; try with_reducible rfl)) hHeld ?_
          try simp only [List.setIfInBounds_toArray, List.set_cons_zero, List.set_cons_succ]
          refine take_at (i := 5) 20 rfl rfl (by kernel_rfl) (by kernel_rfl) (by kernel_rfl) (fun _ _ _ h => h) (.inr ⟨by rfl, rfl⟩) hHeld ?_
          try simp only [List.setIfInBounds_toArray, List.set_cons_zero, List.set_cons_succ]
          refine take_at (i := 6) 21 rfl rfl (by kernel_rfl) (by kernel_rfl) (by kernel_rfl) (fun _ _ _ h => h) (.inr ⟨by rfl, rfl⟩) hHeld ?_
          try simp only [List.setIfInBounds_toArray, List.set_cons_zero, List.set_cons_succ]
          refine take_at (i := 7) 22 rfl rfl (by kernel_rfl) (by kernel_rfl) (by kernel_rfl) (fun _ _ _ h => h) (.inr ⟨by rfl, rfl⟩) hHeld ?_
          try simp only [List.setIfInBounds_toArray, List.set_cons_zero, List.set_cons_succ]
          refine take_at (i := 8) 23 rfl rfl (by kernel_rfl) (by kernel_rfl) (by kernel_rfl) (fun _ _ _ h => h) (.inr ⟨by rfl, rfl⟩) hHeld ?_
          try simp only [List.setIfInBounds_toArray, List.set_cons_zero, List.set_cons_succ]
          refine take_at (i := 9) 24 rfl rfl (by kernel_rfl) (by kernel_rfl) (by kernel_rfl) (fun _ _ _ h => h) (.inr ⟨by rfl, rfl⟩) hHeld ?_
          try simp only [List.setIfInBounds_toArray, List.set_cons_zero, List.set_cons_succ]
          refine take_at (i := 10) 25 rfl rfl (by kernel_rfl) (by kernel_rfl) (by kernel_rfl) (fun _ _ _ h => h) (.inr ⟨by rfl, rfl⟩) hHeld ?_
          try simp only [List.setIfInBounds_toArray, List.set_cons_zero, List.set_cons_succ]
          refine take_at (i := 11) 26 rfl rfl (by kernel_rfl) (by kernel_rfl) (by kernel_rfl) (fun _ _ _ h => h) (.inr ⟨by rfl, rfl⟩) hHeld ?_
          try simp only [List.setIfInBounds_toArray, List.set_cons_zero, List.set_cons_succ]
          refine take_at (i := 12) 27 rfl rfl (by kernel_rfl) (by kernel_rfl) (by kernel_rfl) (fun _ _ _ h => h) (.inr ⟨by rfl, rfl⟩) hHeld ?_
          try simp only [List.setIfInBounds_toArray, List.set_cons_zero, List.set_cons_succ]
          refine take_at (i := 13) 28 rfl rfl (by kernel_rfl) (by kernel_rfl) (by kernel_rfl) (fun _ _ _ h => h) (.inr ⟨by rfl, rfl⟩) hHeld ?_
          try simp only [List.setIfInBounds_toArray, List.set_cons_zero, List.set_cons_succ]
          refine take_at (i := 14) 29 rfl rfl (by kernel_rfl) (by kernel_rfl) (by kernel_rfl) (fun _ _ _ h => h) (.inr ⟨by rfl, rfl⟩) hHeld ?_
          try simp only [List.setIfInBounds_toArray, List.set_cons_zero, List.set_cons_succ]
          refine take_at (i := 15) 30 rfl rfl (by kernel_rfl) (by kernel_rfl) (by kernel_rfl) (fun _ _ _ h => h) (sure_yes (by rfl) (fun w => by go_simp; try with_reducible rfl)) hHeld ?_
          try simp only [List.setIfInBounds_toArray, List.set_cons_zero, List.set_cons_succ]
          refine wpAnyH_done (by kernel_rfl) ?_ _
          have HBJ := Lib.hid hHeld.1
          have HKJ := Lib.hid hHeld.2
          clear hHeld
          go_wp2
          go_ret2
          exact ⟨_, by rw [HFE.out.2]; rfl, by rw [HFE.out.1]; exact files_nil _, HBJ.out⟩
    · obtain rfl : i = n := by omega
      have q0 : ¬ (i : Int) < (i : Int) := by omega
      have HTY := Lib.hid (tree_yes (l := l) (ts := ts) (by have h := HYS.out; rwa [List.take_of_length_le (Nat.le_of_eq HN.out.symm)] at h))
      have HFF := Lib.hid (show us.map (·.1) = l.map (fileT ts) by rw [HUS.out, List.take_of_length_le (Nat.le_of_eq HN.out.symm)])
      clear hi
      go_wp2
      go_ret2
      exact ⟨_, by rw [HTY.out.2]; rfl, by rw [HTY.out.1, ← HFF.out]; exact keepsR_files HKR.out HB.out, HB.out⟩
end Go.Proofs.YtppmbdpfledejaaGreatDoor
