/-
Slices of bytes that a conversion of a string has made: their block bears a mark behind its end, so they are no 'row of the call's own' as the library has it; what is appended to them. No program is named here.
-/
import Derived.Test.YtbjekhhefepnlaaDoorText
import Derived.Laws.AppendOwn
import Derived.Laws.IdiomStrings
namespace Go.Proofs.YtbjekhhefepnlaaDoor
open Go.RowKit
/-- A mark that lies on no cell of a block. -/
def Clear (n : Nat) (fr : Nat × Nat) : Prop := fr = (0, 0) ∨ n ≤ fr.1
/-- A slice that owns a block from its beginning on: its first bytes are these. -/
def OwnsB (w : World) (base : Nat) (e : TypeId) (v : Value) (l : List UInt8) : Prop :=
  ∃ g cap cur fr, v = .slice (some ⟨g, 0, none⟩) l.length cap ∧ base ≤ g ∧ w.heap[g]? = some (.cells cur e fr) ∧ Clear cur.size fr ∧ l.length ≤ cap ∧ cap ≤ maxLen ∧ cur.size = cap ∧ cur.toList.take l.length = l.map fun b => Value.int .u8 b.toNat
theorem ownsB_has {w : World} {base : Nat} {e : TypeId} {v : Value} {l : List UInt8} (h : OwnsB w base e v l) : HasText w v l := by
  obtain ⟨g, cap, cur, fr, rfl, -, hg, -, hn, -, hs, ht⟩ := h
  refine ⟨some ⟨g, 0, none⟩, cap, by rw [List.length_map], (fun h => by cases h), fun ad had => ⟨by rw [List.length_map]; exact hn, fun j u hu => ?_⟩⟩
  cases had
  rw [bytesL_map, ← ht] at hu
  rw [Addr.add_lit, Nat.zero_add]
  rw [List.getElem?_take] at hu
  split at hu
  · simp [World.cell?, hg]; simpa using hu
  · cases hu
theorem ownsB_lt {w : World} {base : Nat} {e : TypeId} {v : Value} {l : List UInt8} (h : OwnsB w base e v l) : ∀ k, v.ownBlock = some k → base ≤ k ∧ k < w.heap.size := by
  obtain ⟨g, cap, cur, fr, rfl, hb, hg, -⟩ := h
  intro k hk
  simp [Value.ownBlock] at hk
  subst hk
  exact ⟨hb, (Array.getElem?_eq_some_iff.1 hg).1⟩
theorem ownsB_same {w w' : World} {base : Nat} {e : TypeId} {v : Value} {l : List UInt8} (h : OwnsB w base e v l) (hk : ∀ k, v.ownBlock = some k → w'.heap[k]? = w.heap[k]?) : OwnsB w' base e v l := by
  obtain ⟨g, cap, cur, fr, rfl, hb, hg, rest⟩ := h
  exact ⟨g, cap, cur, fr, rfl, hb, (hk g rfl).trans hg, rest⟩
theorem ownsB_alloc {w : World} {base : Nat} {e : TypeId} {v : Value} {l : List UInt8} (h : OwnsB w base e v l) (o : Obj) : OwnsB (w.alloc o) base e v l :=
  ownsB_same h fun k hk => by rw [heap_at_alloc, if_neg (by have := (ownsB_lt h k hk).2; omega)]
/-- A string made a slice of bytes. -/
theorem conv_owns {P : Program} {src dst e : TypeId} (hs : P.underlying src = some .string) (hd : P.underlying dst = some (.slice e)) (he : P.underlying e = some (.int .u8)) (w : World) (l : List UInt8) (hl : l.length ≤ maxLen) (base : Nat) (hb : base ≤ w.heap.size) :
    ∃ v w', (convert src dst (.string (str l))).run P w = .ok v w' ∧ OwnsB w' base e v l ∧ Below w.heap.size w w' := by
  have hz := str_size l
  have hr := run_bytes_of_string w src dst e (str l) hs hd he
  rw [hz] at hr
  obtain ⟨cap, hcap⟩ : ∃ cap, cap = grownCap w l.length 0 e := ⟨_, rfl⟩
  have h1 := grownCap_ge w l.length 0 e
  have h2 := grownCap_le_maxLen w l.length 0 e hl
  rw [← hcap] at hr h1 h2
  have hsz : (bytesRow (str l) cap).size = cap := by
    unfold bytesRow
    rw [Array.size_append, Array.size_map, Array.size_replicate, hz]
    simp [str]; omega
  refine ⟨_, _, hr, ⟨w.heap.size, cap, _, _, rfl, hb, heap_alloc_new w.drew _, .inr (Nat.le_refl _), h1, h2, hsz, ?_⟩, ?_⟩
  · simp [bytesRow, str]
  · exact below_draws ((Below.refl _ w).alloc (Nat.le_refl _) _) 1
/-- Bytes stored into a block whose mark lies on none of its cells. -/
theorem store_mark (P : Program) (g o : Nat) (t : TypeId) (fr : Nat × Nat) : ∀ (vs : List Value) (i : Nat) (cur : Array Value) (w : World), w.heap[g]? = some (.cells cur t fr) → Clear cur.size fr → o + i + vs.length ≤ cur.size → (∀ v ∈ vs, v.oneCell' = true) →
    (storeCells ⟨g, o, none⟩ vs i).run P w = .ok () (w.setRow g (cur.toList.take (o + i) ++ vs ++ cur.toList.drop (o + i + vs.length)).toArray)
  | [], i, cur, w, hg, _, _, _ => by
    simp only [storeCells, List.append_nil, List.length_nil, Nat.add_zero, List.take_append_drop, Array.toArray_toList]
    rw [setRow_self w g cur t fr hg]
    rfl
  | v :: rest, i, cur, w, hg, hm, hl, h1 => by
    have hi : o + i < cur.size := by simp at hl; omega
    have hfro : w.frozen? ⟨g, o + i, none⟩ = false := by
      rcases hm with rfl | hm
      · simp [World.frozen?, hg]
      · simp [World.frozen?, hg]; intro h; omega
    have hst : (store ((⟨g, o, none⟩ : Addr).add i) v).run P w = .ok () (w.setRow g (cur.setIfInBounds (o + i) v)) := by
      rw [Addr.add_lit, run_store P w _ v _ (h1 v (by simp)), show w.cell? ⟨g, o + i, none⟩ = some cur[o + i] from by simp [World.cell?, hg, hi]]
      simp [hfro, setCell_eq_setRow w g (o + i) cur t fr v hg]
    have ih := store_mark P g o t fr rest (i + 1) (cur.setIfInBounds (o + i) v) (w.setRow g (cur.setIfInBounds (o + i) v)) (setRow_heap w g cur _ t _ hg) (by simpa using hm) (by simp at hl ⊢; omega) (fun x hx => h1 x (by simp [hx]))
    simp only [storeCells, Sem.run_bind, hst, Result.andThen_ok, ih, setRow_setRow]
    congr 3
    simpa [Array.toList_setIfInBounds, Nat.add_assoc] using list_seg_step cur.toList (o + i) v rest (by simp at hl ⊢; omega)
/-- Bytes appended to such a slice. -/
theorem append_owns {P : Program} {w : World} {base : Nat} {t ty e : TypeId} {i : TypeInfo} (ht : P.underlying t = some (.slice e)) (hi : P.info? e = some i) (hz : i.zero = some (.int .u8 0)) (hsize : i.size = 1) (hby : i.bytes = 1)
    {v x : Value} {l m : List UInt8} (hown : OwnsB w base e v l) (hx : HasText w x m) (hlen : l.length + m.length ≤ 140737488355328) (hbase : base ≤ w.heap.size) :
    ∃ v' w', (Builtin.append_ #[t, t] ty #[v, x]).run P w = .ok v' w' ∧ OwnsB w' base e v' (l ++ m) ∧ w.grownBy w' v.ownBlock := by
  obtain ⟨ao, c, rfl, hnil, hc⟩ := hx
  have H := ownsB_has hown
  obtain ⟨g, cap, cur, fr, rfl, hb, hg, hm, hn, hcm, hs, htake⟩ := hown
  rw [List.length_map]
  have hml : (m.map fun b => Value.int .u8 b.toNat).length = m.length * i.size := by rw [List.length_map, hsize, Nat.mul_one]
  cases ao with
  | none =>
    obtain ⟨h1, rfl⟩ := hnil rfl
    obtain rfl : m = [] := by simpa using h1
    refine ⟨.slice (some ⟨g, 0, none⟩) l.length cap, w, ?_, ⟨g, cap, cur, fr, by simp, hb, hg, hm, by simpa using hn, hcm, hs, by simpa using htake⟩, ⟨rfl, rfl, rfl, Nat.le_refl _, fun _ _ _ => rfl⟩⟩
    simp [Builtin.append_, run_underlying ht, sizeOf, typeInfo, hi, Builtin.lenOf, Builtin.firstCells, storeCells, hn]
  | some a =>
    have hnews : ∀ j u, (m.map fun b => Value.int .u8 b.toNat)[j]? = some u → w.cell? (a.add j) = some u := fun j u hu => (hc a rfl).2 j u (by rw [bytesL_map]; exact hu)
    have h1 : ∀ u ∈ (m.map fun b => Value.int .u8 b.toNat), u.oneCell' = true := fun u hu => by
      obtain ⟨b, _, rfl⟩ := List.mem_map.1 hu; rfl
    by_cases hroom : l.length + m.length ≤ cap
    · have hf := run_firstCells_some (P := P) w i.size m.length a m.length c _ hml hnews
      have hst := store_mark P g l.length e fr (m.map fun b => Value.int .u8 b.toNat) 0 cur w hg hm (by rw [List.length_map]; omega) h1
      simp only [Nat.add_zero] at hst
      obtain ⟨N, hN⟩ : ∃ N : Array Value, N = (cur.toList.take l.length ++ (m.map fun b => Value.int .u8 b.toNat) ++ cur.toList.drop (l.length + (m.map fun b => Value.int .u8 b.toNat).length)).toArray := ⟨_, rfl⟩
      rw [← hN] at hst
      have hNs : N.size = cur.size := by rw [hN]; simp; omega
      refine ⟨.slice (some ⟨g, 0, none⟩) (l.length + m.length) cap, w.setRow g N, ?_, ⟨g, cap, N, fr, by rw [List.length_append], hb, setRow_heap w g cur N e _ hg, ?_, by rw [List.length_append]; exact hroom, hcm, ?_, ?_⟩, ⟨rfl, rfl, rfl, by simp, fun k _ hk => setRow_other w g k _ (fun e => hk (by simp [Value.ownBlock, e]))⟩⟩
      · rw [hsize] at hf
        simp [Builtin.append_, run_underlying ht, sizeOf, typeInfo, hi, Builtin.lenOf, hroom, hsize, hf, Addr.add_lit, hst]
      · rw [Clear, hNs]; exact hm
      · rw [hNs]; exact hs
      · rw [hN, htake, List.length_append, List.map_append]
        simp only [List.append_assoc]
        rw [← List.append_assoc, ← List.map_append, ← List.length_append]
        exact List.take_left' (by simp)
    · have hge := grownCap_ge w (l.length + m.length) cap e
      have hle := grownCap_le_maxLen w (l.length + m.length) cap e (by simp only [maxLen]; omega)
      have hr := run_append_grow (P := P) w t ty e i (.int .u8 0) ht hi hz ⟨g, 0, none⟩ l.length cap (l.map fun b => Value.int .u8 b.toNat) (by simp [hsize]) (fun j u hu => by
        obtain ⟨_, _, e1, _, h2⟩ := H
        injection e1 with e2 _ _
        subst e2
        exact (h2 _ rfl).2 j u (by rw [bytesL_map]; exact hu)) a m.length c _ hml hnews (by omega) (by omega) (by rw [hby]; exact growslice_fits (by omega) (by omega))
      obtain ⟨C, hC⟩ : ∃ C, C = grownCap w (l.length + m.length) cap e := ⟨_, rfl⟩
      rw [← hC] at hr hge hle
      refine ⟨_, _, hr, ⟨w.heap.size, C, _, (0, 0), by rw [List.length_append], hbase, heap_alloc_new w.drew _, .inl rfl, by rw [List.length_append]; exact hge, hle, ?_, ?_⟩, ⟨rfl, rfl, rfl, by simp, fun k hk _ => by rw [heap_at_alloc, if_neg (fun h => by rw [h] at hk; exact Nat.lt_irrefl _ hk)]; rfl⟩⟩
      · simp [size_zeroCells, Value.cells]; omega
      · simp only [Array.toList_append, List.append_assoc]
        rw [← List.append_assoc, ← List.map_append]
        exact List.take_left' (by simp)
theorem append_owns_list {P : Program} {w : World} {ops : Array Oper} {rest : List Oper} {o : Oper} {a : Act} {Q : Exit → Act → World → Prop} (hgd : o.guard = none) (s x : Operand) (t : TypeId)
    (ho : o.op = .call { callee := .builtin .append, args := #[s, x], argTypes := #[t, t] })
    (base : Nat) (e : TypeId) (i : TypeInfo) (ht : P.underlying t = some (.slice e)) (hi : P.info? e = some i) (hz : i.zero = some (.int .u8 0)) (hsize : i.size = 1) (hby : i.bytes = 1)
    (v : Value) (l m : List UInt8) (hs : a.eval s = v) (hown : OwnsB w base e v l) (vx : Value) (hx : a.eval x = vx) (hm : HasText w vx m)
    (hlen : l.length + m.length ≤ 140737488355328) (hbase : base ≤ w.heap.size)
    (h : ∀ v' w', OwnsB w' base e v' (l ++ m) → w.grownBy w' v.ownBlock → wpList P ops Q rest (a.put o.dst v') w') : wpList P ops Q (o :: rest) a w :=
  wpList_plain hgd fun K hK => by
    obtain ⟨v', w', hr, h2, h3⟩ := append_owns (P := P) (ty := o.type) ht hi hz hsize hby hown hm hlen hbase
    unfold Oper.wp execOp
    simp only [ho, resolve, invoke, builtin, Sem.run_bind, Sem.run_pure, Result.andThen_ok, List.map_toArray, List.map_cons, List.map_nil, hs, hx, hr]
    exact hK _ _ (h v' w' h2 h3)
theorem conv_owns_list {P : Program} {w : World} {ops : Array Oper} {rest : List Oper} {o : Oper} {a : Act} {Q : Exit → Act → World → Prop} (hgd : o.guard = none) (src dst e : TypeId) (x : Operand) (ho : o.op = .convert src dst x)
    (hs : P.underlying src = some .string) (hd : P.underlying dst = some (.slice e)) (he : P.underlying e = some (.int .u8)) (base : Nat) (l : List UInt8) (hx : a.eval x = .string (str l)) (hl : l.length ≤ maxLen) (hb : base ≤ w.heap.size)
    (h : ∀ v' w', OwnsB w' base e v' l → Below w.heap.size w w' → wpList P ops Q rest (a.put o.dst v') w') : wpList P ops Q (o :: rest) a w :=
  wpList_plain hgd fun K hK => by
    obtain ⟨v', w', hr, h2, h3⟩ := conv_owns (P := P) hs hd he w l hl base hb
    unfold Oper.wp execOp
    simp only [ho, Sem.run_bind, Sem.run_pure, Result.andThen_ok, hx, hr]
    exact hK _ _ (h v' w' h2 h3)
/-- The same, where the operation's guard lets it run. -/
theorem append_owns_on {P : Program} {w : World} {ops : Array Oper} {rest : List Oper} {o : Oper} {a : Act} {Q : Exit → Act → World → Prop} (hw : Region.wanted o (yielded ops a.tmps) = true) (s x : Operand) (t : TypeId)
    (ho : o.op = .call { callee := .builtin .append, args := #[s, x], argTypes := #[t, t] })
    (base : Nat) (e : TypeId) (i : TypeInfo) (ht : P.underlying t = some (.slice e)) (hi : P.info? e = some i) (hz : i.zero = some (.int .u8 0)) (hsize : i.size = 1) (hby : i.bytes = 1)
    (v : Value) (l m : List UInt8) (hs : a.eval s = v) (hown : OwnsB w base e v l) (vx : Value) (hx : a.eval x = vx) (hm : HasText w vx m)
    (hlen : l.length + m.length ≤ 140737488355328) (hbase : base ≤ w.heap.size)
    (h : ∀ v' w', OwnsB w' base e v' (l ++ m) → w.grownBy w' v.ownBlock → wpList P ops Q rest (a.put o.dst v') w') : wpList P ops Q (o :: rest) a w :=
  wpList_step fun K hK => by
    rw [if_pos hw]
    obtain ⟨v', w', hr, h2, h3⟩ := append_owns (P := P) (ty := o.type) ht hi hz hsize hby hown hm hlen hbase
    unfold Oper.wp execOp
    simp only [ho, resolve, invoke, builtin, Sem.run_bind, Sem.run_pure, Result.andThen_ok, List.map_toArray, List.map_cons, List.map_nil, hs, hx, hr]
    exact hK _ _ (h v' w' h2 h3)
theorem ownsB_slice {w : World} {base : Nat} {e : TypeId} {v : Value} {l : List UInt8} (h : OwnsB w base e v l) : ∃ g cap, v = .slice (some ⟨g, 0, none⟩) l.length cap ∧ base ≤ g := by
  obtain ⟨g, cap, _, _, rfl, hb, _⟩ := h
  exact ⟨g, cap, rfl, hb⟩
/-- An empty slice that was just written out. -/
theorem ownsB_nil (w : World) (e : TypeId) (base : Nat) (hb : base ≤ w.heap.size) : OwnsB (w.alloc (.cells #[] e (0, 0))) base e (.slice (some ⟨w.heap.size, 0, none⟩) 0 0) [] :=
  ⟨w.heap.size, 0, #[], (0, 0), rfl, hb, heap_last _ _, .inl rfl, Nat.le_refl 0, by decide, rfl, rfl⟩
/-- A byte of such a slice, and that it may be written. -/
theorem ownsB_cell {w : World} {base : Nat} {e : TypeId} {ao : Option Addr} {n cap : Nat} {l : List UInt8} (h : OwnsB w base e (.slice ao n cap) l) (k : Nat) (hk : k < l.length) (c : UInt8) (hc : l.getD k 0 = c) :
    ∃ g, ao = some ⟨g, 0, none⟩ ∧ w.cell? ⟨g, k, none⟩ = some (.int .u8 (c.toNat : Int)) ∧ w.frozen? ⟨g, k, none⟩ = false ∧ base ≤ g := by
  obtain ⟨g, cap', cur, fr, e1, hb, hg, hm, hn, hcm, hs, ht⟩ := h
  cases e1
  have hcell : cur[k]? = some (.int .u8 (c.toNat : Int)) := by
    have := congrArg (·[k]?) ht
    simp only [List.getElem?_take, if_pos hk, List.getElem?_map] at this
    rw [List.getElem?_eq_getElem hk] at this
    rw [← Array.getElem?_toList, this]
    subst hc
    simp [hk]
  refine ⟨g, rfl, by simp only [World.cell?, hg]; exact hcell, ?_, hb⟩
  rcases hm with rfl | hm
  · simp [World.frozen?, hg]
  · simp [World.frozen?, hg]; intro h; omega
/-- Such a slice with one byte written over. -/
theorem ownsB_set {w : World} {base : Nat} {e : TypeId} {g n cap : Nat} {l : List UInt8} (h : OwnsB w base e (.slice (some ⟨g, 0, none⟩) n cap) l) (k : Nat) (c : UInt8) (v : Value) (hv : v = .int .u8 (c.toNat : Int)) :
    OwnsB (w.setCell ⟨g, k, none⟩ v) base e (.slice (some ⟨g, 0, none⟩) n cap) (l.set k c) ∧ Solo g w (w.setCell ⟨g, k, none⟩ v) := by
  subst hv
  obtain ⟨g', cap', cur, fr, e1, hb, hg, hm, hn, hcm, hs, ht⟩ := h
  cases e1
  rw [setCell_eq_setRow w g k cur e fr _ hg]
  refine ⟨⟨g, cap, _, fr, by rw [List.length_set], hb, setRow_heap w g cur _ e _ hg, by simpa [Clear] using hm, by rw [List.length_set]; exact hn, hcm, by simpa using hs, ?_⟩, solo_setRow w g _⟩
  rw [List.length_set, Array.toList_setIfInBounds, List.take_set, ht, List.map_set]
theorem solo_below {g B : Nat} {w0 w w' : World} (hb : Below B w0 w) (h : Solo g w w') (hg : B ≤ g) : Below B w0 w' :=
  hb.trans ⟨h.os, h.tape, h.output, Nat.le_of_eq h.size.symm, fun j hj => h.block j (by omega)⟩
end Go.Proofs.YtbjekhhefepnlaaDoor
