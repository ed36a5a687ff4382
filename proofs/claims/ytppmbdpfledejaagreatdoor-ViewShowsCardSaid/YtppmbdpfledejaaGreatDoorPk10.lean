/-
Texts that all claims of this seat share, part 10: ShowMem, ViewCode, ShaHash, BitsWalks, BlockWalks, Compress, ShaAbc, ShaFace, Ref03Pad, ShaSmall.
-/
import Derived.Laws.StructEq
import Derived.Laws.AppendOwnNone
import Derived.Laws.Slices
import Derived.Great.Walk
import Derived.Test.YtppmbdpfledejaaGreatDoorIter
import Derived.Test.YtppmbdpfledejaaGreatDoorProg
import Derived.WalkKit
import Derived.WalkSpells
import Derived.WalkLawsBesides
import Derived.Lib.Hide
import Derived.Laws.CopyOwn
import Derived.Deep.QuietTactic
import Derived.BigQuiet
import Derived.StillTailTactics
import Derived.Deep.OwnRows
import Derived.Test.YtppmbdpfledejaaGreatDoorPk9
namespace Go.Proofs.YtppmbdpfledejaaGreatDoor
open Go.RowKit
theorem addr_zeroS (a : Addr) : a.add 0 = a := by unfold Addr.add; split <;> simp_all
theorem shsC_take_drop (us : List Sh) (i : Nat) : shsC us = shsC (us.take i) ++ shsC (us.drop i) := by rw [← shsC_append, List.take_append_drop]
/-- What lies ahead of a place. -/
theorem sliceS_lo {P : Program} {w : World} {t : TypeId} (ht : P.underlying t = some (.slice (P.elem t))) (hz : ∀ w, (sizeOf (P.elem t)).run P w = .ok 36 w) {v : Value} {us : List Sh} (h : HoldsS w v us) (i : Nat) (hi : i ≤ us.length) :
    ∃ v', (Instr.sliceAt t v none (some (.int .i64 (i : Int))) none).run P w = .ok v' w ∧ HoldsS w v' (us.take i) := by
  obtain ⟨ao, cap, rfl, hnil, hc⟩ := id h
  have hcap : us.length ≤ cap := by
    cases ao with
    | none => obtain ⟨h1, h2⟩ := hnil rfl; rw [h1]; simp
    | some ad => exact (hc ad rfl).1
  refine ⟨sliced ao 0 i cap 36, ?_, ?_⟩
  · rw [run_sliceAt_slice _ _ _ _ _ _ ht, run_slice_h _ _ _ _ _ ht _ _ (by omega) (by omega), hz]
    simp [Result.andThen]
  · unfold sliced
    have e1 : (if cap = 0 then ao else ao.map (·.add (0 * 36))) = ao := by
      split
      · rfl
      · cases ao with
        | none => rfl
        | some ad => simp [addr_zeroS]
    rw [e1]
    have hl : (us.take i).length = i := by rw [List.length_take]; omega
    refine ⟨ao, cap, by rw [hl]; rfl, fun h => ?_, fun ad had => ⟨by omega, fun j u hu => (hc ad had).2 j u ?_⟩⟩
    · obtain ⟨h1, h2⟩ := hnil h
      exact ⟨by rw [h1]; simp, h2⟩
    · rw [shsC_take_drop us i, List.getElem?_append_left (List.getElem?_eq_some_iff.1 hu).1]
      exact hu
/-- What lies behind it. -/
theorem sliceS_hi {P : Program} {w : World} {t : TypeId} (ht : P.underlying t = some (.slice (P.elem t))) (hz : ∀ w, (sizeOf (P.elem t)).run P w = .ok 36 w) {v : Value} {us : List Sh} (h : HoldsS w v us) (i : Nat) (hi : i ≤ us.length) :
    ∃ v', (Instr.sliceAt t v (some (.int .i64 (i : Int))) none none).run P w = .ok v' w ∧ HoldsS w v' (us.drop i) := by
  obtain ⟨ao, cap, rfl, hnil, hc⟩ := id h
  refine ⟨sliced ao i us.length cap 36, ?_, ?_⟩
  · rw [run_sliceAt_slice _ _ _ _ _ _ ht, run_slice_l _ _ _ _ _ ht _ _ (by omega) (by omega), hz]
    simp [Result.andThen]
  · unfold sliced
    have hl : (us.drop i).length = us.length - i := by rw [List.length_drop]
    cases ao with
    | none =>
      obtain ⟨h1, h2⟩ := hnil rfl
      subst h1
      subst h2
      simp only [List.length_nil, Nat.zero_sub, Option.map_none, ite_self, List.drop_nil]
      exact holdsS_nil w
    | some ad =>
      have hcap := (hc ad rfl).1
      by_cases hci : cap = i
      · rw [if_pos hci]
        have h0 : us.drop i = [] := List.drop_eq_nil_of_le (by omega)
        rw [h0]
        exact ⟨some ad, cap - i, by rw [show us.length - i = 0 by omega]; rfl, (fun h => by cases h), fun b hb => ⟨by simp, fun j u hu => by simp [shsC] at hu⟩⟩
      · rw [if_neg hci]
        refine ⟨some (ad.add (i * 36)), cap - i, by rw [hl]; rfl, (fun h => by cases h), fun b hb => ⟨by omega, fun j u hu => ?_⟩⟩
        cases hb
        rw [addr_add2]
        refine (hc ad rfl).2 _ _ ?_
        rw [shsC_take_drop us i, List.getElem?_append_right (by rw [shsC_length, List.length_take]; omega)]
        rw [shsC_length, List.length_take, show i * 36 + j - min i us.length * 36 = j by rw [Nat.min_eq_left hi]; omega]
        exact hu
theorem wpList_sliceS_lo {P : Program} {w : World} {ops : Array Oper} {rest : List Oper} {o : Oper} {a : Act} {Q : Exit → Act → World → Prop} (hg : o.guard = none) (s x : Operand) (t : TypeId) (ho : o.op = .slice t s none (some x) none)
    (ht : P.underlying t = some (.slice (P.elem t))) (hz : ∀ w, (sizeOf (P.elem t)).run P w = .ok 36 w) (v : Value) (us : List Sh) (hs : a.eval s = v) (i : Nat) (hx : a.eval x = .int .i64 (i : Int)) (h : HoldsS w v us) (hi : i ≤ us.length)
    (hK : ∀ v', HoldsS w v' (us.take i) → wpList P ops Q rest (a.put o.dst v') w) : wpList P ops Q (o :: rest) a w := by
  refine wpList_plain hg fun K' hK' => ?_
  obtain ⟨v', hrun, h'⟩ := sliceS_lo ht hz h i hi
  unfold Oper.wp
  simp [execOp, ho, hs, hx, hrun, Result.andThen]
  exact hK' _ _ (hK v' h')
theorem wpList_sliceS_hi {P : Program} {w : World} {ops : Array Oper} {rest : List Oper} {o : Oper} {a : Act} {Q : Exit → Act → World → Prop} (hg : o.guard = none) (s x : Operand) (t : TypeId) (ho : o.op = .slice t s (some x) none none)
    (ht : P.underlying t = some (.slice (P.elem t))) (hz : ∀ w, (sizeOf (P.elem t)).run P w = .ok 36 w) (v : Value) (us : List Sh) (hs : a.eval s = v) (i : Nat) (hx : a.eval x = .int .i64 (i : Int)) (h : HoldsS w v us) (hi : i ≤ us.length)
    (hK : ∀ v', HoldsS w v' (us.drop i) → wpList P ops Q rest (a.put o.dst v') w) : wpList P ops Q (o :: rest) a w := by
  refine wpList_plain hg fun K' hK' => ?_
  obtain ⟨v', hrun, h'⟩ := sliceS_hi ht hz h i hi
  unfold Oper.wp
  simp [execOp, ho, hs, hx, hrun, Result.andThen]
  exact hK' _ _ (hK v' h')
/-- Any slice of what is shown appended to one of the call's own. -/
theorem append_ss {P : Program} {w : World} {ops : Array Oper} {rest : List Oper} {o : Oper} {a : Act} {Q : Exit → Act → World → Prop} (hgd : o.guard = none) (s x : Operand) (t : TypeId)
    (ho : o.op = .call { callee := .builtin .append, args := #[s, x], argTypes := #[t, t] })
    (base : Nat) (e : TypeId) (i : TypeInfo) (ht : P.underlying t = some (.slice e)) (hi : P.info? e = some i) (hz : (i.zero.map (·.cells.size), i.size, i.bytes) = (some 36, 36, 72))
    (v : Value) (us ys : List Sh) (hs : a.eval s = v) (hown : w.ownsRow base e 36 v us.length (shsC us)) (xv : Value) (hx : a.eval x = xv) (hxs : HoldsS w xv ys)
    (hlen : us.length + ys.length ≤ 100000) (hbase : base ≤ w.heap.size)
    (h : ∀ v' w', w'.ownsRow base e 36 v' (us ++ ys).length (shsC (us ++ ys)) → w.grownBy w' v.ownBlock → wpList P ops Q rest (a.put o.dst v') w') : wpList P ops Q (o :: rest) a w := by
  obtain ⟨ao, cap, rfl, hnil, hc⟩ := hxs
  cases ao with
  | none =>
    obtain ⟨rfl, rfl⟩ := hnil rfl
    refine wpList_append_own_none hgd s x t ho base e i 36 ht hi v us.length (shsC us) hs hown (by simpa using hx) ?_
    have := h v w (by simpa using hown) ⟨rfl, rfl, rfl, Nat.le_refl _, fun k _ _ => rfl⟩
    exact this
  | some ad => exact append_shs hgd s x t ho base e i ht hi hz v us ys hs hown ad ys.length cap hx rfl (hc ad rfl).2 hlen hbase h
theorem sh_fieldS {w : World} {A : Addr} {s : Sh} (hc : ∀ j u, (shC s)[j]? = some u → w.cell? (A.add j) = some u) (j : Nat) (hj : j ≠ 0) (u : Value) (hu : (shC s)[j]? = some u) : w.cell? ⟨A.block, A.off + j, none⟩ = some u := by
  have h := hc j u hu
  unfold Addr.add at h
  rw [if_neg hj] at h
  exact h
theorem sh_field0 {w : World} {A : Addr} {s : Sh} (hc : ∀ j u, (shC s)[j]? = some u → w.cell? (A.add j) = some u) (u : Value) (hu : (shC s)[0]? = some u) : w.cell? A = some u := by
  have h := hc 0 u hu
  rwa [addr_zeroS] at h
/-- A block that is one that is shown. -/
def ShAt (w : World) (B : Nat) (T : TypeId) (s : Sh) : Prop := w.heap[B]? = some (.cells (shC s) T (0, 0))
theorem shAt_cell {w : World} {N : Nat} {T : TypeId} {s : Sh} (h : ShAt w N T s) (j : Nat) (u : Value) (hu : (shC s)[j]? = some u) : w.cell? ⟨N, j, none⟩ = some u := by
  unfold ShAt at h
  simp only [World.cell?, h]
  exact hu
theorem shAt_addr {w : World} {N : Nat} {T : TypeId} {s : Sh} (h : ShAt w N T s) : ∀ j u, (shC s)[j]? = some u → w.cell? ((⟨N, 0, none⟩ : Addr).add j) = some u := fun j u hu => by
  rw [Addr.add_lit, Nat.zero_add]; exact shAt_cell h j u hu
theorem shAt_one {w : World} {N : Nat} {T : TypeId} {s : Sh} (h : ShAt w N T s) : ∀ j u, (shsC [s])[j]? = some u → w.cell? ((⟨N, 0, none⟩ : Addr).add j) = some u := fun j u hu => by
  rw [shsC, shsC, List.append_nil, Array.getElem?_toList] at hu
  exact shAt_addr h j u hu
theorem shAt_kept {w w' : World} {B : Nat} {T : TypeId} {s : Sh} (h : ShAt w B T s) (hb : Below w.heap.size w w') : ShAt w' B T s :=
  (hb.block B (Array.getElem?_eq_some_iff.1 h).1).trans h
theorem shAt_cells {w : World} {B : Nat} {T : TypeId} {s : Sh} (h : ShAt w B T s) : w.cell? ⟨B, 0, none⟩ = some (.string (str s.path)) ∧ w.cell? ⟨B, 1, none⟩ = some (.int .i64 s.r) ∧ w.cell? ⟨B, 2, none⟩ = some (.int .i64 s.q) ∧ w.cell? ⟨B, 35, none⟩ = some (.int .i64 s.size) :=
  ⟨shAt_cell h _ _ (shC_at s).1, shAt_cell h _ _ (shC_at s).2.1, shAt_cell h _ _ (shC_at s).2.2.1, shAt_cell h _ _ (shC_at s).2.2.2⟩
theorem shC_sum (s : Sh) (j : Nat) (u : Value) (h : (row .u8 32 s.sum).toList[j]? = some u) : (shC s)[3 + j]? = some u := by
  have hj : j < 32 := by have := (List.getElem?_eq_some_iff.1 h).1; simpa [row_size] using this
  rw [Array.getElem?_toList] at h
  unfold shC
  rw [Array.getElem?_append_left (by simp [row_size]; omega), Array.getElem?_append_right (by simp)]
  simpa using h
theorem shAt_sum {w : World} {B : Nat} {T : TypeId} {s : Sh} (h : ShAt w B T s) : w.rangeAt B 3 (row .u8 32 s.sum).toList := fun j u hu => shAt_cell h _ _ (shC_sum s j u hu)
/-- A binary operation whose answer is known. -/
theorem binop_on {P : Program} {ops : Array Oper} {rest : List Oper} {o : Oper} {a : Act} {w : World} {Q : Exit → Act → World → Prop} (hw : Region.wanted o (yielded ops a.tmps) = true) (op : BinOp) (t rt : TypeId) (x y : Operand) (ho : o.op = .binOp op t x y rt) (u v r : Value) (hx : a.eval x = u) (hy : a.eval y = v)
    (hg : ∀ w, (eqGuard op t x y u v).run P w = .ok () w) (hq : ∀ w, (binOp op t u v).run P w = .ok r w) (h : wpList P ops Q rest (a.put o.dst r) w) : wpList P ops Q (o :: rest) a w := by
  refine wpList_step fun K hK => ?_
  rw [if_pos hw]
  unfold Oper.wp
  have e : (execOp a.eval o).run P w = .ok (.value r) w := by simp only [execOp, ho, hx, hy, Sem.run_bind, hg, hq, Result.andThen_ok, Sem.run_pure]
  rw [e]
  exact hK _ _ h
theorem dots_neq {r q r' q' : Int} {b : Bool} (hb : b = !(decide (r = r') && decide (q = q'))) : ∀ w, (binOp .neq 29 (.agg #[.int .i64 r, .int .i64 q]) (.agg #[.int .i64 r', .int .i64 q'])).run Tryz.prog w = .ok (.bool b) w := fun w => by
  subst hb
  go_simp; by_cases h1 : r = r' <;> by_cases h2 : q = q' <;> simp_all
theorem dots_guard (op : BinOp) (x y : Operand) (xs ys : Array Value) : ∀ w, (eqGuard op 29 x y (.agg xs) (.agg ys)).run Tryz.prog w = .ok () w := fun w => run_eqGuard_agg w op 29 x y xs ys (by kernel_rfl)
def zeroSh : Sh := ⟨[], 0, 0, zeroF, 0⟩
section
variable (w : World)
theorem sh_part0 (s : Sh) (w : World) : (part 9 (shC s) 0).run Tryz.prog w = .ok (.string (str s.path)) w := run_part_plain w (by kernel_rfl) (shC_at s).1
theorem sh_part35 (s : Sh) (w : World) : (part 3 (shC s) 35).run Tryz.prog w = .ok (.int .i64 s.size) w := run_part_plain w (by kernel_rfl) (shC_at s).2.2.2
theorem sh_part1 (s : Sh) (w : World) : (part 29 (shC s) 1).run Tryz.prog w = .ok (.agg #[.int .i64 s.r, .int .i64 s.q]) w := by
  have h1 : (shC s).extract 1 3 = #[.int .i64 s.r, .int .i64 s.q] := by kernel_rfl
  simp [part, isAgg, run_underlying Tryz.underlying29, h1]
theorem sh_part3 (s : Sh) (w : World) : (part 31 (shC s) 3).run Tryz.prog w = .ok (.agg (row .u8 32 s.sum)) w := by
  have h1 : (shC s).extract 3 35 = row .u8 32 s.sum := by kernel_rfl
  simp [part, isAgg, run_underlying Tryz.underlying31, h1]
end
set_option maxRecDepth 100000 in
theorem equal_refSh (s : Sh) (w : World) : (Op.equalIn 10000 36 (.agg (shC s)) (.agg (shC s))).run Tryz.prog w = .ok true w := by
  have hS : Tryz.prog.underlying 36 = some (.struct (Tryz.prog.fieldsOf 36)) := by kernel_rfl
  have hp : Tryz.prog.stoodInHeld 36 = false := by kernel_rfl
  rw [show (10000 : Nat) = 9999 + 1 from rfl, run_equalIn_agg w 9999 36 _ _ hS hp]
  simp only [Program.fieldsOf, Tryz.underlying36]
  have hd : ∀ w, (Op.equalIn 9999 29 (.agg #[.int .i64 s.r, .int .i64 s.q]) (.agg #[.int .i64 s.r, .int .i64 s.q])).run Tryz.prog w = .ok true w := fun w => by
    rw [show (9999 : Nat) = 9998 + 1 from rfl, run_equalIn_agg w 9998 29 _ _ (by kernel_rfl) (by kernel_rfl)]
    simp only [Program.fieldsOf, Tryz.underlying29]
    go_simp
  have he : ∀ w, (Op.equalIn 9999 31 (.agg (row .u8 32 s.sum)) (.agg (row .u8 32 s.sum))).run Tryz.prog w = .ok true w := fun w => by
    obtain ⟨inf, hinf⟩ := info_of (P := Tryz.prog) (t := 5) Tryz.underlying5
    rw [show (9999 : Nat) = 9998 + 1 from rfl, run_equalIn_array w 9998 _ _ Tryz.underlying31 hinf, show (9998 : Nat) = 9997 + 1 from rfl, items_row w 9997 32 s.sum s.sum Tryz.underlying5 (by kernel_rfl) (List.range 32) (by simp)]
    simp
  have hs : ∀ w, (Op.equalIn 9999 9 (.string (str s.path)) (.string (str s.path))).run Tryz.prog w = .ok true w := fun w => by
    rw [show (9999 : Nat) = 9998 + 1 from rfl, run_equalIn_string w 9998 9 _ _ Tryz.underlying9]; simp
  have hi : ∀ w, (Op.equalIn 9999 3 (.int .i64 s.size) (.int .i64 s.size)).run Tryz.prog w = .ok true w := fun w => by
    rw [show (9999 : Nat) = 9998 + 1 from rfl, run_equalIn_int w 9998 3 _ _ _ _ Tryz.underlying3]; simp
  simp [Op.eqFields, sh_part0, sh_part1, sh_part3, sh_part35, hd, he, hs, hi]
theorem eql_refSh (s : Sh) : ∀ w, (binOp .eql 36 (.agg (shC s)) (.agg (shC s))).run Tryz.prog w = .ok (.bool true) w := fun w => by rw [run_eql_struct, equal_refSh]; rfl
theorem neq_refSh (s : Sh) : ∀ w, (binOp .neq 36 (.agg (shC s)) (.agg (shC s))).run Tryz.prog w = .ok (.bool false) w := fun w => by rw [run_neq_struct, equal_refSh]; rfl
end Go.Proofs.YtppmbdpfledejaaGreatDoor
namespace Go.Proofs.YtppmbdpfledejaaGreatDoor
open Go.RowKit
/-- A slice of what these events show. -/
def HasView (w : World) (v : Value) (l : List Ev) : Prop := ∃ S, StableK Sh.path (showsE l) S ∧ HoldsS w v S
theorem infoSh : ∃ i, Tryz.prog.info? 33 = some i ∧ (i.zero.map (·.cells.size), i.size, i.bytes) = (some 36, 36, 72) := by
  have h : (Tryz.prog.info? 33).map (fun i => (i.zero.map (·.cells.size), i.size, i.bytes)) = some (some 36, 36, 72) := by kernel_rfl
  cases hi : Tryz.prog.info? 33 with
  | none => rw [hi] at h; cases h
  | some i => rw [hi] at h; exact ⟨i, rfl, Option.some.inj h⟩
set_option maxRecDepth 100000 in
theorem sh_built (s : Sh) : Tryz.prog.built 33 [(0, .string (str s.path)), (1, .agg #[.int .i64 s.r, .int .i64 s.q]), (2, rowV .u8 32 s.sum), (3, .int .i64 s.size)] = some (shC s) := by kernel_rfl
set_option maxRecDepth 100000 in
theorem sh_slice1 (s : Sh) : Tryz.prog.builtSlice 33 1 [(0, .agg (shC s))] = some (shC s) := by kernel_rfl
/-- A slice of one, made. -/
theorem build_shM {ops : Array Oper} {rest : List Oper} {o : Oper} {a : Act} {w : World} {Q : Exit → Act → World → Prop} (hg : o.guard = none) (d : Nat) (hd : o.dst = some d) (x : Operand) (ho : o.op = .buildSlice 24 1 #[(0, x)])
    (N : Nat) (hN : w.heap.size = N) (s : Sh) (hx : a.eval x = .agg (shC s))
    (h : ∀ w', ShAt w' N 33 s → Below w.heap.size w w' → w'.heap.size = N + 1 → wpList Tryz.prog ops Q rest (a.put (some d) (.slice (some ⟨N, 0, none⟩) 1 1)) w') : wpList Tryz.prog ops Q (o :: rest) a w := by
  refine Go.Great.wpList_buildSliceTo hg 24 33 1 #[(0, x)] ho N hN (some d) hd Tryz.underlying24 (shC s) ?_ (h _ ?_ ((Below.refl _ _).alloc (Nat.le_refl _) _) ?_)
  · have hp : ((#[(0, x)] : Array (Nat × Operand)).map fun (i, x) => (i, a.eval x)).toList = [(0, .agg (shC s))] := by simp [hx]
    rw [hp]; exact sh_slice1 s
  · rw [← hN]; exact heap_last _ _
  · rw [size_of_alloc, hN]
theorem texts_enc {w : World} {B : Nat} {T : TypeId} {v : Value} {ps : List (List UInt8)} (h : w.ownsRow B T 1 v ps.length (ps.map Go.Proofs.encStr)) : HasTexts w v ps := texts_of_own (base := B) (e := T) h
theorem shows_snoc {h : List Ev} {i : Nat} {e : Ev} (he : h[i]? = some e) : ((h.take (i + 1)).filter putE).map (shE h) = ((h.take i).filter putE).map (shE h) ++ (if putE e then [shE h e] else []) := by
  rw [List.take_add_one, he, List.filter_append, List.map_append]
  congr 1
  by_cases hp : putE e = true <;> simp [hp]
theorem shows_le (h : List Ev) (i : Nat) : (((h.take i).filter putE).map (shE h)).length ≤ i := by
  rw [List.length_map]
  exact Nat.le_trans (List.length_filter_le _ _) (by rw [List.length_take]; exact Nat.min_le_left _ _)
set_option linter.unusedSimpArgs false in
set_option maxRecDepth 100000 in
set_option maxHeartbeats 16000000 in
theorem view_wide (us : List (Ev × Value)) (hl : us.length ≤ 20000) (hf : FitV us) (v : Value) (w : World) (hv : HoldsU w v us) (hd : DepsU w us) (hT : PowTab w) : Calls Tryz.prog 8 #[v] w fun x w' => ∃ y, x = .returned y ∧ HasView w' y (us.map (·.1)) ∧ Below w.heap.size w w' := by
  obtain ⟨n, hn⟩ : ∃ n, n = us.length := ⟨_, rfl⟩
  have HN := Lib.hid hn
  have HL := Lib.hid (show n ≤ 20000 by omega)
  obtain ⟨ao, cap, hvs⟩ := holdsU_shape hv n hn
  subst hvs
  have HV := Lib.hid hv
  have HD := Lib.hid hd
  have HF := Lib.hid hf
  have HT := Lib.hid hT
  have AV := Lib.hid (alive_any us hl hf _ w hv hd)
  obtain ⟨ie, hie, hiz⟩ := infoSh
  have HIZ := Lib.hid hiz
  clear hl hf hv hd hn hT hiz
  go_enter Tryz.func8, Tryz.ntmps8
  go_upto_region 2 with (first
    | (go_at_call 36; refine AV.out.mono ?_; rintro x w1 ⟨b, rfl, hb0, hta, hb⟩; have HTA := Lib.hid hta; have B1 := Lib.hid hb; clear hb0 hta hb))
  obtain ⟨kk, m, hk, hrm, hto⟩ := HTA.out
  have HRM := Lib.hid hrm
  have HTO := Lib.hid hto
  obtain ⟨D, hown, hnd, hmem, hsz, hlen⟩ := rawM_keys hrm Tryz.underlying9
  have HSZ := Lib.hid (show Maps.size D ≤ 20000 by have := HN.out; have := HL.out; omega)
  have KK := Lib.hid (fun W => (callsIn_wide).1 (Tryz.maps_Keys_38 (some b) W))
  have SS := Lib.hid ((callsIn_wide).1 (Tryz.slices_Sorted_keys_37_38 b _ D rawR _ hown (by have := HSZ.out; unfold maxLen; omega) (by have := HSZ.out; omega)))
  have HOWN := Lib.hid hown
  have HLEN := Lib.hid hlen
  have HND := Lib.hid hnd
  have HMEM := Lib.hid hmem
  clear hk hrm hto hown hnd hmem hsz hlen HTA AV
  go_upto_region 3 with (first
    | (go_at_call 38; refine (KK.out _).mono ?_; rintro x wk ⟨rfl, rfl⟩)
    | (go_at_call 37; refine SS.out.mono ?_; rintro x w3 ⟨sv, ss, rfl, hperm, hrow, -, hb⟩; have HPE := Lib.hid hperm; have HRO := Lib.hid hrow; have C3 := Lib.hid (below_next ((Below.refl w1.heap.size w1).alloc (Nat.le_refl _) _) hb); clear hperm hrow hb))
  obtain ⟨ps, hps⟩ : ∃ ps, ps = ss.mergeSort (fun x y => decide (x ≤ y)) := ⟨_, rfl⟩
  have hpp : ps.Perm ss := by rw [hps]; exact List.mergeSort_perm _ _
  have HRI := Lib.hid (show ps.Pairwise fun a b => Op.bytesLess a b = true by rw [hps]; exact sorted_rises (HPE.out.nodup_iff.2 HND.out))
  have HPM := Lib.hid (show ∀ p, p ∈ ps ↔ (m p).isSome = true from fun p => by
    rw [hpp.mem_iff, HPE.out.mem_iff, HMEM.out p]
    unfold rawT
    rw [Option.isSome_map])
  have hsl : ss.length = ps.length := hpp.length_eq.symm
  have HPN := Lib.hid (show ps.length ≤ 50000 by
    rw [← hsl, HPE.out.length_eq]
    have h4 : (strKeys D).length = Maps.size D := by obtain ⟨es, hD, -⟩ := HOWN.out.keysOf; subst hD; simp [strKeys, Maps.size]
    have := HSZ.out; omega)
  have HTX := Lib.hid (show HasTexts w3 sv ps by have h := HRO.out; rw [hsl, ← hps] at h; exact texts_enc h)
  have B3 := Lib.hid (below_next B1.out C3.out)
  have HLP := Lib.hid (show ∀ e ∈ us.map (·.1), putE e = true → ∃ t, m e.path = some t from fun e he hp => by
    cases hm : m e.path with
    | some t => exact ⟨t, rfl⟩
    | none => exact absurd rfl ((HTO.out e.path).1 hm e he hp))
  clear hps hpp hsl HPE HMEM HND HLEN HOWN HRO KK SS HSZ
  go_wp2
  go_loopw [5, 16] (fun lv c wr => ∃ (i : Nat) (S : List Sh), i ≤ n ∧ c = .int .i64 (i : Int) ∧ wr.ownsRow w3.heap.size 33 36 lv S.length (shsC S) ∧ S = (((us.map (·.1)).take i).filter putE).map (shE (us.map (·.1))) ∧ Below w3.heap.size w3 wr) (fun _ c _ => n - (intOf c).toNat)
  case atStart => exact ⟨0, [], Nat.zero_le _, rfl, World.ownsRow_nil _ _ _ _, rfl, Below.refl _ _⟩
  case round =>
    obtain ⟨i, S, hi, rfl, ho, hS, hb⟩ := hrel
    have HO := Lib.hid ho
    have HS := Lib.hid hS
    have HBL := Lib.hid hb
    have HB := Lib.hid (below_next B3.out hb)
    have HSL := Lib.hid (show S.length ≤ i by rw [hS]; exact shows_le _ _)
    clear ho hS hb
    by_cases hin : i < n
    · have q0 : (i : Int) < (n : Int) := by omega
      have q1 : (i : Int) < 50000 := by have := HL.out; omega
      have hi1 : i + 1 ≤ n := hin
      have hi5 : i < 50000 := by have := HL.out; omega
      obtain ⟨x, hx⟩ : ∃ x, us[i]? = some x := ⟨_, List.getElem?_eq_getElem (by have := HN.out; omega)⟩
      obtain ⟨ad, cap', e1, hcx⟩ := holdsU_at (holdsU_below HV.out HB.out) n i HN.out.symm x hx
      cases e1
      have hux := HD.out x (List.mem_of_getElem? hx)
      have hfx := HF.out x (List.mem_of_getElem? hx)
      have hex := fst_atM hx
      obtain ⟨ye, yv⟩ := x
      dsimp only at hcx hux hfx hex
      obtain ⟨yo, yc, rfl⟩ := dots_shape hux ye.deps.length rfl
      obtain ⟨yn, hyn⟩ : ∃ m, m = ye.deps.length := ⟨_, rfl⟩
      rw [← hyn] at hcx hux
      have HC := Lib.hid hcx
      have HFX := Lib.hid hfx
      have HEX := Lib.hid hex
      have HPL := Lib.hid (show ye.path.length ≤ maxLen by have := hfx.2.2; unfold maxLen; omega)
      clear hx hcx hux hfx hex hyn hi
      go_upto_region 6 with fail
      go_upto_region 7 with (first
        | (refine load_evA_on (by rfl) 92 (.tmp 18) rfl (ad.add (i * 38)) rfl Tryz.underlying92 evSize HC.out ?_)
        | (refine store_new rfl 92 (.tmp 7) (.tmp 19) rfl rfl wr _ (evC ye (.slice yo yn yc)) 92 rfl rfl rfl (by rw [evSize, evC_size]) (by rw [evC_size]; rfl) (evC_one _ _ rfl) ?_; rintro W2 hg hb hlt; have E2 := Lib.hid (show EvAt W2 wr.heap.size 92 ye (.slice yo yn yc) from hg); have C2 := Lib.hid hb; have HB2 := Lib.hid (below_next HB.out hb); clear hg hb hlt))
      have HBL2 := Lib.hid (below_next HBL.out C2.out)
      have HO2 := Lib.hid (own_below HO.out C2.out)
      have HR2 := Lib.hid (rawM_block HRM.out ((below_next C3.out HBL2.out).block b (rawM_lt HRM.out)))
      obtain ⟨-, -, -, c3, c4, -⟩ := evAt_cells E2.out
      obtain ⟨kd, hkd⟩ : ∃ kd, ye.kind = kd := ⟨_, rfl⟩
      rw [hkd] at c3
      by_cases hk1 : kd = 1
      · subst hk1
        have hp : putE ye = true := (putE_iff ye).2 hkd
        obtain ⟨t, ht⟩ := HLP.out ye (List.mem_of_getElem? HEX.out) hp
        have FI := Lib.hid (first_tops HTO.out HPM.out (List.mem_of_getElem? HEX.out) hp ht)
        have FS := Lib.hid (show (((us.map (·.1)).take (i + 1)).filter putE).map (shE (us.map (·.1))) = S ++ [shE (us.map (·.1)) ye] by rw [shows_snoc HEX.out, hp, HS.out]; rfl)
        have L9 := Lib.hid (show (Instr.lookup 84 (.map (some b)) (.string (str ye.path)) false).run Tryz.prog W2 = .ok (.agg #[.int .i64 t.1, .int .i64 t.2]) W2 from by have h := rawM_look HR2.out Tryz.underlying9 Tryz.underlying84 (dot_zero _) ye.path HPL.out; rw [show rawT m ye.path = some (dotV t) from by unfold rawT; rw [ht]; rfl] at h; exact h)
        have IS := Lib.hid (fun w hv => isDir_any ps HPN.out HRI.out ye.path HFX.out.2.2 sv w hv)
        have CP := Lib.hid (fun w hT => copy_any ye.path ye.r ye.q HFX.out.2.2 HFX.out.1 HFX.out.2.1 w hT)
        clear hkd hp
        by_cases hd : ye.r = t.1 ∧ ye.q = t.2
        · obtain ⟨t1, t2⟩ := t
          dsimp only at hd L9 FI
          obtain ⟨d1, d2⟩ := hd
          rw [← d1, ← d2] at L9
          rw [decide_eq_true (show ye.r = t1 ∧ ye.q = t2 from ⟨d1, d2⟩), Bool.true_and] at FI
          clear d1 d2 ht
          obtain ⟨r, hr⟩ : ∃ r, (ps.any fun p => underP p ye.path) = r := ⟨_, rfl⟩
          rw [hr] at IS FI
          clear hr
          cases r with
          | true =>
            go_upto_region 10 with (first
              | (refine load_dot10 (by rfl) 29 (.tmp 25) rfl ⟨wr.heap.size, 0, none⟩ rfl ye.r ye.q Tryz.underlying29 (by kernel_rfl) (evAt_dot E2.out) ?_)
              | (at_lookup; refine wpList_lookup_raw rfl (.tmp 27) (.tmp 28) 84 false rfl b rfl _ _ rfl L9.out ?_)
              | (go_at_call 39; refine (IS.out _ (texts_below HTX.out HBL2.out)).mono ?_; rintro x W3 ⟨rfl, hb⟩; have C3b := Lib.hid hb; clear hb))
            have HB3 := Lib.hid (below_next HB2.out C3b.out)
            have E3 := Lib.hid (evAt_kept E2.out C3b.out)
            go_upto_region 11 with (first
              | (refine load_dot10 (by rfl) 29 (.tmp 37) rfl ⟨wr.heap.size, 0, none⟩ rfl ye.r ye.q Tryz.underlying29 (by kernel_rfl) (evAt_dot E3.out) ?_)
              | (go_at_call 40; refine (CP.out _ (powTab_below HT.out HB3.out)).mono ?_; rintro x W4 ⟨rfl, hb⟩; have C4 := Lib.hid hb; clear hb))
            have HBL5 := Lib.hid (below_next HBL2.out (below_next C3b.out C4.out))
            have E5 := Lib.hid (evAt_kept E2.out (below_next C3b.out C4.out))
            have HO5 := Lib.hid (own_below HO2.out (below_next C3b.out C4.out))
            obtain ⟨-, -, -, -, -, c5⟩ := evAt_cells E5.out
            have SE := Lib.hid (show shE (us.map (·.1)) ye = ⟨copyL ye.path ye.r ye.q, ye.r, ye.q, ye.sum, ye.size⟩ by unfold shE; rw [FI.out]; rfl)
            go_upto_region 12 with (first
              | (refine load_dot10 (by rfl) 29 (.tmp 42) rfl ⟨wr.heap.size, 0, none⟩ rfl ye.r ye.q Tryz.underlying29 (by kernel_rfl) (evAt_dot E5.out) ?_)
              | (refine load_sum_on (by rfl) 31 (.tmp 44) rfl wr.heap.size rfl E5.out Tryz.underlying31 (by kernel_rfl) ?_)
              | (refine build_as rfl 33 #[(0, .tmp 41), (1, .tmp 43), (2, .tmp 45), (3, .tmp 47)] rfl _ _ (sh_built ⟨copyL ye.path ye.r ye.q, ye.r, ye.q, ye.sum, ye.size⟩) (by simp [Act.eval]) ?_)
              | (refine build_shM rfl 49 rfl (.tmp 48) rfl _ rfl ⟨copyL ye.path ye.r ye.q, ye.r, ye.q, ye.sum, ye.size⟩ rfl ?_; rintro W6 hs6 hb6 hn6; have HS6 := Lib.hid hs6; have HB6 := Lib.hid (below_next HBL5.out hb6); have O6 := Lib.hid (own_below HO5.out hb6); clear hs6 hb6 hn6)
              | (at_builtin; refine append_shs rfl (.tmp 40) (.tmp 49) 24 rfl w3.heap.size 33 ie Tryz.underlying24 hie HIZ.out _ S _ rfl O6.out _ 1 1 rfl rfl (shAt_one HS6.out) (by have := HSL.out; simp; omega) HB6.out.size ?_; rintro v9 W9 ho hg; have HB9 := Lib.hid (below_grown HB6.out hg HB6.out.size (fun k hk => (O6.out.lt k hk).1)); have O9 := Lib.hid ho; clear ho hg))
            go_wp2
            go_roundw
            case rel => exact ⟨i + 1, _, hi1, by go_num, O9.out, by rw [FS.out, SE.out], HB9.out⟩
            case measure => simp [intOf] <;> omega
          | false =>
            go_upto_region 11 with (first
              | (refine load_dot10 (by rfl) 29 (.tmp 25) rfl ⟨wr.heap.size, 0, none⟩ rfl ye.r ye.q Tryz.underlying29 (by kernel_rfl) (evAt_dot E2.out) ?_)
              | (at_lookup; refine wpList_lookup_raw rfl (.tmp 27) (.tmp 28) 84 false rfl b rfl _ _ rfl L9.out ?_)
              | (go_at_call 39; refine (IS.out _ (texts_below HTX.out HBL2.out)).mono ?_; rintro x W3 ⟨rfl, hb⟩; have C3b := Lib.hid hb; clear hb))
            have HBL5 := Lib.hid (below_next HBL2.out C3b.out)
            have E5 := Lib.hid (evAt_kept E2.out C3b.out)
            have HO5 := Lib.hid (own_below HO2.out C3b.out)
            obtain ⟨-, -, -, -, -, c5⟩ := evAt_cells E5.out
            have SE := Lib.hid (show shE (us.map (·.1)) ye = ⟨ye.path, ye.r, ye.q, ye.sum, ye.size⟩ by unfold shE; rw [FI.out]; rfl)
            go_upto_region 12 with (first
              | (refine load_dot10 (by rfl) 29 (.tmp 42) rfl ⟨wr.heap.size, 0, none⟩ rfl ye.r ye.q Tryz.underlying29 (by kernel_rfl) (evAt_dot E5.out) ?_)
              | (refine load_sum_on (by rfl) 31 (.tmp 44) rfl wr.heap.size rfl E5.out Tryz.underlying31 (by kernel_rfl) ?_)
              | (refine build_as rfl 33 #[(0, .tmp 41), (1, .tmp 43), (2, .tmp 45), (3, .tmp 47)] rfl _ _ (sh_built ⟨ye.path, ye.r, ye.q, ye.sum, ye.size⟩) (by simp [Act.eval]) ?_)
              | (refine build_shM rfl 49 rfl (.tmp 48) rfl _ rfl ⟨ye.path, ye.r, ye.q, ye.sum, ye.size⟩ rfl ?_; rintro W6 hs6 hb6 hn6; have HS6 := Lib.hid hs6; have HB6 := Lib.hid (below_next HBL5.out hb6); have O6 := Lib.hid (own_below HO5.out hb6); clear hs6 hb6 hn6)
              | (at_builtin; refine append_shs rfl (.tmp 40) (.tmp 49) 24 rfl w3.heap.size 33 ie Tryz.underlying24 hie HIZ.out _ S _ rfl O6.out _ 1 1 rfl rfl (shAt_one HS6.out) (by have := HSL.out; simp; omega) HB6.out.size ?_; rintro v9 W9 ho hg; have HB9 := Lib.hid (below_grown HB6.out hg HB6.out.size (fun k hk => (O6.out.lt k hk).1)); have O9 := Lib.hid ho; clear ho hg))
            go_wp2
            go_roundw
            case rel => exact ⟨i + 1, _, hi1, by go_num, O9.out, by rw [FS.out, SE.out], HB9.out⟩
            case measure => simp [intOf] <;> omega
        · obtain ⟨t1, t2⟩ := t
          dsimp only at hd L9 FI
          rw [decide_eq_false hd, Bool.false_and] at FI
          have NEQ := Lib.hid (dots_neq (r := ye.r) (q := ye.q) (r' := t1) (q' := t2) (b := true) (by by_cases h1 : ye.r = t1 <;> by_cases h2 : ye.q = t2 <;> simp_all))
          clear hd ht
          go_upto_region 10 with (first
            | (refine load_dot10 (by rfl) 29 (.tmp 25) rfl ⟨wr.heap.size, 0, none⟩ rfl ye.r ye.q Tryz.underlying29 (by kernel_rfl) (evAt_dot E2.out) ?_)
            | (at_lookup; refine wpList_lookup_raw rfl (.tmp 27) (.tmp 28) 84 false rfl b rfl _ _ rfl L9.out ?_)
            | (refine binop_on (by rfl) .neq 29 29 (.tmp 26) (.tmp 29) rfl _ _ _ rfl rfl (dots_guard _ _ _ _ _) NEQ.out ?_))
          have HB3 := Lib.hid HB2.out
          go_upto_region 11 with (first
            | (refine load_dot10 (by rfl) 29 (.tmp 37) rfl ⟨wr.heap.size, 0, none⟩ rfl ye.r ye.q Tryz.underlying29 (by kernel_rfl) (evAt_dot E2.out) ?_)
            | (go_at_call 40; refine (CP.out _ (powTab_below HT.out HB3.out)).mono ?_; rintro x W4 ⟨rfl, hb⟩; have C4 := Lib.hid hb; clear hb))
          have HBL5 := Lib.hid (below_next HBL2.out C4.out)
          have E5 := Lib.hid (evAt_kept E2.out C4.out)
          have HO5 := Lib.hid (own_below HO2.out C4.out)
          obtain ⟨-, -, -, -, -, c5⟩ := evAt_cells E5.out
          have SE := Lib.hid (show shE (us.map (·.1)) ye = ⟨copyL ye.path ye.r ye.q, ye.r, ye.q, ye.sum, ye.size⟩ by unfold shE; rw [FI.out]; rfl)
          go_upto_region 12 with (first
            | (refine load_dot10 (by rfl) 29 (.tmp 42) rfl ⟨wr.heap.size, 0, none⟩ rfl ye.r ye.q Tryz.underlying29 (by kernel_rfl) (evAt_dot E5.out) ?_)
            | (refine load_sum_on (by rfl) 31 (.tmp 44) rfl wr.heap.size rfl E5.out Tryz.underlying31 (by kernel_rfl) ?_)
            | (refine build_as rfl 33 #[(0, .tmp 41), (1, .tmp 43), (2, .tmp 45), (3, .tmp 47)] rfl _ _ (sh_built ⟨copyL ye.path ye.r ye.q, ye.r, ye.q, ye.sum, ye.size⟩) (by simp [Act.eval]) ?_)
            | (refine build_shM rfl 49 rfl (.tmp 48) rfl _ rfl ⟨copyL ye.path ye.r ye.q, ye.r, ye.q, ye.sum, ye.size⟩ rfl ?_; rintro W6 hs6 hb6 hn6; have HS6 := Lib.hid hs6; have HB6 := Lib.hid (below_next HBL5.out hb6); have O6 := Lib.hid (own_below HO5.out hb6); clear hs6 hb6 hn6)
            | (at_builtin; refine append_shs rfl (.tmp 40) (.tmp 49) 24 rfl w3.heap.size 33 ie Tryz.underlying24 hie HIZ.out _ S _ rfl O6.out _ 1 1 rfl rfl (shAt_one HS6.out) (by have := HSL.out; simp; omega) HB6.out.size ?_; rintro v9 W9 ho hg; have HB9 := Lib.hid (below_grown HB6.out hg HB6.out.size (fun k hk => (O6.out.lt k hk).1)); have O9 := Lib.hid ho; clear ho hg))
          go_wp2
          go_roundw
          case rel => exact ⟨i + 1, _, hi1, by go_num, O9.out, by rw [FS.out, SE.out], HB9.out⟩
          case measure => simp [intOf] <;> omega
      · have q2 : (kd != 1) = true := by rw [bne, beq_eq_false_iff_ne.2 hk1]; rfl
        have FS := Lib.hid (show S = (((us.map (·.1)).take (i + 1)).filter putE).map (shE (us.map (·.1))) by
          rw [shows_snoc HEX.out, if_neg (fun hp => hk1 (hkd.symm.trans ((putE_iff ye).1 hp))), List.append_nil]; exact HS.out)
        clear hkd hk1
        go_wp2
        go_roundw
        case rel => exact ⟨i + 1, S, hi1, by go_num, HO2.out, FS.out, HBL2.out⟩
        case measure => simp [intOf] <;> omega
    · obtain rfl : i = n := by omega
      have q0 : ¬ (i : Int) < (i : Int) := by omega
      have HSE := Lib.hid (show S = showsE (us.map (·.1)) by rw [HS.out, List.take_of_length_le (by rw [List.length_map]; exact Nat.le_of_eq HN.out.symm)]; rfl)
      have ST := Lib.hid (sortSh_any 42 cmpF_view S w3.heap.size (by have := HSL.out; have := HL.out; omega) u5 wr HO.out)
      clear hi
      go_wp2_with (first
        | (go_at_call 41; refine ST.out.mono ?_; rintro x w9 ⟨rfl, S', h1, h2, h3⟩; have HS1 := Lib.hid h1; have HO9 := Lib.hid h2; have HB9 := Lib.hid (HBL.out.trans h3); clear h1 h2 h3))
      go_ret
      exact ⟨u5, rfl, ⟨S', by rw [← HSE.out]; exact HS1.out, holdsS_own HO9.out⟩, below_next B3.out HB9.out⟩
theorem view_any (us : List (Ev × Value)) (hl : us.length ≤ 20000) (hf : FitU us) (v : Value) (w : World) (hv : HoldsU w v us) (hd : DepsU w us) (hT : PowTab w) : Calls Tryz.prog 8 #[v] w fun x w' => ∃ y, x = .returned y ∧ HasView w' y (us.map (·.1)) ∧ Below w.heap.size w w' := view_wide us hl (fitV_of hf) v w hv hd hT
end Go.Proofs.YtppmbdpfledejaaGreatDoor
namespace Go.Proofs.YtppmbdpfledejaaGreatDoor
open Go.RowKit
/-- The cells of a Hash. -/
def stC (h p : Nat → BitVec 32) (n : Nat) : List Value := rowL .u32 8 h ++ (rowL .u8 64 p ++ [.int .i64 n])
theorem rowL_toArray (k : IntKind) (n : Nat) (f : Nat → BitVec 32) : (rowL k n f).toArray = row k n f := rfl
theorem rowL_get (k : IntKind) (n : Nat) (f : Nat → BitVec 32) (i : Nat) (h : i < n) : (rowL k n f)[i]? = some (.int k (u32 (f i))) := by simp [rowL, h]
theorem stC_length (h p : Nat → BitVec 32) (n : Nat) : (stC h p n).length = 73 := by simp [stC, rowL_length]
theorem stC_word (h p : Nat → BitVec 32) (n i : Nat) (hi : i < 8) : (stC h p n)[i]? = some (.int .u32 (u32 (h i))) := by
  unfold stC; rw [List.getElem?_append_left (by rw [rowL_length]; exact hi), rowL_get _ _ _ _ hi]
theorem stC_byte (h p : Nat → BitVec 32) (n i : Nat) (hi : i < 64) : (stC h p n)[8 + i]? = some (.int .u8 (u32 (p i))) := by
  unfold stC
  rw [List.getElem?_append_right (by rw [rowL_length]; omega), rowL_length, List.getElem?_append_left (by rw [rowL_length]; omega), show 8 + i - 8 = i from by omega, rowL_get _ _ _ _ hi]
theorem stC_len (h p : Nat → BitVec 32) (n : Nat) : (stC h p n)[72]? = some (.int .i64 n) := by
  unfold stC
  rw [List.getElem?_append_right (by rw [rowL_length]; omega), rowL_length, List.getElem?_append_right (by rw [rowL_length]; omega), rowL_length]; rfl
theorem stC_one (h p : Nat → BitVec 32) (n : Nat) : ∀ v ∈ stC h p n, v.oneCell' = true := by
  intro v hv
  simp only [stC, List.mem_append, List.mem_singleton] at hv
  rcases hv with hv | hv | rfl
  · exact rowL_one _ _ _ v hv
  · exact rowL_one _ _ _ v hv
  · rfl
theorem stC_ext (L : List Value) (h p : Nat → BitVec 32) (n : Nat) (hl : L.length = 73) (h0 : ∀ i, i < 8 → L[i]? = some (.int .u32 (u32 (h i)))) (h1 : ∀ i, i < 64 → L[8 + i]? = some (.int .u8 (u32 (p i)))) (h2 : L[72]? = some (.int .i64 n)) : L = stC h p n := by
  apply List.ext_getElem?
  intro i
  by_cases a : i < 8
  · rw [h0 i a, stC_word _ _ _ _ a]
  · by_cases b : i < 72
    · obtain ⟨j, rfl⟩ : ∃ j, i = 8 + j := ⟨i - 8, by omega⟩
      rw [h1 j (by omega), stC_byte _ _ _ _ (by omega)]
    · by_cases c : i = 72
      · subst c; rw [h2, stC_len]
      · rw [List.getElem?_eq_none (by omega), List.getElem?_eq_none (by rw [stC_length]; omega)]
/-- The waiting bytes with some laid over them. -/
def over (p : Nat → BitVec 32) (r : Nat) (cs : List (BitVec 32)) (i : Nat) : BitVec 32 := if r ≤ i ∧ i < r + cs.length then cs.getD (i - r) 0#32 else p i
theorem stC_copy (h p : Nat → BitVec 32) (n r : Nat) (cs : List (BitVec 32)) (hr : r + cs.length ≤ 64) : splice (stC h p n) (8 + r) (bytesL cs) = stC h (over p r cs) n := by
  have hb := bytesL_length cs
  have hl := stC_length h p n
  apply stC_ext
  · rw [length_splice _ _ _ (by omega), hl]
  · intro i hi; rw [splice_get _ _ _ (by omega), if_pos (by omega), stC_word _ _ _ _ hi]
  · intro i hi
    rw [splice_get _ _ _ (by omega)]
    unfold over
    by_cases a : r ≤ i
    · by_cases b : i < r + cs.length
      · rw [if_neg (by omega), if_pos (by omega), if_pos ⟨a, b⟩, show 8 + i - (8 + r) = i - r from by omega, bytesL_get _ _ (by omega)]
      · rw [if_neg (by omega), if_neg (by omega), if_neg (by omega), stC_byte _ _ _ _ hi]
    · rw [if_pos (by omega), if_neg (by omega), stC_byte _ _ _ _ hi]
  · rw [splice_get _ _ _ (by omega), if_neg (by omega), if_neg (by omega), stC_len]
theorem stC_words (h h' p : Nat → BitVec 32) (n : Nat) : splice (stC h p n) 0 (rowL .u32 8 h') = stC h' p n := by
  have hb := rowL_length .u32 8 h'
  have hl := stC_length h p n
  apply stC_ext
  · rw [length_splice _ _ _ (by omega), hl]
  · intro i hi; rw [splice_get _ _ _ (by omega), if_neg (by omega), if_pos (by omega), Nat.sub_zero, rowL_get _ _ _ _ hi]
  · intro i hi; rw [splice_get _ _ _ (by omega), if_neg (by omega), if_neg (by omega), stC_byte _ _ _ _ hi]
  · rw [splice_get _ _ _ (by omega), if_neg (by omega), if_neg (by omega), stC_len]
theorem stC_set (h p : Nat → BitVec 32) (n m : Nat) : (stC h p n).toArray.setIfInBounds 72 (.int .i64 m) = (stC h p m).toArray := by
  rw [List.setIfInBounds_toArray]
  rfl
theorem range_words {w : World} {g : Nat} {t : TypeId} {h p : Nat → BitVec 32} {n : Nat} (e : w.heap[g]? = some (.cells (stC h p n).toArray t (0, 0))) : w.rangeAt g 0 (rowL .u32 8 h) := by
  intro j v hv
  have hj : j < 8 := by have := (List.getElem?_eq_some_iff.1 hv).1; rwa [rowL_length] at this
  rw [Nat.zero_add, cell_of_row w g j _ _ _ e, List.getElem?_toArray, stC_word _ _ _ _ hj, ← hv, rowL_get _ _ _ _ hj]
theorem range_bytes {w : World} {g : Nat} {t : TypeId} {h p : Nat → BitVec 32} {n : Nat} (e : w.heap[g]? = some (.cells (stC h p n).toArray t (0, 0))) : w.rangeAt g 8 (rowL .u8 64 p) := by
  intro j v hv
  have hj : j < 64 := by have := (List.getElem?_eq_some_iff.1 hv).1; rwa [rowL_length] at this
  rw [cell_of_row w g _ _ _ _ e, List.getElem?_toArray, stC_byte _ _ _ _ hj, ← hv, rowL_get _ _ _ _ hj]
theorem cell_len {w : World} {g : Nat} {t : TypeId} {h p : Nat → BitVec 32} {n : Nat} (e : w.heap[g]? = some (.cells (stC h p n).toArray t (0, 0))) : w.cell? ⟨g, 72, none⟩ = some (.int .i64 n) := by
  rw [cell_of_row w g _ _ _ _ e, List.getElem?_toArray, stC_len]
theorem sched_congr (f g : Nat → BitVec 32) (e : ∀ i, i < 64 → f i = g i) (t : Nat) : sched f t = sched g t := by
  induction t using Nat.strongRecOn with
  | _ t ih =>
    by_cases h : t < 16
    · rw [sched_lo _ _ h, sched_lo _ _ h, e _ (by omega), e _ (by omega), e _ (by omega), e _ (by omega)]
    · rw [sched_hi f t (by omega), sched_hi g t (by omega), ih (t - 2) (by omega), ih (t - 7) (by omega), ih (t - 15) (by omega), ih (t - 16) (by omega)]
theorem compressed_congr (h f g : Nat → BitVec 32) (e : ∀ i, i < 64 → f i = g i) : compressed h f = compressed h g := by
  funext i
  rw [← compressed_def, ← compressed_def, show sched f = sched g from funext (sched_congr f g e)]
/-- The words behind whole blocks hang on these blocks' bytes alone. -/
theorem wordsF_congr (asx bs : List (BitVec 32)) (k : Nat) (h : ∀ i, i < 64 * k → asx.getD i 0#32 = bs.getD i 0#32) : wordsF asx k = wordsF bs k := by
  induction k with
  | zero => rw [wordsF_zero, wordsF_zero]
  | succ k ih => rw [wordsF_succ, wordsF_succ, ih fun i hi => h i (by omega)]; exact compressed_congr _ _ _ fun i hi => h _ (by omega)
theorem getD_left (asx xs : List (BitVec 32)) (i : Nat) (h : i < asx.length) : (asx ++ xs).getD i 0#32 = asx.getD i 0#32 := by
  simp [List.getElem?_append_left h]
theorem getD_right (asx xs : List (BitVec 32)) (i : Nat) (h : asx.length ≤ i) : (asx ++ xs).getD i 0#32 = xs.getD (i - asx.length) 0#32 := by
  simp [List.getElem?_append_right h]
/-- Bytes more leave the words behind the whole blocks. -/
theorem words_more (asx xs : List (BitVec 32)) : wordsF (asx ++ xs) (asx.length / 64) = wordsF asx (asx.length / 64) :=
  wordsF_congr _ _ _ fun i hi => getD_left _ _ _ (by omega)
/-- Bytes more, laid behind those that wait, are the block's. -/
theorem over_more (asx xs : List (BitVec 32)) (p : Nat → BitVec 32) (hp : ∀ i, i < asx.length % 64 → p i = blockF asx (asx.length / 64) i) (i : Nat) (hi : i < asx.length % 64 + xs.length) :
    over p (asx.length % 64) xs i = blockF (asx ++ xs) (asx.length / 64) i := by
  unfold over blockF
  by_cases h : asx.length % 64 ≤ i
  · rw [if_pos ⟨h, hi⟩, getD_right _ _ _ (by omega)]; congr 1; omega
  · rw [if_neg (by omega), getD_left _ _ _ (by omega), hp _ (by omega)]; rfl
/-- What a Hash holds, where these bytes were written. -/
def Holds (T : TypeId) (w : World) (g : Nat) (bs : List (BitVec 32)) : Prop :=
  ∃ p, w.heap[g]? = some (.cells (stC (wordsF bs (bs.length / 64)) p bs.length).toArray T (0, 0)) ∧ ∀ i, i < bs.length % 64 → p i = blockF bs (bs.length / 64) i
/-- The block is full: its words. -/
theorem holds_full {T : TypeId} {w : World} {g : Nat} {asx xs : List (BitVec 32)} {p q : Nat → BitVec 32} (hp : ∀ i, i < asx.length % 64 → p i = blockF asx (asx.length / 64) i) (hl : asx.length % 64 + xs.length = 64)
    (h : w.heap[g]? = some (.cells (stC (compressed (wordsF asx (asx.length / 64)) (over p (asx.length % 64) xs)) q (asx ++ xs).length).toArray T (0, 0))) : Holds T w g (asx ++ xs) := by
  have e : (asx ++ xs).length / 64 = asx.length / 64 + 1 := by rw [List.length_append]; omega
  have e0 : (asx ++ xs).length % 64 = 0 := by rw [List.length_append]; omega
  refine ⟨q, ?_, fun i hi => by omega⟩
  rw [h, e, wordsF_succ, words_more, compressed_congr _ _ _ fun i hi => over_more asx xs p hp i (by omega)]
/-- The block is not full yet. -/
theorem holds_part {T : TypeId} {w : World} {g : Nat} {asx xs : List (BitVec 32)} {p : Nat → BitVec 32} (hp : ∀ i, i < asx.length % 64 → p i = blockF asx (asx.length / 64) i) (hl : asx.length % 64 + xs.length < 64)
    (h : w.heap[g]? = some (.cells (stC (wordsF asx (asx.length / 64)) (over p (asx.length % 64) xs) (asx ++ xs).length).toArray T (0, 0))) : Holds T w g (asx ++ xs) := by
  have e : (asx ++ xs).length / 64 = asx.length / 64 := by rw [List.length_append]; omega
  have e0 : (asx ++ xs).length % 64 = asx.length % 64 + xs.length := by rw [List.length_append]; omega
  refine ⟨over p (asx.length % 64) xs, ?_, fun i hi => ?_⟩
  · rw [h, e, words_more]
  · rw [e, over_more asx xs p hp i (by omega)]
end Go.Proofs.YtppmbdpfledejaaGreatDoor
namespace Go.Proofs.YtppmbdpfledejaaGreatDoor
open Go.RowKit
set_option maxRecDepth 100000 in
set_option maxHeartbeats 400000 in
theorem rot_any (x : BitVec 32) (n : Int) (w : World) :
    Calls Tryz.prog 165 #[.int .u32 (u32 x), .int .i64 n] w fun e w' => e = .returned (.int .u32 (u32 (rot x n))) ∧ w = w' := by
  go_enter Tryz.func165, Tryz.ntmps165
  go_wp2
  go_ret
  exact ⟨rfl, rfl⟩
set_option maxRecDepth 100000 in
set_option maxHeartbeats 400000 in
theorem ch_any (x y z : BitVec 32) (w : World) :
    Calls Tryz.prog 153 #[.int .u32 (u32 x), .int .u32 (u32 y), .int .u32 (u32 z)] w fun e w' => e = .returned (.int .u32 (u32 (ch x y z))) ∧ w = w' := by
  go_enter Tryz.func153, Tryz.ntmps153
  go_wp2
  go_ret
  exact ⟨rfl, rfl⟩
set_option maxRecDepth 100000 in
set_option maxHeartbeats 400000 in
theorem maj_any (x y z : BitVec 32) (w : World) :
    Calls Tryz.prog 155 #[.int .u32 (u32 x), .int .u32 (u32 y), .int .u32 (u32 z)] w fun e w' => e = .returned (.int .u32 (u32 (maj x y z))) ∧ w = w' := by
  go_enter Tryz.func155, Tryz.ntmps155
  go_wp2
  go_ret
  exact ⟨rfl, rfl⟩
set_option maxRecDepth 100000 in
set_option maxHeartbeats 400000 in
theorem big0_any (x : BitVec 32) (w : World) :
    Calls Tryz.prog 154 #[.int .u32 (u32 x)] w fun e w' => e = .returned (.int .u32 (u32 (big0 x))) ∧ w = w' := by
  go_enter Tryz.func154, Tryz.ntmps154
  go_wp2_with (go_at_call 165; refine (rot_any _ _ _).mono ?_; rintro e w' ⟨rfl, rfl⟩)
  go_ret
  exact ⟨rfl, rfl⟩
set_option maxRecDepth 100000 in
set_option maxHeartbeats 400000 in
theorem big1_any (x : BitVec 32) (w : World) :
    Calls Tryz.prog 152 #[.int .u32 (u32 x)] w fun e w' => e = .returned (.int .u32 (u32 (big1 x))) ∧ w = w' := by
  go_enter Tryz.func152, Tryz.ntmps152
  go_wp2_with (go_at_call 165; refine (rot_any _ _ _).mono ?_; rintro e w' ⟨rfl, rfl⟩)
  go_ret
  exact ⟨rfl, rfl⟩
set_option maxRecDepth 100000 in
set_option maxHeartbeats 400000 in
theorem small0_any (x : BitVec 32) (w : World) :
    Calls Tryz.prog 151 #[.int .u32 (u32 x)] w fun e w' => e = .returned (.int .u32 (u32 (small0 x))) ∧ w = w' := by
  go_enter Tryz.func151, Tryz.ntmps151
  go_wp2_with (go_at_call 165; refine (rot_any _ _ _).mono ?_; rintro e w' ⟨rfl, rfl⟩)
  go_ret
  exact ⟨rfl, rfl⟩
set_option maxRecDepth 100000 in
set_option maxHeartbeats 400000 in
theorem small1_any (x : BitVec 32) (w : World) :
    Calls Tryz.prog 150 #[.int .u32 (u32 x)] w fun e w' => e = .returned (.int .u32 (u32 (small1 x))) ∧ w = w' := by
  go_enter Tryz.func150, Tryz.ntmps150
  go_wp2_with (go_at_call 165; refine (rot_any _ _ _).mono ?_; rintro e w' ⟨rfl, rfl⟩)
  go_ret
  exact ⟨rfl, rfl⟩
set_option maxRecDepth 100000 in
set_option maxHeartbeats 400000 in
/-- K of a round: what its table's cell holds. -/
theorem k_in (i : Int) (c : Int) (w : World) (h0 : 0 ≤ i) (h1 : i < 64) (hc : w.cell? ⟨0, i.toNat, none⟩ = some (.int .u32 c)) :
    Calls Tryz.prog 134 #[.int .i64 i] w fun e w' => e = .returned (.int .u32 c) ∧ w = w' := by
  go_enter Tryz.func134, Tryz.ntmps134
  go_wp2
  go_ret
  exact ⟨rfl, rfl⟩
def firstV : Value := .agg #[.int .u32 1779033703, .int .u32 3144134277, .int .u32 1013904242, .int .u32 2773480762, .int .u32 1359893119, .int .u32 2600822924, .int .u32 528734635, .int .u32 1541459225]
def firstO : Obj := .cells #[.int .u32 1779033703, .int .u32 3144134277, .int .u32 1013904242, .int .u32 2773480762, .int .u32 1359893119, .int .u32 2600822924, .int .u32 528734635, .int .u32 1541459225] 120
set_option maxRecDepth 100000 in
set_option maxHeartbeats 400000 in
theorem first_any (w : World) :
    Calls Tryz.prog 106 #[] w fun e w' => e = .returned firstV ∧ w.alloc firstO = w' := by
  go_enter Tryz.func106, Tryz.ntmps106
  go_wp2
  exact bodyPost_ret (v := firstV) (by simp [results, Tryz.results106, go_sem, firstV]) rfl ⟨rfl, rfl⟩
end Go.Proofs.YtppmbdpfledejaaGreatDoor
namespace Go.Proofs.YtppmbdpfledejaaGreatDoor
open Go.RowKit
set_option maxRecDepth 100000 in
set_option maxHeartbeats 1000000 in
theorem round_any (h : Nat → BitVec 32) (k x : BitVec 32) (w : World) :
    Calls Tryz.prog 133 #[.agg (row .u32 8 h), .int .u32 (u32 k), .int .u32 (u32 x)] w fun e w' => e = .returned (.agg (row .u32 8 (roundF h k x))) ∧ Below w.heap.size w w' := by
  rw [row8]
  go_enter Tryz.func133, Tryz.ntmps133
  go_wp2
  have H0 := alloc2_0 w (.cells (row .u32 8 h) 120) (.cells (row .u32 8 fun _ => 0#32) 120)
  have Z0 := alloc2_1 w (.cells (row .u32 8 h) 120) (.cells (row .u32 8 fun _ => 0#32) 120)
  have B0 : Below w.heap.size w ((w.alloc (.cells (row .u32 8 h) 120)).alloc (.cells (row .u32 8 fun _ => 0#32) 120)) := ((Below.refl _ _).alloc (Nat.le_refl _) _).alloc (by simp) _
  simp only [row8, show u32 0#32 = 0 from rfl] at H0 Z0 B0
  generalize World.alloc (World.alloc w _) _ = w1 at *
  obtain ⟨c0, c1, c2, c3, c4, c5, c6, c7⟩ := cells8_of (h := h) H0
  go_quiet (first | (go_at_call 152; refine quiet_same (big1_any _ _)) | (go_at_call 153; refine quiet_same (ch_any _ _ _ _)))
  have H1 : (w1.drewN nq).heap[w.heap.size]? = _ := H0
  have Z1 : (w1.drewN nq).heap[w.heap.size + 1]? = _ := Z0
  have B1 := below_draws B0 nq
  clear H0 Z0 B0 c0 c1 c2 c3 c4 c5 c6 c7
  generalize w1.drewN nq = w2 at *
  obtain ⟨c0, c1, c2, c3, c4, c5, c6, c7⟩ := cells8_of (h := h) H1
  go_wp2
  go_quiet (first | (go_at_call 154; refine quiet_same (big0_any _ _)) | (go_at_call 155; refine quiet_same (maj_any _ _ _ _)))
  have H2 : (w2.drewN nq).heap[w.heap.size]? = _ := H1
  have Z2 : (w2.drewN nq).heap[w.heap.size + 1]? = _ := Z1
  have B2 := below_draws B1 nq
  clear H1 Z1 B1 c0 c1 c2 c3 c4 c5 c6 c7
  generalize w2.drewN nq = w3 at *
  obtain ⟨c0, c1, c2, c3, c4, c5, c6, c7⟩ := cells8_of (h := h) H2
  go_wp2_with (first | (refine wpList_store_row rfl 120 (.tmp 6) (.tmp 57) rfl (w.heap.size + 1) _ rfl rfl 120 _ Z2 (by kernel_rfl) rfl (by simp [Value.oneCell']) ?_))
  exact bodyPost_ret (results_cell_row Tryz.results133 _ _ (w.heap.size + 1) 120 _ (0, 0) _ rfl (setRow_heap _ _ _ _ _ _ Z2) Tryz.underlying120 rfl (by kernel_rfl)) rfl ⟨rfl, below_setRow B2 (by omega) _⟩
set_option maxRecDepth 100000 in
set_option maxHeartbeats 4000000 in
theorem schedule_any (f : Nat → BitVec 32) (w : World) :
    Calls Tryz.prog 132 #[.agg (row .u8 64 f)] w fun e w' => e = .returned (.agg (row .u32 64 (sched f))) ∧ Below w.heap.size w w' := by
  go_enter Tryz.func132, Tryz.ntmps132
  go_wp2
  go_loopw [4, 6] (fun _ c wr => ∃ k : Nat, k ≤ 16 ∧ c = .int .i64 k ∧ wr.heap[w.heap.size]? = some (.cells (row .u8 64 f) 121 (0, 0)) ∧ wr.heap[w.heap.size + 1]? = some (.cells (row .u32 64 fun _ => 0#32) 147 (0, 0)) ∧
      wr.heap[w.heap.size + 2]? = some (.cells (row .u32 64 (upTo (sched f) k)) 147 (0, 0)) ∧ w.heap.size + 3 ≤ wr.heap.size ∧ Below w.heap.size w wr) (fun _ c _ => 16 - (intOf c).toNat)
  case atStart =>
    refine ⟨0, by omega, rfl, alloc3_0 _ _ _ _, alloc3_1 _ _ _ _, ?_, by simp, (((Below.refl _ _).alloc (Nat.le_refl _) _).alloc (by simp) _).alloc (by simp; omega) _⟩
    rw [upTo_zero]; exact alloc3_2 _ _ _ _
  case round =>
    obtain ⟨k, hk, rfl, hb8, hz, ho, hs, hb⟩ := hrel
    by_cases hlt : k < 16
    · obtain ⟨p0, hp0⟩ : ∃ p : Nat, p = 4 * k := ⟨_, rfl⟩
      obtain ⟨p1, hp1⟩ : ∃ p : Nat, p = 4 * k + 1 := ⟨_, rfl⟩
      obtain ⟨p2, hp2⟩ : ∃ p : Nat, p = 4 * k + 2 := ⟨_, rfl⟩
      obtain ⟨p3, hp3⟩ : ∃ p : Nat, p = 4 * k + 3 := ⟨_, rfl⟩
      have e0 := wrap_at (4 * (k : Int)) p0 (by omega) (by omega)
      have e1 := wrap_at ((p0 : Int) + 1) p1 (by omega) (by omega)
      have e2 := wrap_at ((p0 : Int) + 2) p2 (by omega) (by omega)
      have e3 := wrap_at ((p0 : Int) + 3) p3 (by omega) (by omega)
      have q0 : (p0 : Int) < 64 := by omega
      have q1 : (p1 : Int) < 64 := by omega
      have q2 : (p2 : Int) < 64 := by omega
      have q3 : (p3 : Int) < 64 := by omega
      have q4 : (k : Int) < 64 := by omega
      have b0 := (cell_of_row wr _ p0 _ _ _ hb8).trans (row_get .u8 64 f p0 (by omega))
      have b1 := (cell_of_row wr _ p1 _ _ _ hb8).trans (row_get .u8 64 f p1 (by omega))
      have b2 := (cell_of_row wr _ p2 _ _ _ hb8).trans (row_get .u8 64 f p2 (by omega))
      have b3 := (cell_of_row wr _ p3 _ _ _ hb8).trans (row_get .u8 64 f p3 (by omega))
      have c0 := (cell_of_row wr _ k _ _ _ ho).trans (row_get .u32 64 _ k (by omega))
      have f0 := frozen_of_row wr _ k _ _ ho
      have HS := Lib.hid (sched_lo f k hlt)
      have H8 := Lib.hid hb8
      have HZ := Lib.hid hz
      have HO := Lib.hid ho
      have HP := Lib.hid (And.intro hp0 (And.intro hp1 (And.intro hp2 hp3)))
      clear hb8 hz ho hp0 hp1 hp2 hp3
      go_wp2
      go_still_tail 31, (by kernel_rfl)
      change wpList _ _ _ _ _ wr.drew
      have hb8 : wr.drew.heap[w.heap.size]? = _ := H8.out
      have hz : wr.drew.heap[w.heap.size + 1]? = _ := HZ.out
      have ho : wr.drew.heap[w.heap.size + 2]? = _ := HO.out
      have hs : w.heap.size + 3 ≤ wr.drew.heap.size := hs
      have hb := below_draws hb 1
      change Below _ _ wr.drew at hb
      clear H8 HZ HO b0 b1 b2 b3 c0 f0
      generalize wr.drew = w2 at *
      have c0 := (cell_of_row w2 _ k _ _ _ ho).trans (row_get .u32 64 _ k (by omega))
      have f0 := frozen_of_row w2 _ k _ _ ho
      have H8 := Lib.hid hb8
      have HZ := Lib.hid hz
      have HO := Lib.hid ho
      clear hb8 hz ho
      have e : f p0 <<< 24 ||| f p1 <<< 16 ||| f p2 <<< 8 ||| f p3 = sched f k := by
        obtain ⟨h0, h1, h2, h3⟩ := HP.out
        rw [HS.out, word_def, h0, h1, h2, h3]
      have HE := Lib.hid e
      clear e
      go_wp2
      go_roundw
      case rel =>
        rw [HE.out]
        refine ⟨k + 1, by omega, by go_num, ?_, ?_, ?_, by simpa using hs, hb.setCell (show w.heap.size ≤ w.heap.size + 2 by omega) _⟩
        · rw [heap_setCell_other _ _ _ _ (by simp; omega)]; exact H8.out
        · rw [heap_setCell_other _ _ _ _ (by simp)]; exact HZ.out
        · rw [← upTo_set]; exact heap_setCell_same _ _ _ _ _ _ HO.out
      case measure => simp [intOf]; omega
    · obtain rfl : k = 16 := by omega
      clear hb8
      go_wp2
      go_loopw [5] (fun c wr => ∃ k : Nat, 16 ≤ k ∧ k ≤ 64 ∧ c = .int .i64 k ∧ wr.heap[w.heap.size + 1]? = some (.cells (row .u32 64 fun _ => 0#32) 147 (0, 0)) ∧
          wr.heap[w.heap.size + 2]? = some (.cells (row .u32 64 (upTo (sched f) k)) 147 (0, 0)) ∧ w.heap.size + 3 ≤ wr.heap.size ∧ Below w.heap.size w wr) (fun c _ => 64 - (intOf c).toNat)
      case atStart => exact ⟨16, by omega, by omega, rfl, hz, ho, hs, hb⟩
      case round =>
        clear hz ho hs hb
        obtain ⟨k, hk16, hk, rfl, hz, ho, hs, hb⟩ := hrel
        by_cases hlt : k < 64
        · obtain ⟨p0, hp0⟩ : ∃ p : Nat, p = k - 2 := ⟨_, rfl⟩
          obtain ⟨p1, hp1⟩ : ∃ p : Nat, p = k - 7 := ⟨_, rfl⟩
          obtain ⟨p2, hp2⟩ : ∃ p : Nat, p = k - 15 := ⟨_, rfl⟩
          obtain ⟨p3, hp3⟩ : ∃ p : Nat, p = k - 16 := ⟨_, rfl⟩
          have e0 := wrap_at ((k : Int) - 2) p0 (by omega) (by omega)
          have e1 := wrap_at ((k : Int) - 7) p1 (by omega) (by omega)
          have e2 := wrap_at ((k : Int) - 15) p2 (by omega) (by omega)
          have e3 := wrap_at ((k : Int) - 16) p3 (by omega) (by omega)
          have q0 : (p0 : Int) < 64 := by omega
          have q1 : (p1 : Int) < 64 := by omega
          have q2 : (p2 : Int) < 64 := by omega
          have q3 : (p3 : Int) < 64 := by omega
          have q4 : (k : Int) < 64 := by omega
          have b0 := cell_upTo ho p0 (by omega) (by omega)
          have b1 := cell_upTo ho p1 (by omega) (by omega)
          have b2 := cell_upTo ho p2 (by omega) (by omega)
          have b3 := cell_upTo ho p3 (by omega) (by omega)
          have HS := Lib.hid (sched_hi f k hk16)
          have HP := Lib.hid (And.intro hp0 (And.intro hp1 (And.intro hp2 hp3)))
          have HZ := Lib.hid hz
          have HO := Lib.hid ho
          clear hz ho hp0 hp1 hp2 hp3
          go_wp2
          go_still_tail 23, (by kernel_rfl)
          still_call (still_same (small1_any _ _))
          repeat still_step
          still_call (still_same (small0_any _ _))
          repeat still_step
          refine wpStill_nil ?_
          change wpList _ _ _ _ _ wr.drew
          have hz : wr.drew.heap[w.heap.size + 1]? = _ := HZ.out
          have ho : wr.drew.heap[w.heap.size + 2]? = _ := HO.out
          have hs : w.heap.size + 3 ≤ wr.drew.heap.size := hs
          have hb := below_draws hb 1
          change Below _ _ wr.drew at hb
          clear HZ HO b0 b1 b2 b3
          generalize wr.drew = w2 at *
          have c0 := (cell_of_row w2 _ k _ _ _ ho).trans (row_get .u32 64 _ k (by omega))
          have f0 := frozen_of_row w2 _ k _ _ ho
          have HZ := Lib.hid hz
          have HO := Lib.hid ho
          clear hz ho
          have e : small1 (sched f p0) + sched f p1 + small0 (sched f p2) + sched f p3 = sched f k := by
            obtain ⟨h0, h1, h2, h3⟩ := HP.out
            rw [HS.out, h0, h1, h2, h3]
          have HE := Lib.hid e
          clear e
          go_wp2
          go_roundw
          case rel =>
            (repeat apply Exists.intro)
            refine ⟨?_, rfl⟩
            rw [HE.out]
            refine ⟨k + 1, by omega, by omega, by go_num, ?_, ?_, by simpa using hs, hb.setCell (show w.heap.size ≤ w.heap.size + 2 by omega) _⟩
            · rw [heap_setCell_other _ _ _ _ (by simp)]; exact HZ.out
            · rw [← upTo_set]; exact heap_setCell_same _ _ _ _ _ _ HO.out
          case measure => simp [intOf]; omega
        · obtain rfl : k = 64 := by omega
          rw [upTo_full] at ho
          go_wp2_with (first | (refine wpList_load_row rfl 147 _ rfl (w.heap.size + 2) rfl 147 _ (0, 0) _ ho Tryz.underlying147 rfl (by kernel_rfl) ?_) | (refine wpList_store_row rfl 147 (.tmp 2) (.tmp 68) rfl (w.heap.size + 1) _ rfl rfl 147 _ hz (by kernel_rfl) rfl (by simp [Value.oneCell', row]) ?_))
          exact bodyPost_ret (results_cell_row Tryz.results132 _ _ (w.heap.size + 1) 147 _ (0, 0) _ rfl (setRow_heap _ _ _ _ _ _ hz) Tryz.underlying147 rfl (by kernel_rfl)) rfl ⟨rfl, below_setRow hb (by omega) _⟩
end Go.Proofs.YtppmbdpfledejaaGreatDoor
namespace Go.Proofs.YtppmbdpfledejaaGreatDoor
open Go.RowKit
/-- The constants' table holds its constants. -/
def Tab (w : World) : Prop := ∀ i : Nat, i < 64 → w.cell? ⟨0, i, none⟩ = some (.int .u32 (u32 (kB i)))
theorem tab_lt {w : World} (h : Tab w) : 0 < w.heap.size := World.block_lt_of_cell? w ⟨0, 0, none⟩ (h 0 (by omega))
theorem tab_keep {w w' : World} {B : Nat} (h : Tab w) (hb : Below B w w') (hB : w.heap.size ≤ B) : Tab w' := fun i hi => by
  rw [cell_same (hb.block 0 (Nat.lt_of_lt_of_le (tab_lt h) hB))]; exact h i hi
theorem k_still (k : Nat) (hk : k < 64) (w : World) (h : Tab w) : Calls Tryz.prog 134 #[.int .i64 k] w fun e w' => e = .returned (.int .u32 (u32 (kB k))) ∧ w' = w :=
  still_same (k_in (k : Int) _ _ (by omega) (by omega) (by rw [Int.toNat_natCast]; exact h k hk))
theorem schedule_R (f : Nat → BitVec 32) (w : World) : Calls Tryz.prog 132 #[.agg (row .u8 64 f)] w fun e w' => e = .returned (rowV .u32 64 (sched f)) ∧ Below w.heap.size w w' := schedule_any f w
theorem cellsU32' : Tryz.prog.cellsOf 119 = 1 := by kernel_rfl
theorem index_words (f : Nat → BitVec 32) (i : Nat) (hi : i < 64) : ∀ w, (Instr.index 147 (rowV .u32 64 f) (.int .i64 i)).run Tryz.prog w = .ok (.int .u32 (u32 (f i))) w := fun w =>
  index_row w f i hi Tryz.underlying147 Tryz.underlying119 cellsU32'
theorem round_L' (h : Nat → BitVec 32) (k x : BitVec 32) (w : World) : Calls Tryz.prog 133 #[.agg #[.int .u32 (u32 (h 0)), .int .u32 (u32 (h 1)), .int .u32 (u32 (h 2)), .int .u32 (u32 (h 3)), .int .u32 (u32 (h 4)), .int .u32 (u32 (h 5)), .int .u32 (u32 (h 6)), .int .u32 (u32 (h 7))], .int .u32 (u32 k), .int .u32 (u32 x)] w fun e w' => e = .returned (.agg (row .u32 8 (roundF h k x))) ∧ Below w.heap.size w w' := round_any h k x w
set_option maxRecDepth 100000 in
set_option maxHeartbeats 4000000 in
theorem compress_any (h f : Nat → BitVec 32) (w : World) (tab : Tab w) :
    Calls Tryz.prog 107 #[.agg (row .u32 8 h), .agg (row .u8 64 f)] w fun e w' => e = .returned (.agg (row .u32 8 (compressed h f))) ∧ Below w.heap.size w w' := by
  have H0 := alloc3_0 w (.cells (row .u32 8 h) 120 (0, 0)) (.cells (row .u8 64 f) 121 (0, 0)) (.cells (row .u32 8 fun _ => 0#32) 120 (0, 0))
  have H1 := alloc3_1 w (.cells (row .u32 8 h) 120 (0, 0)) (.cells (row .u8 64 f) 121 (0, 0)) (.cells (row .u32 8 fun _ => 0#32) 120 (0, 0))
  have H2 := alloc3_2 w (.cells (row .u32 8 h) 120 (0, 0)) (.cells (row .u8 64 f) 121 (0, 0)) (.cells (row .u32 8 fun _ => 0#32) 120 (0, 0))
  have B0 : Below w.heap.size w (((w.alloc (.cells (row .u32 8 h) 120 (0, 0))).alloc (.cells (row .u8 64 f) 121 (0, 0))).alloc (.cells (row .u32 8 fun _ => 0#32) 120 (0, 0))) :=
    (((Below.refl _ _).alloc (Nat.le_refl _) _).alloc (by simp) _).alloc (by simp; omega) _
  have S0 : (((w.alloc (.cells (row .u32 8 h) 120 (0, 0))).alloc (.cells (row .u8 64 f) 121 (0, 0))).alloc (.cells (row .u32 8 fun _ => 0#32) 120 (0, 0))).heap.size = w.heap.size + 3 := by simp
  obtain ⟨w0, hw0⟩ : ∃ w0, w0 = ((w.alloc (.cells (row .u32 8 h) 120 (0, 0))).alloc (.cells (row .u8 64 f) 121 (0, 0))).alloc (.cells (row .u32 8 fun _ => 0#32) 120 (0, 0)) := ⟨_, rfl⟩
  rw [← hw0] at H0 H1 H2 B0 S0
  have HH := Lib.hid (And.intro H0 (And.intro H1 (And.intro H2 (And.intro B0 S0))))
  have HW := Lib.hid hw0
  clear H0 H1 H2 B0 S0 hw0
  go_enter Tryz.func107, Tryz.ntmps107
  go_wp2_with (first | (refine wpList_load_row rfl 120 (.tmp 2) rfl w.heap.size rfl 120 _ (0, 0) _ (HW.out ▸ HH.out.1) Tryz.underlying120 rfl (by kernel_rfl) ?_) | (refine store_new rfl 120 (.tmp 5) (.tmp 9) rfl rfl w0 (row .u32 8 fun _ => 0#32) (row .u32 8 h) 120 (by rw [HW.out]; rfl) (show Value.pointer (some ⟨w.heap.size + 3, 0, none⟩) = Value.pointer (some ⟨w0.heap.size, 0, none⟩) from congrArg (fun n => Value.pointer (some ⟨n, 0, none⟩)) HH.out.2.2.2.2.symm) rfl (by kernel_rfl) rfl (row_one _ _ _) ?_; intro w1 hh1 hb1 hs1; rw [HH.out.2.2.2.2] at hh1 hb1 hs1; have HA := Lib.hid ((hb1.block w.heap.size (by omega)).trans HH.out.1); have H1' := Lib.hid ((hb1.block (w.heap.size + 1) (by omega)).trans HH.out.2.1); have HZ := Lib.hid ((hb1.block (w.heap.size + 2) (by omega)).trans HH.out.2.2.1); have B1 := HH.out.2.2.2.1.trans (hb1.mono (by omega)); have HR := Lib.hid hh1; clear hh1 hb1 HH HW) | (refine wpList_load_row rfl 121 (.tmp 3) rfl (w.heap.size + 1) rfl 121 _ (0, 0) _ H1'.out Tryz.underlying121 rfl (by kernel_rfl) ?_) | (go_at_call 132; refine (schedule_R f _).mono ?_; rintro e w2 ⟨rfl, hb2⟩; have HA2 := Lib.hid ((hb2.block w.heap.size (by omega)).trans HA.out); have HZ2 := Lib.hid ((hb2.block (w.heap.size + 2) (by omega)).trans HZ.out); have HR2 := Lib.hid ((hb2.block (w.heap.size + 3) (by omega)).trans HR.out); have B2 := B1.trans (hb2.mono (by omega)); have hs2 : w.heap.size + 4 ≤ w2.heap.size := Nat.le_trans hs1 hb2.size; clear HA H1' HZ HR B1 hb2 hs1))
  go_loopw [6, 7, 12] (fun _ _ c wr => ∃ k : Nat, k ≤ 64 ∧ c = .int .i64 k ∧ wr.heap[w.heap.size]? = some (.cells (row .u32 8 h) 120 (0, 0)) ∧ wr.heap[w.heap.size + 2]? = some (.cells (row .u32 8 fun _ => 0#32) 120 (0, 0)) ∧
      wr.heap[w.heap.size + 3]? = some (.cells (row .u32 8 (rounds h (sched f) k)) 120 (0, 0)) ∧ w.heap.size + 4 ≤ wr.heap.size ∧ Below w.heap.size w wr) (fun _ _ c _ => 64 - (intOf c).toNat)
  case atStart => exact ⟨0, by omega, rfl, HA2.out, HZ2.out, by rw [rounds_zero]; exact HR2.out, hs2, B2⟩
  case round =>
    clear HA2 HZ2 HR2 B2 hs2
    obtain ⟨k, hk, rfl, ha, hz, hr, hs, hb⟩ := hrel
    by_cases hlt : k < 64
    · have hix := index_words (sched f) k hlt
      have HK := Lib.hid (tab_keep tab hb (Nat.le_refl _))
      obtain ⟨c0, c1, c2, c3, c4, c5, c6, c7⟩ := cells8_of hr
      have HA := Lib.hid ha
      have HZ := Lib.hid hz
      have HR := Lib.hid hr
      clear ha hz hr
      go_wp2
      go_still_tail 4, (by kernel_rfl)
      still_call (k_still k hlt _ HK.out)
      repeat still_step
      refine wpStill_nil ?_
      change wpList _ _ _ _ _ wr.drew
      have ha : wr.drew.heap[w.heap.size]? = _ := HA.out
      have hz : wr.drew.heap[w.heap.size + 2]? = _ := HZ.out
      have hr : wr.drew.heap[w.heap.size + 3]? = _ := HR.out
      have hs : w.heap.size + 4 ≤ wr.drew.heap.size := hs
      have hb := below_draws hb 1
      change Below _ _ wr.drew at hb
      clear HA HZ HR c0 c1 c2 c3 c4 c5 c6 c7 HK hix
      generalize wr.drew = w3 at *
      have HA := Lib.hid ha
      have HZ := Lib.hid hz
      have HR := Lib.hid hr
      clear ha hz hr
      go_wp2_with (first | (go_at_call 133; refine (round_L' (rounds h (sched f) k) (kB k) (sched f k) _).mono ?_; rintro e w4 ⟨rfl, hb4⟩; have HA4 := Lib.hid ((hb4.block w.heap.size (by omega)).trans HA.out); have HZ4 := Lib.hid ((hb4.block (w.heap.size + 2) (by omega)).trans HZ.out); have HR4 := Lib.hid ((hb4.block (w.heap.size + 3) (by omega)).trans HR.out); have B4 := hb.trans (hb4.mono (by omega)); have hs4 : w.heap.size + 4 ≤ w4.heap.size := Nat.le_trans hs hb4.size; clear HA HZ HR hb hb4 hs) | (refine store_old rfl 120 (.tmp 5) (.tmp 20) rfl rfl (w.heap.size + 3) _ _ 120 HR4.out rfl rfl (by kernel_rfl) rfl (row_one _ _ _) ?_; intro w5 hh5 ho5 hs5 hb5; have HA5 := Lib.hid ((ho5 w.heap.size (by omega)).trans HA4.out); have HZ5 := Lib.hid ((ho5 (w.heap.size + 2) (by omega)).trans HZ4.out); have HR5 := Lib.hid hh5; have B5 := hb5 _ _ B4 (by omega); have hs6 := Nat.le_trans hs4 hs5; clear HA4 HZ4 HR4 hh5 ho5 hs5 hb5 B4 hs4))
      go_roundw
      case rel => exact ⟨k + 1, by omega, by go_num, HA5.out, HZ5.out, by rw [rounds_succ]; exact HR5.out, hs6, B5⟩
      case measure => simp [intOf]; omega
    · obtain rfl : k = 64 := by omega
      have HA := Lib.hid ha
      have HZ := Lib.hid hz
      have HR := Lib.hid hr
      clear ha hz hr
      go_wp2
      go_loopw [8, 22] (fun _ c wr => ∃ k : Nat, k ≤ 8 ∧ c = .int .i64 k ∧ wr.heap[w.heap.size]? = some (.cells (row .u32 8 h) 120 (0, 0)) ∧ wr.heap[w.heap.size + 2]? = some (.cells (row .u32 8 fun _ => 0#32) 120 (0, 0)) ∧
          wr.heap[w.heap.size + 3]? = some (.cells (row .u32 8 (mixTo (compressed h f) (rounds h (sched f) 64) k)) 120 (0, 0)) ∧ w.heap.size + 4 ≤ wr.heap.size ∧ Below w.heap.size w wr) (fun _ c _ => 8 - (intOf c).toNat)
      case atStart => exact ⟨0, by omega, rfl, HA.out, HZ.out, by rw [mix_zero]; exact HR.out, hs, hb⟩
      case round =>
        clear HA HZ HR hs hb
        obtain ⟨k, hk, rfl, ha, hz, hr, hs, hb⟩ := hrel
        by_cases hlt : k < 8
        · have q4 : (k : Int) < 8 := by omega
          have c0 := (cell_of_row wr _ k _ _ _ hr).trans (row_get .u32 8 _ k hlt)
          rw [mix_at] at c0
          have c1 := (cell_of_row wr _ k _ _ _ ha).trans (row_get .u32 8 h k hlt)
          have HA := Lib.hid ha
          have HZ := Lib.hid hz
          have HR := Lib.hid hr
          clear ha hz hr
          go_wp2
          go_still_tail 8, (by kernel_rfl)
          change wpList _ _ _ _ _ wr.drew
          have ha : wr.drew.heap[w.heap.size]? = _ := HA.out
          have hz : wr.drew.heap[w.heap.size + 2]? = _ := HZ.out
          have hr : wr.drew.heap[w.heap.size + 3]? = _ := HR.out
          have hs : w.heap.size + 4 ≤ wr.drew.heap.size := hs
          have hb := below_draws hb 1
          change Below _ _ wr.drew at hb
          clear HA HZ HR c0 c1
          generalize wr.drew = w3 at *
          have c0 := (cell_of_row w3 _ k _ _ _ hr).trans (row_get .u32 8 _ k hlt)
          have f0 := frozen_of_row w3 _ k _ _ hr
          have HA := Lib.hid ha
          have HZ := Lib.hid hz
          have HR := Lib.hid hr
          clear ha hz hr
          have HE := Lib.hid (compressed_def h f k)
          go_wp2
          go_roundw
          case rel =>
            (repeat apply Exists.intro)
            refine ⟨?_, rfl⟩
            rw [HE.out]
            refine ⟨k + 1, by omega, by go_num, ?_, ?_, ?_, by simpa using hs, hb.setCell (show w.heap.size ≤ w.heap.size + 3 by omega) _⟩
            · rw [heap_setCell_other _ _ _ _ (by simp; omega)]; exact HA.out
            · rw [heap_setCell_other _ _ _ _ (by simp)]; exact HZ.out
            · rw [← mix_set]; exact heap_setCell_same _ _ _ _ _ _ HR.out
          case measure => simp [intOf]; omega
        · obtain rfl : k = 8 := by omega
          rw [mix_full] at hr
          go_wp2_with (first | (refine wpList_load_row rfl 120 (.tmp 5) rfl (w.heap.size + 3) rfl 120 _ (0, 0) _ hr Tryz.underlying120 rfl (by kernel_rfl) ?_) | (refine wpList_store_row rfl 120 (.tmp 4) (.tmp 34) rfl (w.heap.size + 2) _ rfl rfl 120 _ hz (by kernel_rfl) ((row_size _ _ _).trans (row_size _ _ _).symm) (row_one _ _ _) ?_))
          exact bodyPost_ret (results_cell_row Tryz.results107 _ _ (w.heap.size + 2) 120 _ (0, 0) _ rfl (setRow_heap _ _ _ _ _ _ hz) Tryz.underlying120 rfl (by kernel_rfl)) rfl ⟨rfl, below_setRow hb (by omega) _⟩
end Go.Proofs.YtppmbdpfledejaaGreatDoor
namespace Go.Proofs.YtppmbdpfledejaaGreatDoor
/-- Eight words at hand. -/
structure S8 where
  a : BitVec 32
  b : BitVec 32
  c : BitVec 32
  d : BitVec 32
  e : BitVec 32
  f : BitVec 32
  g : BitVec 32
  h : BitVec 32
def S8.fn (s : S8) : Nat → BitVec 32 := eight s.a s.b s.c s.d s.e s.f s.g s.h
end Go.Proofs.YtppmbdpfledejaaGreatDoor
namespace Go.Proofs.YtppmbdpfledejaaGreatDoor
open Go.RowKit
/-- A slice of bytes that does not lie in block g. -/
def Apart (v : Value) (g : Nat) : Prop := ∀ ad len cap, v = .slice (some ad) len cap → ad.block ≠ g
/-- Bytes in older memory lie apart from a newer block. -/
theorem apart_of_has {w : World} {v : Value} {cs : List (BitVec 32)} {g : Nat} (h : HasBytes w v cs) (hg : w.heap.size ≤ g) (hc : cs ≠ []) : Apart v g := by
  intro ad len cap hv
  obtain ⟨ao, cap', rfl, -, hcell⟩ := h
  cases hv
  have hpos : 0 < cs.length := List.length_pos_iff.2 hc
  have h0 := (hcell ad rfl).2 0 _ (bytesL_get cs 0 hpos)
  have h1 := World.block_lt_of_cell? w _ h0
  rw [show (ad.add 0).block = ad.block from by unfold Addr.add; split <;> rfl] at h1
  omega
/-- Of old memory nothing but block g has changed. -/
structure OnlyAt (g : Nat) (w w' : World) : Prop where
  os : w'.os = w.os
  tape : w'.tape = w.tape
  output : w'.output = w.output
  size : w.heap.size ≤ w'.heap.size
  block : ∀ k, k < w.heap.size → k ≠ g → w'.heap[k]? = w.heap[k]?
theorem OnlyAt.below {g B : Nat} {w0 w w' : World} (h : OnlyAt g w w') (hb : Below B w0 w) (hg : B ≤ g) (hB : B ≤ w.heap.size) : Below B w0 w' :=
  ⟨h.os.trans hb.os, h.tape.trans hb.tape, h.output.trans hb.output, Nat.le_trans hb.size h.size, fun k hk => (h.block k (Nat.lt_of_lt_of_le hk hB) (by omega)).trans (hb.block k hk)⟩
end Go.Proofs.YtppmbdpfledejaaGreatDoor
namespace Go.Proofs.YtppmbdpfledejaaGreatDoor
open Go.RowKit
theorem infoByte03 : (Tryz.prog.info? 5).map (fun i => (i.zero, i.size, i.bytes)) = some (some (.int .u8 0), 1, 1) := by kernel_rfl
set_option maxRecDepth 100000 in
set_option maxHeartbeats 2000000 in
theorem refPad_any (n : Nat) (hn : n ≤ 1099511627776) (w : World) :
    Calls Tryz.prog 64 #[.int .i64 n] w fun e w' => ∃ v, e = .returned v ∧ w'.ownsRow w.heap.size 5 1 v (padB n).length (bytesL (padB n)) ∧ Below w.heap.size w w' := by
  obtain ⟨i0, hi, hz0, hz1, hz2⟩ := info_parts infoByte03
  have hz := padZeros_lt n
  go_enter Tryz.func64, Tryz.ntmps64
  go_wp2
  go_loopw [3] (fun v wr => ∃ j : Nat, j ≤ padZeros n ∧ (∃ g cap, v = .slice (some ⟨g, 0, none⟩) (j + 1) cap) ∧ wr.ownsRow w.heap.size 5 1 v (j + 1) (bytesL (padHead j)) ∧ Below w.heap.size w wr) (fun v _ => match v with | .slice _ l _ => 100 - l | _ => 0)
  case atStart =>
    refine ⟨0, by omega, ⟨_, _, rfl⟩, ⟨rfl, .inr ⟨_, 1, _, rfl, Nat.le_refl _, heap_last w _, Nat.le_refl _, by decide, rfl, rfl⟩⟩, (Below.refl _ _).alloc (Nat.le_refl _) _⟩
  case round =>
    obtain ⟨j, hj, ⟨g, cap, rfl⟩, hown, hb⟩ := hrel
    have hbs := hb.size
    by_cases hlt : j < padZeros n
    · have ht := padZeros_not n j hlt
      have ht2 : ((n : Int) + ((j : Int) + 1) + 8) % 64 ≠ 0 := by omega
      have HO := Lib.hid hown
      clear ht hown
      go_wp2_with (first | (at_builtin; refine wpList_append_own _ rfl (.tmp 22) (.tmp 23) 43 rfl w.heap.size 5 i0 (.int .u8 0) 1 1 Tryz.underlying43 hi hz0 hz1 hz2 rfl (by decide) _ _ _ rfl (HO.out.alloc _) ⟨wr.heap.size, 0, none⟩ 1 1 [.int .u8 0] rfl rfl (new_one _ _ _) (one_int _ _) (by unfold maxLen; omega) (by omega) (by simp; omega) ?_; intro v' w1 hown' hgrow hnil; clear hnil))
      obtain ⟨g', cap', cur, rfl, -⟩ := own_shape hown' (by omega)
      go_roundw
      case rel => exact ⟨j + 1, by omega, ⟨_, _, rfl⟩, by rw [padHead_succ, bytesL_append]; exact hown', below_grown (hb.alloc hb.size _) hgrow (by simp; omega) fun k hk => (HO.out.lt k hk).1⟩
      case measure => simp; omega
    · obtain rfl : j = padZeros n := by omega
      have ht2 : ((n : Int) + ((padZeros n : Int) + 1) + 8) % 64 = 0 := by have := padZeros_end n; omega
      have HT := Lib.hid (show decide (((n : Int) + ((padZeros n : Int) + 1) + 8) % 64 = 0) = true from decide_eq_true ht2)
      have HO := Lib.hid hown
      have HB := Lib.hid hb
      clear hown hb
      go_wp2
      go_loopw [3, 5] (fun v c wr => ∃ i : Nat, i ≤ 8 ∧ c = .int .i64 i ∧ (∃ g cap, v = .slice (some ⟨g, 0, none⟩) (padZeros n + 1 + i) cap) ∧ wr.ownsRow w.heap.size 5 1 v (padZeros n + 1 + i) (bytesL (padUpTo n i)) ∧ Below w.heap.size w wr) (fun _ c _ => 8 - (intOf c).toNat)
      case atStart => exact ⟨0, by omega, rfl, ⟨_, _, rfl⟩, by rw [padUpTo_zero]; exact HO.out, HB.out⟩
      case round =>
        clear HO HB HT ht2 hbs hlt hj
        obtain ⟨i, hi8, rfl, ⟨g, cap, rfl⟩, hown, hb⟩ := hrel
        have hbs := hb.size
        have HO := Lib.hid hown
        clear hown
        by_cases hlt : i < 8
        · go_wp2
          go_loop [6, 7] (fun x c => ∃ k : Nat, i ≤ k ∧ k ≤ 7 ∧ c = .int .i64 k ∧ x = .int .i64 ((8 * n / 256 ^ (k - i) : Nat) : Int)) (fun _ c => 8 - (intOf c).toNat)
          case atStart => exact ⟨i, by omega, by omega, rfl, by simp⟩
          case round =>
            obtain ⟨k, hk1, hk2, rfl, rfl⟩ := hrel
            have hy : 8 * n / 256 ^ (k - i) ≤ 8796093022208 := Nat.le_trans (Nat.div_le_self _ _) (by omega)
            by_cases hk7 : k < 7
            · obtain ⟨y, hy2⟩ : ∃ y, y = 8 * n / 256 ^ (k - i) := ⟨_, rfl⟩
              rw [← hy2] at hy ⊢
              have HY := Lib.hid hy2
              clear hy2
              go_wp2
              go_round
              case rel =>
                refine ⟨k + 1, by omega, by omega, by go_num, ?_⟩
                rw [show k + 1 - i = (k - i) + 1 from by omega, Nat.pow_succ, ← Nat.div_div_eq_div_mul, ← HY.out]; simp
              case measure => simp [intOf]; omega
            · obtain rfl : k = 7 := by omega
              obtain ⟨y, hy2⟩ : ∃ y, y = 8 * n / 256 ^ (7 - i) := ⟨_, rfl⟩
              rw [← hy2] at hy ⊢
              have HY := Lib.hid hy2
              clear hy2
              go_wp2_with (first | (at_builtin; refine wpList_append_own _ rfl (.tmp 39) (.tmp 43) 43 rfl w.heap.size 5 i0 (.int .u8 0) 1 1 Tryz.underlying43 hi hz0 hz1 hz2 rfl (by decide) _ _ _ rfl (HO.out.alloc _) ⟨wr.heap.size, 0, none⟩ 1 1 [.int .u8 ((y : Int) % 256)] rfl rfl (new_one _ _ _) (one_int _ _) (by unfold maxLen; omega) (by omega) (by simp; omega) ?_; intro v' w1 hown' hgrow hnil; clear hnil))
              obtain ⟨g', cap', cur, rfl, -⟩ := own_shape hown' (by omega)
              go_roundw
              case rel =>
                refine ⟨i + 1, by omega, by go_num, ⟨_, _, rfl⟩, ?_, below_grown (hb.alloc hb.size _) hgrow (by simp; omega) fun k hk => (HO.out.lt k hk).1⟩
                rw [padUpTo_succ, bytesL_append, show bytesL [lenByte n i] = [.int .u8 ((y : Int) % 256)] from by simp [bytesL, u32_lenByte, HY.out]]; exact hown'
              case measure => simp [intOf]; omega
        · obtain rfl : i = 8 := by omega
          go_wp2
          go_ret
          exact ⟨_, rfl, by rw [padB_length]; exact HO.out, hb⟩
end Go.Proofs.YtppmbdpfledejaaGreatDoor
namespace Go.Proofs.YtppmbdpfledejaaGreatDoor
open Go.RowKit
set_option maxRecDepth 100000 in
theorem made_row (m : Nat) : madeCells #[.int .u8 0] m = row .u8 m fun _ => 0#32 := by
  apply Array.ext_getElem?
  intro i
  by_cases h : i < m <;> simp [madeCells, row, Nat.mod_one, h, u32]
set_option maxRecDepth 100000 in
theorem pow8 (k : Nat) : (2 : Int) ^ (8 * k) = ((256 ^ k : Nat) : Int) := by
  rw [show (256 : Nat) ^ k = 2 ^ (8 * k) from by rw [Nat.pow_mul]]; simp
/-- What stands behind n bytes, with k of its last eight bytes. -/
def padF (n z k i : Nat) : BitVec 32 := if i = 0 then 128#32 else if z + 9 - k ≤ i then lenByte n (i - (z + 1)) else 0#32
set_option maxRecDepth 100000 in
theorem padF_zero (n z : Nat) : (row .u8 (z + 9) fun _ => 0#32).setIfInBounds 0 (.int .u8 128) = row .u8 (z + 9) (padF n z 0) :=
  row_set_to .u8 (z + 9) _ _ 0 128#32 fun j hj => by unfold padF; by_cases h : j = 0 <;> simp [h]; omega
set_option maxRecDepth 100000 in
theorem padF_set (n z k : Nat) (hk : k < 8) : (row .u8 (z + 9) (padF n z k)).setIfInBounds (z + 8 - k) (.int .u8 (u32 (lenByte n (7 - k)))) = row .u8 (z + 9) (padF n z (k + 1)) :=
  row_set_to .u8 (z + 9) _ _ _ _ fun j hj => by
    unfold padF
    by_cases h : j = z + 8 - k
    · rw [if_pos h, if_neg (by omega), if_pos (by omega)]; congr 1; omega
    · rw [if_neg h]
      by_cases h0 : j = 0
      · rw [if_pos h0, if_pos h0]
      · rw [if_neg h0, if_neg h0]
        by_cases h1 : z + 9 - k ≤ j
        · rw [if_pos h1, if_pos (by omega)]
        · rw [if_neg h1, if_neg (by omega)]
set_option maxRecDepth 100000 in
theorem padF_full (n j : Nat) (hj : j < padZeros n + 9) : padF n (padZeros n) 8 j = (padB n).getD j 0#32 := by
  unfold padF padB padUpTo padHead
  rw [List.getD_eq_getElem?_getD]
  by_cases h0 : j = 0
  · subst h0; simp
  · rw [if_neg h0]
    by_cases h1 : padZeros n + 9 - 8 ≤ j
    · rw [if_pos h1, List.getElem?_append_right (by simp; omega)]
      have : j - (padZeros n + 1) < 8 := by omega
      simp [this]
    · rw [if_neg h1, List.getElem?_append_left (by simp; omega)]
      obtain ⟨i, rfl⟩ : ∃ i, j = i + 1 := ⟨j - 1, by omega⟩
      have : i < padZeros n := by omega
      simp [this]
set_option maxRecDepth 100000 in
theorem has_row {w : World} {g : Nat} {t : TypeId} {m : Nat} {f : Nat → BitVec 32} (e : w.heap[g]? = some (.cells (row .u8 m f) t (0, 0))) (bs : List (BitVec 32)) (hl : bs.length = m) (h : ∀ j, j < m → f j = bs.getD j 0#32) : HasBytes w (.slice (some ⟨g, 0, none⟩) m m) bs := by
  subst hl
  refine ⟨some ⟨g, 0, none⟩, bs.length, rfl, (fun h => by cases h), fun ad had => ⟨Nat.le_refl _, fun j u hu => ?_⟩⟩
  cases had
  have hj : j < bs.length := by have := (List.getElem?_eq_some_iff.1 hu).1; rwa [bytesL_length] at this
  rw [Addr.add_lit, Nat.zero_add, cell_of_row _ _ _ _ _ _ e, row_get _ _ _ _ hj, h j hj, ← hu, bytesL_get _ _ hj]
set_option maxRecDepth 100000 in
/-- Pad, within the bounds: the bytes behind n bytes, in a row of its own. -/
theorem pad_any (n : Nat) (hn : n ≤ 1099511627776) (w : World) :
    Calls Tryz.prog 108 #[.int .i64 n] w fun e w' => ∃ v, e = .returned v ∧ HasBytes w' v (padB n) ∧ Below w.heap.size w w' ∧ ∀ g, g < w.heap.size → Apart v g := by
  obtain ⟨i0, hi, hz0, hz1, hz2⟩ := info_parts infoByte03
  obtain ⟨o, ho⟩ : ∃ o : Nat, o = (n + 9) % 64 := ⟨_, rfl⟩
  have e1 : ((n : Int) + 9).tmod 64 = (o : Int) := by rw [Int.tmod_eq_emod_of_nonneg (by omega)]; omega
  have ho64 : (o : Int) < 64 := by omega
  obtain ⟨z, hz⟩ : ∃ z : Nat, z = padZeros n := ⟨_, rfl⟩
  have hz' : z = (64 - o) % 64 := by rw [hz]; unfold padZeros; omega
  have e2 : ((64 : Int) - (o : Int)).tmod 64 = (z : Int) := by rw [Int.tmod_eq_emod_of_nonneg (by omega)]; omega
  have hz64 : (z : Int) < 64 := by omega
  obtain ⟨m, hm⟩ : ∃ m : Nat, m = z + 9 := ⟨_, rfl⟩
  have e3 : (9 : Int) + (z : Int) = (m : Int) := by omega
  have hm9 : (9 : Int) ≤ (m : Int) := by omega
  have hm73 : (m : Int) < 73 := by omega
  have HZ := Lib.hid (And.intro hz hm)
  clear hz hz' ho hm
  go_enter Tryz.func108, Tryz.ntmps108
  go_wp2_with (first | (at_make; refine wpList_make_row _ rfl (.tmp 20) (.tmp 20) 43 rfl 5 i0 (.int .u8 0) Tryz.underlying43 hi hz0 hz1 rfl .i64 .i64 m rfl rfl (by rw [hz2]; omega) (by omega) ?_; have H1 := heap_last w (.cells (madeCells #[.int .u8 0] m) 5 (0, 0)); have B1 := (Below.refl w.heap.size w).alloc (Nat.le_refl _) (.cells (madeCells #[.int .u8 0] m) 5 (0, 0)); generalize w.alloc (.cells (madeCells #[.int .u8 0] m) 5 (0, 0)) = w1 at *; rw [made_row] at H1; have HH1 := Lib.hid H1; have HB1 := Lib.hid B1; clear H1 B1) | (refine store_cell rfl 5 (.tmp 23) (.const (.int .u8 128)) rfl rfl .u8 w.heap.size 0 _ _ _ HH1.out rfl rfl (by rw [row_size]; omega) (by kernel_rfl) ?_; intro w2 hg2 hs2; have HH2 := Lib.hid hg2; have HS2 := Lib.hid hs2; clear HH1 hg2 hs2))
  have hg2 : w2.heap[w.heap.size]? = some (.cells (row .u8 m (padF n z 0)) 5 (0, 0)) := by
    rw [HH2.out, HZ.out.2, padF_zero]
  have hb2 : Below w.heap.size w w2 := HB1.out.trans ⟨HS2.out.os, HS2.out.tape, HS2.out.output, Nat.le_of_eq HS2.out.size.symm, fun k hk => HS2.out.block k (by omega)⟩
  have HG2 := Lib.hid hg2
  have HB2 := Lib.hid hb2
  clear HH2 HS2 HB1 hg2 hb2
  go_loopw [6, 24] (fun _ c wr => ∃ k : Nat, k ≤ 8 ∧ c = .int .i64 k ∧ wr.heap[w.heap.size]? = some (.cells (row .u8 m (padF n z k)) 5 (0, 0)) ∧ Below w.heap.size w wr) (fun _ c _ => 8 - (intOf c).toNat)
  case atStart => exact ⟨0, by omega, rfl, HG2.out, HB2.out⟩
  case round =>
    clear HG2 HB2
    obtain ⟨k, hk, rfl, hg, hb⟩ := hrel
    by_cases hlt : k < 8
    · have HG := Lib.hid hg
      have HB := Lib.hid hb
      have q8 : (k : Int) < 8 := by omega
      obtain ⟨N, hN⟩ : ∃ N : Nat, N = 8 * n := ⟨_, rfl⟩
      obtain ⟨s, hs⟩ : ∃ s : Nat, s = 8 * k := ⟨_, rfl⟩
      obtain ⟨j, hj⟩ : ∃ j : Nat, j = z + 8 - k := ⟨_, rfl⟩
      have hm := HZ.out.2
      have e4 : (8 : Int) * (n : Int) = (N : Int) := by omega
      have e5 : (m : Int) - 1 - (k : Int) = (j : Int) := by omega
      have e6 : (8 : Int) * (k : Int) = (s : Int) := by omega
      have hN' : (N : Int) ≤ 8796093022208 := by omega
      have hs' : (s : Int) < 64 := by omega
      have hj' : (j : Int) < (m : Int) := by omega
      have HN := Lib.hid (And.intro hm hj)
      have HV := Lib.hid (show (N : Int) / 2 ^ s % 256 = Go.Proofs.YtppmbdpfledejaaGreatDoor.u32 (lenByte n (7 - k)) by
        rw [u32_lenByte, show 7 - (7 - k) = k from by omega, hN, hs, pow8 k]; generalize 256 ^ k = q; simp)
      clear hg hb hN hs hj hm
      go_wp2_with (first | (refine store_cell rfl 5 (.tmp 39) (.tmp 38) rfl rfl .u8 w.heap.size j _ _ _ HG.out rfl rfl (by rw [row_size]; omega) (by kernel_rfl) ?_; intro w3 hg3 hs3; have HG3 := Lib.hid hg3; have HS3 := Lib.hid hs3; clear hg3 hs3))
      go_roundw
      case rel =>
        have hs := HS3.out
        refine ⟨k + 1, by omega, by go_num, ?_, HB.out.trans ⟨hs.os, hs.tape, hs.output, Nat.le_of_eq hs.size.symm, fun k hk => hs.block k (by omega)⟩⟩
        rw [HG3.out, HV.out, HN.out.1, HN.out.2, padF_set n z k hlt]
      case measure => simp [intOf]; omega
    · obtain rfl : k = 8 := by omega
      have hv := has_row hg (padB n) (by rw [padB_length, HZ.out.2, HZ.out.1]) (fun j hj => by rw [HZ.out.1]; exact padF_full n j (by rw [← HZ.out.1, ← HZ.out.2]; exact hj))
      clear hg
      go_wp2
      go_ret
      exact ⟨_, rfl, hv, hb, fun g hg ad l c e => by cases e; exact Nat.ne_of_gt hg⟩
set_option maxRecDepth 100000 in
theorem firstV_row : firstV = .agg (row .u32 8 firstF) := rfl
set_option maxRecDepth 100000 in
theorem built_new : Tryz.prog.built 168 [(0, .agg (row .u32 8 firstF))] = some (stC firstF (fun _ => 0#32) 0).toArray := by kernel_rfl
set_option maxRecDepth 100000 in
theorem new_any (w : World) : Calls Tryz.prog 76 #[] w fun e w' => ∃ g, e = .returned (.pointer (some ⟨g, 0, none⟩)) ∧ w.heap.size ≤ g ∧ Holds 168 w' g [] ∧ Below w.heap.size w w' := by
  go_enter Tryz.func76, Tryz.ntmps76
  go_wp2_with (first | (go_at_call 106; refine (first_any w).mono ?_; rintro e w1 ⟨rfl, rfl⟩; rw [firstV_row]) | (refine build_as rfl 168 #[(0, .tmp 1)] rfl _ _ built_new (by simp [Act.eval]) ?_))
  go_ret
  have B0 := (Below.refl w.heap.size w).alloc (Nat.le_refl _) firstO
  exact ⟨w.heap.size + 1, rfl, Nat.le_succ _, ⟨fun _ => 0#32, by rw [show wordsF [] (([] : List (BitVec 32)).length / 64) = firstF from wordsF_zero []]; exact alloc2_1 w _ _, fun i hi => absurd hi (Nat.not_lt_zero _)⟩, B0.alloc B0.size _⟩
end Go.Proofs.YtppmbdpfledejaaGreatDoor
