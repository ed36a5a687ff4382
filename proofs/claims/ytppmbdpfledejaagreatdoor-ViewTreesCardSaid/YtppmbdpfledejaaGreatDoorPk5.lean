/-
Texts that all claims of this seat share, part 5: HeadsParts, Ref12.
-/
import Derived.Laws.AppendOwnNone
import Derived.Laws.Slices
import Derived.Test.YtppmbdpfledejaaGreatDoorPk4
namespace Go.Proofs.YtppmbdpfledejaaGreatDoor
open Go.RowKit
theorem addr_zeroP (a : Addr) : a.add 0 = a := by unfold Addr.add; split <;> simp_all
theorem evsC_take_drop (us : List (Ev × Value)) (i : Nat) : evsC us = evsC (us.take i) ++ evsC (us.drop i) := by rw [← evsC_append, List.take_append_drop]
/-- What lies ahead of a place. -/
theorem slice_lo {P : Program} {w : World} {t : TypeId} (ht : P.underlying t = some (.slice (P.elem t))) (hz : ∀ w, (sizeOf (P.elem t)).run P w = .ok 38 w) {v : Value} {us : List (Ev × Value)} (h : HoldsU w v us) (i : Nat) (hi : i ≤ us.length) :
    ∃ v', (Instr.sliceAt t v none (some (.int .i64 (i : Int))) none).run P w = .ok v' w ∧ HoldsU w v' (us.take i) := by
  obtain ⟨ao, cap, rfl, hnil, hc⟩ := id h
  have hcap : us.length ≤ cap := by
    cases ao with
    | none => obtain ⟨h1, h2⟩ := hnil rfl; rw [h1]; simp
    | some ad => exact (hc ad rfl).1
  refine ⟨sliced ao 0 i cap 38, ?_, ?_⟩
  · rw [run_sliceAt_slice _ _ _ _ _ _ ht, run_slice_h _ _ _ _ _ ht _ _ (by omega) (by omega), hz]
    simp [Result.andThen]
  · unfold sliced
    have e1 : (if cap = 0 then ao else ao.map (·.add (0 * 38))) = ao := by
      split
      · rfl
      · cases ao with
        | none => rfl
        | some ad => simp [addr_zeroP]
    rw [e1]
    have hl : (us.take i).length = i := by rw [List.length_take]; omega
    refine ⟨ao, cap, by rw [hl]; rfl, fun h => ?_, fun ad had => ⟨by omega, fun j u hu => (hc ad had).2 j u ?_⟩⟩
    · obtain ⟨h1, h2⟩ := hnil h
      exact ⟨by rw [h1]; simp, h2⟩
    · rw [evsC_take_drop us i, List.getElem?_append_left (List.getElem?_eq_some_iff.1 hu).1]
      exact hu
/-- What lies behind it. -/
theorem slice_hi {P : Program} {w : World} {t : TypeId} (ht : P.underlying t = some (.slice (P.elem t))) (hz : ∀ w, (sizeOf (P.elem t)).run P w = .ok 38 w) {v : Value} {us : List (Ev × Value)} (h : HoldsU w v us) (i : Nat) (hi : i ≤ us.length) :
    ∃ v', (Instr.sliceAt t v (some (.int .i64 (i : Int))) none none).run P w = .ok v' w ∧ HoldsU w v' (us.drop i) := by
  obtain ⟨ao, cap, rfl, hnil, hc⟩ := id h
  refine ⟨sliced ao i us.length cap 38, ?_, ?_⟩
  · rw [run_sliceAt_slice _ _ _ _ _ _ ht, run_slice_l _ _ _ _ _ ht _ _ (by omega) (by omega), hz]
    simp [Result.andThen]
  · unfold sliced
    have hl : (us.drop i).length = us.length - i := by rw [List.length_drop]
    cases ao with
    | none =>
      obtain ⟨h1, h2⟩ := hnil rfl
      subst h1
      subst h2
      simp only [List.length_nil, Nat.zero_sub, Option.map_none, ite_self, List.drop_nil]
      exact holdsU_nil w
    | some ad =>
      have hcap := (hc ad rfl).1
      by_cases hci : cap = i
      · rw [if_pos hci]
        have h0 : us.drop i = [] := List.drop_eq_nil_of_le (by omega)
        rw [h0]
        exact ⟨some ad, cap - i, by rw [show us.length - i = 0 by omega]; rfl, (fun h => by cases h), fun b hb => ⟨by simp, fun j u hu => by simp [evsC] at hu⟩⟩
      · rw [if_neg hci]
        refine ⟨some (ad.add (i * 38)), cap - i, by rw [hl]; rfl, (fun h => by cases h), fun b hb => ⟨by omega, fun j u hu => ?_⟩⟩
        cases hb
        rw [addr_add2]
        refine (hc ad rfl).2 _ _ ?_
        rw [evsC_take_drop us i, List.getElem?_append_right (by rw [evsC_length, List.length_take]; omega)]
        rw [evsC_length, List.length_take, show i * 38 + j - min i us.length * 38 = j by rw [Nat.min_eq_left hi]; omega]
        exact hu
theorem wpList_slice_lo {P : Program} {w : World} {ops : Array Oper} {rest : List Oper} {o : Oper} {a : Act} {Q : Exit → Act → World → Prop} (hg : o.guard = none) (s x : Operand) (t : TypeId) (ho : o.op = .slice t s none (some x) none)
    (ht : P.underlying t = some (.slice (P.elem t))) (hz : ∀ w, (sizeOf (P.elem t)).run P w = .ok 38 w) (v : Value) (us : List (Ev × Value)) (hs : a.eval s = v) (i : Nat) (hx : a.eval x = .int .i64 (i : Int)) (h : HoldsU w v us) (hi : i ≤ us.length)
    (hK : ∀ v', HoldsU w v' (us.take i) → wpList P ops Q rest (a.put o.dst v') w) : wpList P ops Q (o :: rest) a w := by
  refine wpList_plain hg fun K' hK' => ?_
  obtain ⟨v', hrun, h'⟩ := slice_lo ht hz h i hi
  unfold Oper.wp
  simp [execOp, ho, hs, hx, hrun, Result.andThen]
  exact hK' _ _ (hK v' h')
theorem wpList_slice_hi {P : Program} {w : World} {ops : Array Oper} {rest : List Oper} {o : Oper} {a : Act} {Q : Exit → Act → World → Prop} (hg : o.guard = none) (s x : Operand) (t : TypeId) (ho : o.op = .slice t s (some x) none none)
    (ht : P.underlying t = some (.slice (P.elem t))) (hz : ∀ w, (sizeOf (P.elem t)).run P w = .ok 38 w) (v : Value) (us : List (Ev × Value)) (hs : a.eval s = v) (i : Nat) (hx : a.eval x = .int .i64 (i : Int)) (h : HoldsU w v us) (hi : i ≤ us.length)
    (hK : ∀ v', HoldsU w v' (us.drop i) → wpList P ops Q rest (a.put o.dst v') w) : wpList P ops Q (o :: rest) a w := by
  refine wpList_plain hg fun K' hK' => ?_
  obtain ⟨v', hrun, h'⟩ := slice_hi ht hz h i hi
  unfold Oper.wp
  simp [execOp, ho, hs, hx, hrun, Result.andThen]
  exact hK' _ _ (hK v' h')
/-- Any slice of events appended to one of the call's own. -/
theorem append_us {P : Program} {w : World} {ops : Array Oper} {rest : List Oper} {o : Oper} {a : Act} {Q : Exit → Act → World → Prop} (hgd : o.guard = none) (s x : Operand) (t : TypeId)
    (ho : o.op = .call { callee := .builtin .append, args := #[s, x], argTypes := #[t, t] })
    (base : Nat) (e : TypeId) (i : TypeInfo) (ht : P.underlying t = some (.slice e)) (hi : P.info? e = some i) (hz : (i.zero.map (·.cells.size), i.size, i.bytes) = (some 38, 38, 104))
    (v : Value) (us ys : List (Ev × Value)) (hs : a.eval s = v) (hown : w.ownsRow base e 38 v us.length (evsC us)) (hone : ∀ y ∈ ys, y.2.oneCell' = true) (xv : Value) (hx : a.eval x = xv) (hxs : HoldsU w xv ys)
    (hlen : us.length + ys.length ≤ 100000) (hbase : base ≤ w.heap.size)
    (h : ∀ v' w', w'.ownsRow base e 38 v' (us ++ ys).length (evsC (us ++ ys)) → w.grownBy w' v.ownBlock → wpList P ops Q rest (a.put o.dst v') w') : wpList P ops Q (o :: rest) a w := by
  obtain ⟨ao, cap, rfl, hnil, hc⟩ := hxs
  cases ao with
  | none =>
    obtain ⟨rfl, rfl⟩ := hnil rfl
    refine wpList_append_own_none hgd s x t ho base e i 38 ht hi v us.length (evsC us) hs hown (by simpa using hx) ?_
    have := h v w (by simpa using hown) ⟨rfl, rfl, rfl, Nat.le_refl _, fun k _ _ => rfl⟩
    exact this
  | some ad => exact append_evs hgd s x t ho base e i ht hi hz v us ys hs hown hone ad ys.length cap hx rfl (hc ad rfl).2 hlen hbase h
theorem own_holds {w : World} {base : Nat} {e : TypeId} {v : Value} {us : List (Ev × Value)} (h : w.ownsRow base e 38 v us.length (evsC us)) : HoldsU w v us := by
  rcases h.2 with ⟨rfl, h0⟩ | ⟨g, cap, cur, rfl, h1, h2, h3, h4, h5, h6⟩
  · have h7 := List.eq_nil_of_length_eq_zero h0
    subst h7
    exact holdsU_nil w
  · refine ⟨some ⟨g, 0, none⟩, cap, rfl, (fun h => by cases h), fun ad had => ⟨h3, fun j u hu => ?_⟩⟩
    cases had
    rw [Addr.add_lit, Nat.zero_add]
    simp only [World.cell?, h2]
    rw [← Array.getElem?_toList]
    have hj := (List.getElem?_eq_some_iff.1 hu).1
    rw [← h6, List.getElem?_take_of_lt (by rw [evsC_length] at hj; exact hj)] at hu
    exact hu
theorem own_empty {w : World} {base B : Nat} {e : TypeId} (h : w.heap[B]? = some (.cells #[] e (0, 0))) (hb : base ≤ B) : w.ownsRow base e 38 (.slice (some ⟨B, 0, none⟩) 0 0) ([] : List (Ev × Value)).length (evsC []) :=
  ⟨rfl, .inr ⟨B, 0, #[], rfl, hb, h, Nat.le_refl _, Nat.zero_le _, rfl, rfl⟩⟩
end Go.Proofs.YtppmbdpfledejaaGreatDoor
namespace Go.Proofs.YtppmbdpfledejaaGreatDoor
open Go.RowKit
set_option maxRecDepth 100000 in
set_option maxHeartbeats 16000000 in
theorem refKnows_any12 (e f : Ev) (hl : e.deps.length < 2000000) (v u : Value) (w : World) (hv : HasDots w v e.deps) : Calls Tryz.prog 61 #[.agg (evC e v), .agg (evC f u)] w fun x w' => x = .returned (.bool (hasV e.deps f.r f.q)) ∧ Below w.heap.size w w' := by
  obtain ⟨h1, h2, h3⟩ := two_evs w 92 e f v u
  have E1 := Lib.hid h1
  have E2 := Lib.hid h2
  have B0 := Lib.hid h3
  have HH := Lib.hid (refHas_any10 e.deps hl f.r f.q v _ (dots_below hv h3))
  obtain ⟨-, -, c2, -, -, -⟩ := evAt_cells h1
  obtain ⟨ao, cap, rfl⟩ := dots_shape hv e.deps.length rfl
  clear h1 h2 h3 hv hl
  go_enter Tryz.func61, Tryz.ntmps61
  go_upto_region 1 with fail
  generalize (w.alloc (.cells (evC e (.slice ao e.deps.length cap)) 92 (0, 0))).alloc (.cells (evC f u) 92 (0, 0)) = W0 at *
  go_wp2_with (first
    | (refine load_dot10 (by rfl) 29 (.tmp 7) rfl ⟨w.heap.size + 1, 0, none⟩ rfl f.r f.q Tryz.underlying29 (by kernel_rfl) (evAt_dot E2.out) ?_)
    | (go_at_call 90; refine HH.out.mono ?_; rintro x w1 ⟨rfl, hb⟩; have B1 := Lib.hid (below_next B0.out hb); clear hb))
  go_ret
  exact ⟨rfl, B1.out⟩
set_option maxRecDepth 100000 in
set_option maxHeartbeats 16000000 in
theorem refCmp_any12 (e f : Ev) (v u : Value) (w : World) : Calls Tryz.prog 63 #[.agg (evC e v), .agg (evC f u)] w fun x w' => x = .returned (.int .i64 (cmpE e f)) ∧ Below w.heap.size w w' := by
  obtain ⟨h1, h2, h3⟩ := two_evs w 92 e f v u
  have E1 := Lib.hid h1
  have E2 := Lib.hid h2
  have B0 := Lib.hid h3
  obtain ⟨-, -, -, -, d4, -⟩ := evAt_cells h1
  obtain ⟨-, -, -, -, f4, -⟩ := evAt_cells h2
  have CD := Lib.hid (fun w => refCompare_any e.r e.q f.r f.q w)
  have s1 : (str e.path).toList = e.path := str_toList _
  have s2 : (str f.path).toList = f.path := str_toList _
  rcases cmpB_cases e.path f.path with ⟨hc, he⟩ | ⟨hc, hl, hn⟩ | ⟨hc, hl, hn⟩
  · have HR := Lib.hid (show cmpE e f = cmpD e.r e.q f.r f.q by rw [cmpE, if_pos hc])
    have q1 : Op.bytesLess e.path f.path = false := by rw [he]; exact bytesLess_irrefl _
    have q2 : (e.path == f.path) = true := by rw [he]; simp
    clear h1 h2 h3 hc he
    go_enter Tryz.func63, Tryz.ntmps63
    go_upto_region 1 with fail
    generalize (w.alloc (.cells (evC e v) 92 (0, 0))).alloc (.cells (evC f u) 92 (0, 0)) = W0 at *
    go_wp2_with (first
      | (refine load_dot10 (by rfl) 29 (.tmp 15) rfl ⟨w.heap.size, 0, none⟩ rfl e.r e.q Tryz.underlying29 (by kernel_rfl) (evAt_dot E1.out) ?_)
      | (refine load_dot10 (by rfl) 29 (.tmp 17) rfl ⟨w.heap.size + 1, 0, none⟩ rfl f.r f.q Tryz.underlying29 (by kernel_rfl) (evAt_dot E2.out) ?_)
      | (go_at_call 62; refine (CD.out _).mono ?_; rintro x w1 ⟨rfl, hb⟩; have B1 := Lib.hid (below_next B0.out hb); clear hb))
    go_ret
    exact ⟨by rw [HR.out]; rfl, B1.out⟩
  · have HR := Lib.hid (show cmpE e f = -1 by rw [cmpE, if_neg (by omega), hc])
    have q1 : Op.bytesLess e.path f.path = true := hl
    clear h1 h2 h3 hc hl hn
    go_enter Tryz.func63, Tryz.ntmps63
    go_upto_region 1 with fail
    generalize (w.alloc (.cells (evC e v) 92 (0, 0))).alloc (.cells (evC f u) 92 (0, 0)) = W0 at *
    go_wp2_with (first
      | (refine load_dot10 (by rfl) 29 (.tmp 15) rfl ⟨w.heap.size, 0, none⟩ rfl e.r e.q Tryz.underlying29 (by kernel_rfl) (evAt_dot E1.out) ?_)
      | (refine load_dot10 (by rfl) 29 (.tmp 17) rfl ⟨w.heap.size + 1, 0, none⟩ rfl f.r f.q Tryz.underlying29 (by kernel_rfl) (evAt_dot E2.out) ?_)
      | (go_at_call 62; refine (CD.out _).mono ?_; rintro x w1 ⟨rfl, hb⟩; have B1 := Lib.hid (below_next B0.out hb); clear hb))
    go_ret
    exact ⟨by rw [HR.out]; rfl, B0.out⟩
  · have HR := Lib.hid (show cmpE e f = 1 by rw [cmpE, if_neg (by omega), hc])
    have q1 : Op.bytesLess e.path f.path = false := bl_asymm hl
    have q2 : (e.path == f.path) = false := beq_eq_false_iff_ne.2 hn
    clear h1 h2 h3 hc hl hn
    go_enter Tryz.func63, Tryz.ntmps63
    go_upto_region 1 with fail
    generalize (w.alloc (.cells (evC e v) 92 (0, 0))).alloc (.cells (evC f u) 92 (0, 0)) = W0 at *
    go_wp2_with (first
      | (refine load_dot10 (by rfl) 29 (.tmp 15) rfl ⟨w.heap.size, 0, none⟩ rfl e.r e.q Tryz.underlying29 (by kernel_rfl) (evAt_dot E1.out) ?_)
      | (refine load_dot10 (by rfl) 29 (.tmp 17) rfl ⟨w.heap.size + 1, 0, none⟩ rfl f.r f.q Tryz.underlying29 (by kernel_rfl) (evAt_dot E2.out) ?_)
      | (go_at_call 62; refine (CD.out _).mono ?_; rintro x w1 ⟨rfl, hb⟩; have B1 := Lib.hid (below_next B0.out hb); clear hb))
    go_ret
    exact ⟨by rw [HR.out]; rfl, B0.out⟩
end Go.Proofs.YtppmbdpfledejaaGreatDoor
