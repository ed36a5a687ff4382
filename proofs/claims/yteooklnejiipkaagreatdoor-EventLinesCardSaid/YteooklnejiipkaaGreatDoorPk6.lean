/-
Texts that all claims of this seat share, part 6: VecParse, Ref04Parse, HexaParse, EventCode.
-/
import Derived.WalkMore
import Derived.ScopeJumps
import Derived.Test.YteooklnejiipkaaGreatDoorPk5
namespace Go.Proofs.YteooklnejiipkaaGreatDoor
open Go.RowKit Go.Shelf
attribute [local go_sem] Oper.semAt_some
/-- A row loaded in a round. -/
theorem load_row_in {F : Fence} {n : Nat} {P : Program} {ops : Array Oper} {rest : List Oper} {o : Oper} {a : Act} {w : World} {Q : Exit → Act → World → Prop} (hw : Region.wanted o (yielded ops a.tmps) = true) (ty : TypeId) (x : Operand) (ho : o.op = .load ty x)
    (g : Nat) (hx : a.eval x = .pointer (some ⟨g, 0, none⟩)) (t : TypeId) (cs : Array Value) (fr : Nat × Nat) (d : TypeDesc) (hg : w.heap[g]? = some (.cells cs t fr))
    (hu : P.underlying ty = some d) (hd : (match d with | .struct _ | .array _ _ => true | _ => false) = true) (hi : (P.info? ty).map (·.size) = some cs.size)
    (h : wpListIn F n P ops Q rest (a.put o.dst (.agg cs)) w) : wpListIn F n P ops Q (o :: rest) a w := by
  refine wpListIn_step fun K hK => ?_
  rw [if_pos hw]
  unfold Oper.wpIn
  refine ⟨by simp [Oper.about, ho], ?_⟩
  rw [Oper.semAt_plain F _ _ (by rw [ho]; intro c hc'; cases hc')]
  simp [execOp, ho, hx, Instr.loadAt, Instr.sureAddr, run_loadVar_row w g t ty cs fr d hg hu hd hi, Result.andThen]
  exact hK _ _ h
/-- A dot appended to a slice of dots of the call's own, in a round. -/
theorem append_dot_in {F : Fence} {n : Nat} {P : Program} {w : World} {ops : Array Oper} {rest : List Oper} {o : Oper} {a : Act} {Q : Exit → Act → World → Prop} (hgd : o.guard = none) (s x : Operand) (t : TypeId)
    (ho : o.op = .call { callee := .builtin .append, args := #[s, x], argTypes := #[t, t] })
    (base : Nat) (e : TypeId) (i : TypeInfo) (ht : P.underlying t = some (.slice e)) (hi : P.info? e = some i) (hz : (i.zero.map (·.cells.size), i.size, i.bytes) = (some 2, 2, 16))
    (v : Value) (l : List D2) (d : D2) (hs : a.eval s = v) (hown : w.ownsRow base e 2 v l.length (dotsC l)) (g c : Nat) (hx : a.eval x = .slice (some ⟨g, 0, none⟩) 1 c)
    (u : TypeId) (hg : w.heap[g]? = some (.cells #[.int .i64 d.1, .int .i64 d.2] u (0, 0))) (hlen : l.length + 1 ≤ 2000000) (hbase : base ≤ w.heap.size)
    (h : ∀ v' w', w'.ownsRow base e 2 v' (l ++ [d]).length (dotsC (l ++ [d])) → w.grownBy w' v.ownBlock → wpListIn F n P ops Q rest (a.put o.dst v') w') : wpListIn F n P ops Q (o :: rest) a w := by
  simp only [Prod.mk.injEq] at hz
  obtain ⟨hz1, hz2, hz3⟩ := hz
  cases hzz : i.zero with
  | none => rw [hzz] at hz1; cases hz1
  | some z =>
    rw [hzz] at hz1
    simp only [Option.map_some, Option.some.injEq] at hz1
    refine wpListIn_append_own w hgd s x t ho base e i z 2 16 ht hi hzz hz2 hz3 hz1 (by decide) v l.length (dotsC l) hs hown ⟨g, 0, none⟩ 1 c (dotsC [d]) hx rfl (fun j u hj => ?_) (fun u hu => dotsC_one [d] u hu)
      (by unfold maxLen; omega) (by omega) hbase fun v' w' h1 h2 _ => h v' w' (by rw [dotsC_append, List.length_append]; exact h1) h2
    match j, hj with
    | 0, hj => exact ((cell_of_row _ _ 0 _ _ _ hg).trans rfl).trans hj
    | 1, hj => rw [Addr.add_lit]; exact ((cell_of_row _ _ (0 + 1) _ _ _ hg).trans rfl).trans hj
theorem keeps_below {n : Nat} {W W' : World} (h : Below n W W') (hn : n = W.heap.size) : KeepsOthers W W' :=
  ⟨h.size, fun k o hk _ => (h.block k (by rw [hn]; exact (Array.getElem?_eq_some_iff.1 hk).1)).trans hk⟩
theorem keep3_low {B g : Nat} (W : World) (v : Value) (hg : g < B) : Keep3 B W (W.setCell ⟨g, 0, none⟩ v) := fun k h1 _ => heap_setCell_other _ _ _ _ (by show k ≠ g; omega)
/-- Behind an append to a slice that a variable holds: the variable, the row, and what lay ahead of both. -/
theorem appended10 {W w1 : World} {n₀ B size : Nat} {t e : TypeId} {v v' : Value} {k m : Nat} {xs ys : List Value} {tmp : Obj} (hv : Boxed W B t v) (hte : t ≠ e) (hrow : W.ownsRow n₀ e size v k xs) (hn : n₀ ≤ W.heap.size) (hown' : w1.ownsRow n₀ e size v' m ys) (hgrow : (W.alloc tmp).grownBy w1 v.ownBlock) :
    Boxed w1 B t v ∧ Boxed (w1.setCell ⟨B, 0, none⟩ v') B t v' ∧ (w1.setCell ⟨B, 0, none⟩ v').ownsRow n₀ e size v' m ys ∧ KeepsOthers W (w1.setCell ⟨B, 0, none⟩ v') ∧ Below n₀ W w1 := by
  have h1 : Boxed w1 B t v := (hv.alloc tmp).kept hgrow (hv.not_row hte hrow)
  have hcells : ∀ j o, v.ownBlock = some j → (W.alloc tmp).heap[j]? = some o → o.isCells = true ∧ n₀ ≤ j := fun j o ej hj => by
    rcases (hrow.alloc tmp).2 with ⟨rfl, _⟩ | ⟨g, cap, cur, rfl, hb, hgb, _⟩
    · simp [Value.ownBlock] at ej
    · obtain rfl : g = j := by simpa [Value.ownBlock] using ej
      rw [hgb] at hj; cases hj; exact ⟨rfl, hb⟩
  have hrows : ∀ j, v.ownBlock = some j → n₀ ≤ j := fun j ej => (hrow.lt j ej).1
  exact ⟨h1, h1.set v', hown'.kept (grownBy_setCell' w1 B v') (.inr (h1.not_row hte hown').symm),
    ((KeepsOthers.alloc W tmp).trans (KeepsOthers.of_grownBy hgrow fun j o ej hj => (hcells j o ej hj).1)).trans (KeepsOthers.setCell _ _ _),
    ((Below.refl n₀ W).alloc hn tmp).grown hgrow (by simp; omega) fun j ej => hrows j ej⟩
/-- The two results' blocks. -/
def Res2 (g : Nat) (W : World) (x y : Value) : Prop := Boxed W g 25 x ∧ Boxed W (g + 1) 34 y
theorem res2_below {g n : Nat} {W W' : World} {x y : Value} (h : Res2 g W x y) (hb : Below n W W') (hn : g + 2 ≤ n) : Res2 g W' x y := ⟨(hb.block g (by omega)).trans h.1, (hb.block (g + 1) (by omega)).trans h.2⟩
theorem res2_set {g : Nat} {W : World} {x y : Value} (h : Res2 g W x y) (x' y' : Value) : Res2 g ((W.setCell ⟨g, 0, none⟩ x').setCell ⟨g + 1, 0, none⟩ y') x' y' := ⟨(h.1.set x').other (by omega) y', (h.2.other (by omega) x').set y'⟩
theorem res2_far {g k : Nat} {W : World} {x y : Value} (h : Res2 g W x y) (hk : g + 2 ≤ k) (u : Value) : Res2 g (W.setCell ⟨k, 0, none⟩ u) x y := ⟨h.1.other (by omega) u, h.2.other (by omega) u⟩
theorem res2_own {g : Nat} {A B : World} {x y : Value} {row : Option Nat} (h : Res2 g A x y) (hg : A.grownBy B row) (hr : ∀ r, row = some r → ∃ o : Obj, A.heap[r]? = some o ∧ o.isCells = false) : Res2 g B x y := by
  have key : ∀ {b : Nat} {t : TypeId} {v : Value}, Boxed A b t v → Boxed B b t v := fun hv => hv.kept hg (fun e => by
    obtain ⟨o, ho, hc⟩ := hr _ e.symm
    rw [show A.heap[_]? = _ from hv] at ho; cases ho; cases hc)
  exact ⟨key h.1, key h.2⟩
theorem set2_below {n g : Nat} {A B : World} (h : Below n A B) (hg : n ≤ g) (x y : Value) : Below n A ((B.setCell ⟨g, 0, none⟩ x).setCell ⟨g + 1, 0, none⟩ y) := (h.setCell (p := ⟨g, 0, none⟩) hg x).setCell (p := ⟨g + 1, 0, none⟩) (by show n ≤ g + 1; omega) y
/-- The pieces that have come, and the dots of them. -/
def got {s : List UInt8} (pre : List (Pc s)) : List (List UInt8) := pre.map (·.1)
def gotD {s : List UInt8} (pre : List (Pc s)) : List D2 := (got pre).map dotOf
theorem got_snoc {s : List UInt8} (pre : List (Pc s)) (x : Pc s) : got (pre ++ [x]) = got pre ++ [x.1] := List.map_append
theorem gotD_snoc {s : List UInt8} (pre : List (Pc s)) (x : Pc s) : gotD (pre ++ [x]) = gotD pre ++ [dotOf x.1] := by rw [gotD, got_snoc, List.map_append]; rfl
theorem good_len {ps : List (List UInt8)} (h : goodP ps = true) : (ps.map dotOf).length ≤ 32 := by
  rw [goodP, Bool.and_eq_true] at h; exact rising_length h.2
set_option maxRecDepth 100000 in
set_option maxHeartbeats 16000000 in
theorem vecParse_typ (s : List UInt8) (hs : s.length < 1152921504606846976) (w : World) : Calls Tryz.prog 69 #[.string (str s)] w fun e w' => ∃ v, e = .returned (.tuple #[v, .int .i64 (parVErr s)]) ∧ TypDots w' v (parV s) ∧ Below w.heap.size w w' := by
  obtain ⟨i0, hi, hz⟩ := infoDot
  have s2 : (str s).toList = s := str_toList s
  have s3 : (ByteArray.mk #[45]).toList = [45] := ByteArray.toList_mk _
  by_cases h45 : s = [45]
  · have HP := Lib.hid (show parVErr s = 0 ∧ parV s = [] by rw [h45]; exact par_hyphen)
    have q1 : (s == [45]) = true := by rw [h45]; rfl
    clear h45 hs
    go_enter Tryz.func69, Tryz.ntmps69
    go_wp2
    have r0 := cell_of_one (alloc2_0 w (.cells #[.slice none 0 0] 25 (0, 0)) (.cells #[.int .i64 0] 34 (0, 0)))
    have r1 := cell_of_one (alloc2_1 w (.cells #[.slice none 0 0] 25 (0, 0)) (.cells #[.int .i64 0] 34 (0, 0)))
    refine bodyPost_ret (v := .tuple #[.slice none 0 0, .int .i64 0]) (by simp [results, Tryz.f69, go_sem, r0, r1]) rfl ?_
    exact ⟨_, by rw [HP.out.1], by rw [HP.out.2]; exact typ_nil _, ((Below.refl w.heap.size w).alloc (Nat.le_refl _) _).alloc (by simp) _⟩
  · have q1 : (s == [45]) = false := by rw [beq_eq_false_iff_ne]; exact h45
    have HH := Lib.hid h45
    have HS := Lib.hid hs
    have SQ := Lib.hid (fun w => splitSeq_any s w)
    have PX := Lib.hid (fun (x : Pc s) w => parse_any9 x.1 (Nat.lt_of_le_of_lt x.2 hs) w)
    have H0 := Lib.hid (And.intro (alloc3_0 w (.cells #[.slice none 0 0] 25 (0, 0)) (.cells #[.int .i64 0] 34 (0, 0)) (.cells #[.slice none 0 0] 25 (0, 0))) (And.intro (alloc3_1 w (.cells #[.slice none 0 0] 25 (0, 0)) (.cells #[.int .i64 0] 34 (0, 0)) (.cells #[.slice none 0 0] 25 (0, 0))) (alloc3_2 w (.cells #[.slice none 0 0] 25 (0, 0)) (.cells #[.int .i64 0] 34 (0, 0)) (.cells #[.slice none 0 0] 25 (0, 0)))))
    have Z0 := Lib.hid (show (((w.alloc (.cells #[.slice none 0 0] 25 (0, 0))).alloc (.cells #[.int .i64 0] 34 (0, 0))).alloc (.cells #[.slice none 0 0] 25 (0, 0))).heap.size = w.heap.size + 3 by simp)
    have B0 := Lib.hid ((((Below.refl w.heap.size w).alloc (Nat.le_refl _) (.cells #[.slice none 0 0] 25 (0, 0))).alloc (by simp) (.cells #[.int .i64 0] 34 (0, 0))).alloc (by simp; omega) (.cells #[.slice none 0 0] 25 (0, 0)))
    clear h45 hs
    refine (callsIn_wide (n := 6)).1 ?_
    refine callsIn_of_wp_marks Tryz.func69 rfl trivial ?_ rfl
    simp only [Tryz.ntmps69, List.size_toArray, List.length_cons, List.length_nil, Nat.reduceAdd, Nat.reduceSub, Array.replicate_succ, Array.replicate_zero, List.push_toArray, List.append_toArray, List.nil_append, List.cons_append]
    refine wpIn_wide.2 ?_
    go_wp2_with (first | (go_at_call 85; generalize (((w.alloc (.cells #[.slice none 0 0] 25 (0, 0))).alloc (.cells #[.int .i64 0] 34 (0, 0))).alloc (.cells #[.slice none 0 0] 25 (0, 0))) = W0 at *; refine (SQ.out _).mono ?_; rintro e w1 ⟨rfl, hb⟩; have HQ := Lib.hid hb; clear hb))
    have b0 := HQ.out.2.2.1
    have b1 := HQ.out.2.2.2.1
    have b2 := HQ.out.2.2.2.2
    have hsz : w1.heap.size = w.heap.size + 3 + 3 := by rw [HQ.out.2.1, Z0.out]
    rw [Z0.out] at b0 b1 b2
    have R0 := Lib.hid (show Res2 w.heap.size w1 (.slice none 0 0) (.int .i64 0) from ⟨(HQ.out.1.block _ (by rw [Z0.out]; omega)).trans H0.out.1, (HQ.out.1.block _ (by rw [Z0.out]; omega)).trans H0.out.2.1⟩)
    have V0 := Lib.hid (show Boxed w1 (w.heap.size + 1 + 1) 25 (.slice none 0 0) from (HQ.out.1.block _ (by rw [Z0.out]; omega)).trans H0.out.2.2)
    have B1 := Lib.hid (B0.out.trans (HQ.out.1.mono (by rw [Z0.out]; omega)))
    rw [Z0.out]
    clear q1 s2 s3
    refine (wpIn_wide (n := 6)).1 ?_
    refine range_cells (F := Fence.wide) rfl (by decide) (gf := 119) (lb := #[.pointer (some ⟨w.heap.size + 3 + 1, 0, none⟩), .pointer (some ⟨w.heap.size + 3, 0, none⟩), .pointer (some ⟨w.heap.size + 3 + 2, 0, none⟩)]) rfl trivial (enters_of Tryz.func119 (by kernel_rfl) rfl)
      (B := w.heap.size + 3) (by omega) (seq10 5 (by decide) (w.heap.size + 3) s HS.out w1 (by omega) b0 b1 b2) (fun _ => rfl)
      (fun pre W => ((∃ v, Boxed W (w.heap.size + 1 + 1) 25 v ∧ W.ownsRow w1.heap.size 23 2 v (gotD pre).length (dotsC (gotD pre)) ∧ True) ∧ (Res2 w.heap.size W (.slice none 0 0) (.int .i64 0) ∧ goodP (got pre) = true ∧ w1.heap.size ≤ W.heap.size)) ∧ Below w.heap.size w W)
      (fun pre W => (Res2 w.heap.size W (.slice none 0 0) (.int .i64 2) ∧ goodP (got pre) = false) ∧ Below w.heap.size w W)
      (OwnFrom.and (OwnFrom.and (Own.from (holdsRow_own w1.heap.size (w.heap.size + 1 + 1) 25 23 2 (fun pre => (gotD pre).length) (fun pre => dotsC (gotD pre)) (fun _ _ => True)) _) (Own.from (fun _ A B row hs hg hr => ⟨res2_own hs.1 hg hr, hs.2.1, Nat.le_trans hs.2.2 hg.size⟩) _)) (ownFrom_below (Nat.le_refl _) (by omega)))
      (OwnFrom.and (Own.from (fun _ A B row hs hg hr => ⟨res2_own hs.1 hg hr, hs.2⟩) _) (ownFrom_below (Nat.le_refl _) (by omega)))
      (fun pre W u h => by
        obtain ⟨⟨⟨v, hv, hr, -⟩, hR, hg, hz⟩, hB⟩ := h
        exact ⟨⟨⟨v, hv.other (by omega) u, ownsRow_setCell_other hr (a := ⟨w.heap.size + 3, 0, none⟩) (fun e => by have := (hr.lt _ e).1; simp only at this; omega) u, trivial⟩, res2_far hR (by omega) u, hg, Nat.le_trans hz (KeepsOthers.setCell W _ _).size⟩, hB.setCell (p := ⟨w.heap.size + 3, 0, none⟩) (by show w.heap.size ≤ w.heap.size + 3; omega) u⟩)
      ⟨⟨⟨.slice none 0 0, V0.out, World.ownsRow_nil _ _ _ _, trivial⟩, R0.out, goodP_nil, Nat.le_refl _⟩, B1.out⟩
      (fun x => { tmps := #[.string (str s), undef, .pointer (some ⟨w.heap.size, 0, none⟩), .pointer (some ⟨w.heap.size + 1, 0, none⟩), .pointer (some ⟨w.heap.size + 1 + 1, 0, none⟩), .string (str x.1), undef, undef, .string (str s), .bool false, .string (str s),
        .func (.func 119) #[] #[.pointer (some ⟨w.heap.size + 3 + 1, 0, none⟩), .pointer (some ⟨w.heap.size + 3, 0, none⟩), .pointer (some ⟨w.heap.size + 3 + 2, 0, none⟩)], .string (str x.1), undef, undef, undef, undef, undef, undef, undef, undef, undef, undef, undef, undef, undef, undef, undef, undef, undef, undef], defers := [] }) ?assign ?body ?done ?stop
    case assign =>
      intro l x W K hK
      gi_wp2
      exact hK
    case body =>
      rintro l pre x W ⟨⟨⟨v, hv, hr, -⟩, hR, hg, hlow⟩, hB⟩ hlen
      obtain ⟨ao, cap, rfl⟩ := own_slice hr
      obtain ⟨k, hk⟩ : ∃ k, k = (gotD pre).length := ⟨_, rfl⟩
      have HK := Lib.hid hk
      have HL := Lib.hid (good_len hg)
      have HO := Lib.hid (show W.ownsRow w1.heap.size 23 2 (.slice ao k cap) (gotD pre).length (dotsC (gotD pre)) by rw [hk]; exact hr)
      rw [← hk] at hv
      have HV := Lib.hid hv
      have HR := Lib.hid hR
      have HG := Lib.hid hg
      have HB := Lib.hid hB
      have HSZ := Lib.hid (show w.heap.size + 2 ≤ W.heap.size by omega)
      have HSZ2 := Lib.hid (show w.heap.size + 1 + 1 < W.heap.size by omega)
      have HLOW := Lib.hid (And.intro hlow hsz)
      have PXx := Lib.hid (fun w => PX.out x w)
      obtain ⟨r, hr'⟩ : ∃ r, r = parR x.1 := ⟨_, rfl⟩
      obtain ⟨q, hq'⟩ : ∃ q, q = parQ x.1 := ⟨_, rfl⟩
      obtain ⟨E, hE⟩ : ∃ E, E = parErr x.1 := ⟨_, rfl⟩
      rw [← hr', ← hq', ← hE] at PXx
      have HD := Lib.hid (show dotOf x.1 = (r, q) by rw [dotOf, hr', hq'])
      have HGS := Lib.hid (goodP_snoc (got pre) x.1)
      rw [← got_snoc, ← hE, HD.out] at HGS
      clear hv hr hR hg hB hlen hlow hk hr' hq' b0 b1 b2 hsz
      by_cases hE0 : E = 0
      · subst hE0
        have DD := Lib.hid (dots_of_own HO.out)
        have MF := Lib.hid (fun w hv => mayFollow_any (gotD pre) (by have h : (gotD pre).length ≤ 32 := HL.out; omega) r q (.slice ao k cap) w hv)
        obtain ⟨B, hB'⟩ : ∃ B, B = fol (gotD pre) (r, q) := ⟨_, rfl⟩
        rw [← hB'] at MF
        have HGB := Lib.hid (show goodP (got (pre ++ [x])) = B by rw [HGS.out, HG.out, hB']; rfl)
        clear hE hB'
        cases B with
        | false =>
          gi_wp2_with (first
            | (refine ⟨trivial, ?_⟩; gi_at_call 68; refine (CallsIn.inRound l (callsIn_wide.2 (PXx.out _))).mono ?_; rintro e w2 ⟨rfl, hb⟩; have B2 := Lib.hid hb; have K3 := Lib.hid ((hb.alloc hb.size (.cells #[.int .i64 r, .int .i64 q] 23 (0, 0)))); have R3 := Lib.hid (res2_below HR.out K3.out HSZ.out); have V3 := Lib.hid (show Boxed (w2.alloc (.cells #[.int .i64 r, .int .i64 q] 23 (0, 0))) (w.heap.size + 1 + 1) 25 (.slice ao k cap) from (K3.out.block _ HSZ2.out).trans HV.out); have O3 := Lib.hid (own_below HO.out K3.out); have c0 := R3.out.1.cell; have f0 := R3.out.1.frozen; have c1 := R3.out.2.cell; have f1 := R3.out.2.frozen; have c2 := V3.out.cell; have f2 := V3.out.frozen; clear hb)
            | (refine load_row_in (by rfl) 23 (.tmp 6) rfl w2.heap.size rfl 23 _ (0, 0) _ (heap_last w2 _) Tryz.underlying23 rfl (by kernel_rfl) ?_)
            | (refine ⟨trivial, ?_⟩; gi_at_call 74; refine (CallsIn.inRound l (callsIn_wide.2 (MF.out _ (dots_below DD.out K3.out)))).mono ?_; rintro e w4 ⟨rfl, hb⟩; have B4 := Lib.hid hb; have K4 := Lib.hid (K3.out.trans (hb.mono K3.out.size)); have R4 := Lib.hid (res2_below HR.out K4.out HSZ.out); have V4 := Lib.hid (show Boxed w4 (w.heap.size + 1 + 1) 25 (.slice ao k cap) from (K4.out.block _ HSZ2.out).trans HV.out); have O4 := Lib.hid (own_below HO.out K4.out); have D4 := Lib.hid (row_kept (heap_last w2 (.cells #[.int .i64 r, .int .i64 q] 23 (0, 0))) hb); have c0 := R4.out.1.cell; have f0 := R4.out.1.frozen; have c1 := R4.out.2.cell; have f1 := R4.out.2.frozen; have c2 := V4.out.cell; have f2 := V4.out.frozen; clear hb))
          exact ⟨(keeps_below K4.out rfl).trans ((KeepsOthers.setCell _ _ _).trans (KeepsOthers.setCell _ _ _)), ⟨res2_set R4.out _ _, HGB.out⟩, set2_below (HB.out.trans (K4.out.mono HB.out.size)) (Nat.le_refl _) _ _⟩
        | true =>
          gi_wp2_with (first
            | (refine ⟨trivial, ?_⟩; gi_at_call 68; refine (CallsIn.inRound l (callsIn_wide.2 (PXx.out _))).mono ?_; rintro e w2 ⟨rfl, hb⟩; have B2 := Lib.hid hb; have K3 := Lib.hid ((hb.alloc hb.size (.cells #[.int .i64 r, .int .i64 q] 23 (0, 0)))); have R3 := Lib.hid (res2_below HR.out K3.out HSZ.out); have V3 := Lib.hid (show Boxed (w2.alloc (.cells #[.int .i64 r, .int .i64 q] 23 (0, 0))) (w.heap.size + 1 + 1) 25 (.slice ao k cap) from (K3.out.block _ HSZ2.out).trans HV.out); have O3 := Lib.hid (own_below HO.out K3.out); have c0 := R3.out.1.cell; have f0 := R3.out.1.frozen; have c1 := R3.out.2.cell; have f1 := R3.out.2.frozen; have c2 := V3.out.cell; have f2 := V3.out.frozen; clear hb)
            | (refine load_row_in (by rfl) 23 (.tmp 6) rfl w2.heap.size rfl 23 _ (0, 0) _ (heap_last w2 _) Tryz.underlying23 rfl (by kernel_rfl) ?_)
            | (refine ⟨trivial, ?_⟩; gi_at_call 74; refine (CallsIn.inRound l (callsIn_wide.2 (MF.out _ (dots_below DD.out K3.out)))).mono ?_; rintro e w4 ⟨rfl, hb⟩; have B4 := Lib.hid hb; have K4 := Lib.hid (K3.out.trans (hb.mono K3.out.size)); have R4 := Lib.hid (res2_below HR.out K4.out HSZ.out); have V4 := Lib.hid (show Boxed w4 (w.heap.size + 1 + 1) 25 (.slice ao k cap) from (K4.out.block _ HSZ2.out).trans HV.out); have O4 := Lib.hid (own_below HO.out K4.out); have D4 := Lib.hid (row_kept (heap_last w2 (.cells #[.int .i64 r, .int .i64 q] 23 (0, 0))) hb); have c0 := R4.out.1.cell; have f0 := R4.out.1.frozen; have c1 := R4.out.2.cell; have f1 := R4.out.2.frozen; have c2 := V4.out.cell; have f2 := V4.out.frozen; clear hb)
            | (refine load_row_in (by rfl) 23 (.tmp 6) rfl w2.heap.size rfl 23 _ (0, 0) _ D4.out Tryz.underlying23 rfl (by kernel_rfl) ?_)
            | (gi_at_builtin; refine append_dot_in rfl (.tmp 26) (.tmp 28) 25 rfl w1.heap.size 23 i0 Tryz.underlying25 hi hz (.slice ao k cap) (gotD pre) (r, q) rfl (O4.out.alloc _) w4.heap.size 1 rfl 23 (heap_last w4 _) (by have h : (gotD pre).length ≤ 32 := HL.out; omega) (by have h1 := HLOW.out.1; have h2 := K4.out.size; simp <;> omega) ?_; intro v' w5 hown' hgrow; obtain ⟨g', cap', rfl⟩ := ownsRow_succ (by simpa using hown'); have HA := Lib.hid (appended10 V4.out (by decide) O4.out (Nat.le_trans HLOW.out.1 K4.out.size) hown' hgrow); have c2 := HA.out.1.cell; have f2 := HA.out.1.frozen; clear hown' hgrow))
          have h5 : Below w1.heap.size W w5 := (K4.out.mono HLOW.out.1).trans HA.out.2.2.2.2
          have hz2 := HLOW.out.2
          refine ⟨(keeps_below K4.out rfl).trans HA.out.2.2.2.1, keep3_trans (keep3_below h5 (by omega)) (keep3_low _ _ (by omega)), ⟨⟨_, HA.out.2.1, ?_, trivial⟩, res2_far (res2_below HR.out h5 (by omega)) (by omega) _, HGB.out, Nat.le_trans HLOW.out.1 (Nat.le_trans h5.size (KeepsOthers.setCell _ _ _).size)⟩, (HB.out.trans (h5.mono (by omega))).setCell (p := ⟨w.heap.size + 1 + 1, 0, none⟩) (by show w.heap.size ≤ w.heap.size + 1 + 1; omega) _⟩
          rw [gotD_snoc, HD.out]
          exact HA.out.2.2.1
      · have t1 : (E != 0) = true := bne_iff_ne.2 hE0
        have HF := Lib.hid (show goodP (got (pre ++ [x])) = false by rw [HGS.out, beq_eq_false_iff_ne.2 hE0]; simp)
        clear hE hE0
        gi_wp2_with (first | (refine ⟨trivial, ?_⟩; gi_at_call 68; refine (CallsIn.inRound l (callsIn_wide.2 (PXx.out _))).mono ?_; rintro e w2 ⟨rfl, hb⟩; have B2 := Lib.hid hb; have K3 := Lib.hid ((hb.alloc hb.size (.cells #[.int .i64 r, .int .i64 q] 23 (0, 0)))); have R3 := Lib.hid (res2_below HR.out K3.out HSZ.out); have V3 := Lib.hid (show Boxed (w2.alloc (.cells #[.int .i64 r, .int .i64 q] 23 (0, 0))) (w.heap.size + 1 + 1) 25 (.slice ao k cap) from (K3.out.block _ HSZ2.out).trans HV.out); have O3 := Lib.hid (own_below HO.out K3.out); have c0 := R3.out.1.cell; have f0 := R3.out.1.frozen; have c1 := R3.out.2.cell; have f1 := R3.out.2.frozen; have c2 := V3.out.cell; have f2 := V3.out.frozen; clear hb))
        refine ⟨trivial, ?_⟩
        gi_wp2
        exact ⟨((keeps_below B2.out rfl).trans (KeepsOthers.alloc _ _)).trans ((KeepsOthers.setCell _ _ _).trans (KeepsOthers.setCell _ _ _)), ⟨res2_set R3.out _ _, HF.out⟩, set2_below (HB.out.trans (K3.out.mono HB.out.size)) (Nat.le_refl _) _ _⟩
    case done =>
      rintro D ys W hD hys ⟨⟨⟨v, hv, hr, -⟩, hR, hg, -⟩, hB⟩ hK
      have hgot : got ys = piecesB 44 s := hys
      have HP := Lib.hid (par_good HH.out (by rw [← hgot]; exact hg))
      have HO := Lib.hid (show W.ownsRow w1.heap.size 23 2 v (parV s).length (dotsC (parV s)) by rw [HP.out.2, ← hgot]; exact hr)
      obtain ⟨ao, cap, rfl⟩ := own_slice HO.out
      have HB := Lib.hid hB
      have HR := Lib.hid hR
      have HK := Lib.hid hK
      have HD := Lib.hid (show w1.heap.size ≤ D from hD)
      have HZ := Lib.hid hsz
      have c2 := hv.cell
      have c0 := hR.1.cell
      have f0 := hR.1.frozen
      have c1 := hR.2.cell
      have f1 := hR.2.frozen
      clear hD hB hys hK hR hr hv hg hgot b0 b1 b2 hsz
      obtain ⟨k, hk⟩ : ∃ k, (parV s).length = k := ⟨_, rfl⟩
      rw [hk] at HO c2
      have HKK := Lib.hid hk
      clear hk
      go_wp2
      have hK' := ((KeepsOthers.setCell W ⟨w.heap.size, 0, none⟩ (.slice ao k cap)).trans (KeepsOthers.setCell _ ⟨w.heap.size + 1, 0, none⟩ (.int .i64 0))).same D _ HK.out rfl
      have hC := res2_own (res2_set HR.out (.slice ao k cap) (.int .i64 0)) (grownBy_putObj' _ D (.deferred none)) (fun r e => by cases e; exact ⟨_, hK', rfl⟩)
      have r0 := hC.1.cell
      have r1 := hC.2.cell
      refine ⟨by simp, .inl ⟨_, _, rfl, run_takeDeferred hK', ?_⟩⟩
      refine ⟨.tuple #[.slice ao k cap, .int .i64 0], by simp [results, Tryz.f69, go_sem, r0, r1], _, by rw [HP.out.1], ?_, ?_⟩
      · refine typ_of_own (base := w1.heap.size) ?_
        have hz := HZ.out
        rw [HKK.out]
        exact ownsRow_putObj (ownsRow_setCell_other (ownsRow_setCell_other HO.out (a := ⟨w.heap.size, 0, none⟩) (fun e => by have := (HO.out.lt _ e).1; simp only at this; omega) _) (a := ⟨w.heap.size + 1, 0, none⟩) (fun e => by have := (HO.out.lt _ e).1; simp only at this; omega) _) _ hK' rfl
      · exact (set2_below HB.out (Nat.le_refl _) _ _).trans (belowK_b (w := w) (Nat.le_refl _) _ D _ _ (by have h1 := HZ.out; have h2 := HD.out; omega) hK' rfl rfl)
    case stop =>
      rintro D pre W hD hpre ⟨⟨hR, hg⟩, hB⟩ hK
      have HP := Lib.hid (par_bad HH.out (goodP_prefix (show got pre <+: piecesB 44 s from hpre) hg))
      have hC := res2_own hR (grownBy_putObj' W D (.deferred none)) (fun r e => by cases e; exact ⟨_, hK, rfl⟩)
      have r0 := hC.1.cell
      have r1 := hC.2.cell
      have HB := Lib.hid hB
      have HK := Lib.hid hK
      have HD := Lib.hid (show w.heap.size ≤ D by omega)
      clear hD hB hpre hK hR hg b0 b1 b2 hsz hC
      gi_wp2
      refine ⟨by simp, .inl ⟨_, _, rfl, run_takeDeferred HK.out, ?_⟩⟩
      refine ⟨.tuple #[.slice none 0 0, .int .i64 2], by simp [results, Tryz.f69, go_sem, r0, r1], _, by rw [HP.out.1], by rw [HP.out.2]; exact typ_nil _, ?_⟩
      exact HB.out.trans (belowK_b (w := w) (Nat.le_refl _) _ D _ _ HD.out HK.out rfl rfl)
end Go.Proofs.YteooklnejiipkaaGreatDoor
namespace Go.Proofs.YteooklnejiipkaaGreatDoor
open Go.RowKit
theorem built_zero : Tryz.prog.built 27 [] = some (row .u8 32 fun _ => 0#32) := by kernel_rfl
set_option maxRecDepth 100000 in
set_option maxHeartbeats 4000000 in
theorem refParse_any (s : List UInt8) (w : World) : Calls Tryz.prog 47 #[.string (str s)] w fun e w' => e = .returned (.tuple #[rowV .u8 32 (parsed s), .int .i64 (parseErr s)]) ∧ Below w.heap.size w w' := by
  have H0 := alloc2_0 w (.cells (row .u8 32 fun _ => 0#32) 27 (0, 0)) (.cells (row .u8 32 fun _ => 0#32) 27 (0, 0))
  have H1 := alloc2_1 w (.cells (row .u8 32 fun _ => 0#32) 27 (0, 0)) (.cells (row .u8 32 fun _ => 0#32) 27 (0, 0))
  have B0 : Below w.heap.size w ((w.alloc (.cells (row .u8 32 fun _ => 0#32) 27 (0, 0))).alloc (.cells (row .u8 32 fun _ => 0#32) 27 (0, 0))) := ((Below.refl _ _).alloc (Nat.le_refl _) _).alloc (by simp) _
  have HH := Lib.hid (And.intro H0 (And.intro H1 B0))
  have hsz : (str s).size = s.length := str_size s
  clear H0 H1 B0
  by_cases h64 : s.length = 64
  · go_enter Tryz.func47, Tryz.ntmps47
    go_wp2
    go_loopw [5, 6, 7] (fun c _ _ wr => ∃ k : Nat, k ≤ 32 ∧ c = .int .i64 k ∧ wr.heap[w.heap.size]? = some (.cells (row .u8 32 fun _ => 0#32) 27 (0, 0)) ∧ wr.heap[w.heap.size + 1]? = some (.cells (row .u8 32 (upTo (parseF s) k)) 27 (0, 0)) ∧ (∀ j, j < 2 * k → ∀ c, s[j]? = some c → (fig c).isSome = true) ∧ Below w.heap.size w wr) (fun c _ _ _ => 32 - (intOf c).toNat)
    case atStart => exact ⟨0, by omega, rfl, HH.out.1, by rw [upTo_zero]; exact HH.out.2.1, fun j hj => by omega, HH.out.2.2⟩
    case round =>
      clear HH
      obtain ⟨k, hk, rfl, hz, hd, hall, hb⟩ := hrel
      have HZ := Lib.hid hz
      have HD := Lib.hid hd
      have HA := Lib.hid hall
      have HB := Lib.hid hb
      by_cases h32 : k < 32
      · have q0 : (k : Int) < 32 := by omega
        obtain ⟨j0, hj0⟩ : ∃ j0 : Nat, j0 = 2 * k := ⟨_, rfl⟩
        obtain ⟨j1, hj1⟩ : ∃ j1 : Nat, j1 = j0 + 1 := ⟨_, rfl⟩
        have e0 : (2 : Int) * (k : Int) = (j0 : Int) := by omega
        have e1 : (j0 : Int) + 1 = (j1 : Int) := by omega
        have q1 : (j0 : Int) < 64 := by omega
        obtain ⟨c1, hc1⟩ : ∃ c, s[j0]? = some c := ⟨s[j0], List.getElem?_eq_getElem (by omega)⟩
        obtain ⟨c2, hc2⟩ : ∃ c, s[j1]? = some c := ⟨s[j1], List.getElem?_eq_getElem (by omega)⟩
        have i1 := fun w => index_str (P := Tryz.prog) w s .i64 j0 c1 hc1 Tryz.underlying9
        have i2 := fun w => index_str (P := Tryz.prog) w s .i64 j1 c2 hc2 Tryz.underlying9
        have HJ := Lib.hid (And.intro hj0 (And.intro hj1 (And.intro hc1 hc2)))
        clear hz hd hall hb hj0 hj1 hc1 hc2
        by_cases hf : (fig c1).isSome = true ∧ (fig c2).isSome = true
        · obtain ⟨a, ha⟩ := Option.isSome_iff_exists.1 hf.1
          obtain ⟨b, hb'⟩ := Option.isSome_iff_exists.1 hf.2
          have hF1 := Lib.hid (show figI c1 = (a : Int) by unfold figI; rw [ha])
          have hF2 := Lib.hid (show figI c2 = (b : Int) by unfold figI; rw [hb'])
          have ha16 : (a : Int) < 16 := by have := (fig_some ha).1; omega
          have hb16 : (b : Int) < 16 := by have := (fig_some hb').1; omega
          have HAB := Lib.hid (And.intro ha hb')
          clear ha hb' hf
          go_wp2_with (first
            | (go_at_call 73; with_reducible refine (refValue_any c1 _).mono ?_; rintro e w' ⟨rfl, rfl⟩; rw [hF1.out])
            | (go_at_call 73; with_reducible refine (refValue_any c2 _).mono ?_; rintro e w' ⟨rfl, rfl⟩; rw [hF2.out])
            | (refine store_cell rfl 5 (.tmp 40) (.tmp 39) rfl rfl .u8 (w.heap.size + 1) k _ _ _ HD.out rfl rfl (by rw [row_size]; omega) (by kernel_rfl) ?_; intro w3 hg3 hs3))
          have hs := hs3
          obtain ⟨hj0, hj1, hc1, hc2⟩ := HJ.out
          refine ⟨⟨k + 1, by omega, by go_num, (hs.block _ (by omega)).trans HZ.out, ?_, fun j hj c hc => ?_, HB.out.trans ⟨hs.os, hs.tape, hs.output, Nat.le_of_eq hs.size.symm, fun j hj => hs.block j (by omega)⟩⟩, by simp [intOf]; omega⟩
          · have e : (parseF s k).toNat = 16 * a + b := by
              rw [parseF_toNat, List.getD_eq_getElem?_getD, List.getD_eq_getElem?_getD, ← hj0, ← hj1, hc1, hc2, Option.getD_some, Option.getD_some, HAB.out.1, HAB.out.2, Option.getD_some, Option.getD_some]
            rw [hg3, ← upTo_set, show (16 : Int) * (a : Int) + (b : Int) = Go.Proofs.YteooklnejiipkaaGreatDoor.u32 (parseF s k) from by unfold Go.Proofs.YteooklnejiipkaaGreatDoor.u32; rw [e]; omega]
          · rcases Nat.lt_or_ge j (2 * k) with h | h
            · exact HA.out j h c hc
            · rcases Nat.lt_or_ge j (2 * k + 1) with h' | h'
              · obtain rfl : j = j0 := by omega
                rw [hc1] at hc; cases hc; rw [HAB.out.1]; rfl
              · obtain rfl : j = j1 := by omega
                rw [hc2] at hc; cases hc; rw [HAB.out.2]; rfl
        · have hbad : isText s = false := by
            obtain ⟨hj0, hj1, hc1, hc2⟩ := HJ.out
            cases h : isText s with
            | false => rfl
            | true =>
              simp only [isText, Bool.and_eq_true, beq_iff_eq, List.all_eq_true] at h
              exact absurd ⟨h.2 c1 (List.mem_of_getElem? hc1), h.2 c2 (List.mem_of_getElem? hc2)⟩ hf
          obtain ⟨hp1, hp2⟩ := parsed_bad hbad
          have HP := Lib.hid (And.intro hp1 hp2)
          clear hbad hp1 hp2
          cases h1 : fig c1 with
          | none =>
            have hF1 := Lib.hid (show figI c1 = -1 by unfold figI; rw [h1])
            clear h1 hf
            cases h2 : fig c2 with
            | none =>
              have hF2 := Lib.hid (show figI c2 = -1 by unfold figI; rw [h2])
              clear h2
              go_wp2_with (first
                | (go_at_call 73; with_reducible refine (refValue_any c1 _).mono ?_; rintro e w' ⟨rfl, rfl⟩; rw [hF1.out])
                | (go_at_call 73; with_reducible refine (refValue_any c2 _).mono ?_; rintro e w' ⟨rfl, rfl⟩; rw [hF2.out])
                | (refine build_as rfl 27 #[] rfl _ _ built_zero (by simp) ?_)
                | (refine wpList_store_row rfl 27 (.tmp 2) (.tmp 33) rfl w.heap.size _ rfl rfl 27 _ HZ.out (by kernel_rfl) rfl (row_one _ _ _) ?_))
              rw [HP.out.1, HP.out.2]
              exact bodyPost_ret (results_cell2 Tryz.results47 _ _ w.heap.size 27 _ (0, 0) _ _ rfl rfl (setRow_heap _ _ _ _ _ _ HZ.out) Tryz.underlying27 rfl (by kernel_rfl)) rfl ⟨rfl, below_setRow HB.out (by omega) _⟩
            | some b =>
              have hF2 := Lib.hid (show figI c2 = (b : Int) by unfold figI; rw [h2])
              have hb16 : (b : Int) < 16 := by have := (fig_some h2).1; omega
              clear h2
              go_wp2_with (first
                | (go_at_call 73; with_reducible refine (refValue_any c1 _).mono ?_; rintro e w' ⟨rfl, rfl⟩; rw [hF1.out])
                | (go_at_call 73; with_reducible refine (refValue_any c2 _).mono ?_; rintro e w' ⟨rfl, rfl⟩; rw [hF2.out])
                | (refine build_as rfl 27 #[] rfl _ _ built_zero (by simp) ?_)
                | (refine wpList_store_row rfl 27 (.tmp 2) (.tmp 33) rfl w.heap.size _ rfl rfl 27 _ HZ.out (by kernel_rfl) rfl (row_one _ _ _) ?_))
              rw [HP.out.1, HP.out.2]
              exact bodyPost_ret (results_cell2 Tryz.results47 _ _ w.heap.size 27 _ (0, 0) _ _ rfl rfl (setRow_heap _ _ _ _ _ _ HZ.out) Tryz.underlying27 rfl (by kernel_rfl)) rfl ⟨rfl, below_setRow HB.out (by omega) _⟩
          | some a =>
            have hF1 := Lib.hid (show figI c1 = (a : Int) by unfold figI; rw [h1])
            have ha16 : (a : Int) < 16 := by have := (fig_some h1).1; omega
            cases h2 : fig c2 with
            | none =>
              have hF2 := Lib.hid (show figI c2 = -1 by unfold figI; rw [h2])
              clear h1 h2 hf
              go_wp2_with (first
                | (go_at_call 73; with_reducible refine (refValue_any c1 _).mono ?_; rintro e w' ⟨rfl, rfl⟩; rw [hF1.out])
                | (go_at_call 73; with_reducible refine (refValue_any c2 _).mono ?_; rintro e w' ⟨rfl, rfl⟩; rw [hF2.out])
                | (refine build_as rfl 27 #[] rfl _ _ built_zero (by simp) ?_)
                | (refine wpList_store_row rfl 27 (.tmp 2) (.tmp 33) rfl w.heap.size _ rfl rfl 27 _ HZ.out (by kernel_rfl) rfl (row_one _ _ _) ?_))
              rw [HP.out.1, HP.out.2]
              exact bodyPost_ret (results_cell2 Tryz.results47 _ _ w.heap.size 27 _ (0, 0) _ _ rfl rfl (setRow_heap _ _ _ _ _ _ HZ.out) Tryz.underlying27 rfl (by kernel_rfl)) rfl ⟨rfl, below_setRow HB.out (by omega) _⟩
            | some b => exact absurd ⟨by rw [h1]; rfl, by rw [h2]; rfl⟩ hf
      · obtain rfl : k = 32 := by omega
        have hgood : isText s = true := by
          simp only [isText, h64, beq_self_eq_true, Bool.true_and, List.all_eq_true]
          intro c hc
          obtain ⟨j, hj, rfl⟩ := List.mem_iff_getElem.1 hc
          exact HA.out j (by omega) _ (List.getElem?_eq_getElem hj)
        obtain ⟨hp1, hp2⟩ := parsed_good hgood
        have HP := Lib.hid (And.intro hp1 hp2)
        rw [upTo_full] at hd
        clear hgood hp1 hp2 hall HD HA HZ HB
        go_wp2_with (first | (refine wpList_load_row rfl 27 (.tmp 4) rfl (w.heap.size + 1) rfl 27 _ (0, 0) _ hd Tryz.underlying27 rfl (by kernel_rfl) ?_) | (refine wpList_store_row rfl 27 (.tmp 2) (.tmp 41) rfl w.heap.size _ rfl rfl 27 _ hz (by kernel_rfl) ((row_size _ _ _).trans (row_size _ _ _).symm) (row_one _ _ _) ?_))
        rw [HP.out.1, HP.out.2]
        exact bodyPost_ret (results_cell2 Tryz.results47 _ _ w.heap.size 27 _ (0, 0) _ _ rfl rfl (setRow_heap _ _ _ _ _ _ hz) Tryz.underlying27 rfl (by kernel_rfl)) rfl ⟨rfl, below_setRow hb (by omega) _⟩
  · have hbad : isText s = false := by
      cases h : isText s with
      | false => rfl
      | true => simp only [isText, Bool.and_eq_true, beq_iff_eq] at h; exact absurd h.1 h64
    obtain ⟨hp1, hp2⟩ := parsed_bad hbad
    have HP := Lib.hid (And.intro hp1 hp2)
    have hne : ((s.length : Int) == 64) = false := by simp; omega
    clear hbad hp1 hp2 h64
    go_enter Tryz.func47, Tryz.ntmps47
    go_wp2_with (first | (refine wpList_load_row rfl 27 (.tmp 4) rfl (w.heap.size + 1) rfl 27 _ (0, 0) _ HH.out.2.1 Tryz.underlying27 rfl (by kernel_rfl) ?_) | (refine wpList_store_row rfl 27 (.tmp 2) (.tmp 11) rfl w.heap.size _ rfl rfl 27 _ HH.out.1 (by kernel_rfl) rfl (row_one _ _ _) ?_))
    rw [HP.out.1, HP.out.2]
    exact bodyPost_ret (results_cell2 Tryz.results47 _ _ w.heap.size 27 _ (0, 0) _ _ rfl rfl (setRow_heap _ _ _ _ _ _ HH.out.1) Tryz.underlying27 rfl (by kernel_rfl)) rfl ⟨rfl, below_setRow HH.out.2.2 (by omega) _⟩
end Go.Proofs.YteooklnejiipkaaGreatDoor
namespace Go.Proofs.YteooklnejiipkaaGreatDoor
open Go.RowKit
theorem or_fig : ∀ a, a < 16 → ∀ b, b < 16 → (16 * a ||| b) = 16 * a + b := by decide
theorem or_byte (a b : Nat) (ha : a < 16) (hb : b < 16) : bits .or .u8 ((16 * a : Nat) : Int) (b : Int) = ((16 * a + b : Nat) : Int) := by
  rw [u8_or_nat _ _ (by omega) (by omega), or_fig a ha b hb]
theorem worthI_some {c : UInt8} {n : Nat} (h : fig c = some n) : worthI c = n := by unfold worthI; rw [h]
theorem worthI_none {c : UInt8} (h : fig c = none) : worthI c = 16 := by unfold worthI; rw [h]
/-- What holds where a text that is no digest's is left. -/
def LeftParse (s : List UInt8) (w : World) : Act → World → Prop := fun a' w' => (∃ u0' u1' u3' u4' u5' u6' u7' u8' u9' u10' u11' u12' u13' u14' u15' u16' u17' u18' u19' u20' u21' u22' u23' u24' u25' u26' u27' u28' u29' u30' u31' u32' u33' u34' u35' u36' u37' u38' u39' : Value, a' = { tmps := #[u0', u1', .pointer (some ⟨w.heap.size, 0, none⟩), u3', u4', u5', u6', u7', u8', u9', u10', u11', u12', u13', u14', u15', u16', u17', u18', u19', u20', u21', u22', u23', u24', u25', u26', u27', u28', u29', u30', u31', u32', u33', u34', u35', u36', u37', u38', u39'], defers := [] }) ∧ isText s = false ∧ w'.heap[w.heap.size]? = some (.cells (row .u8 32 fun _ => 0#32) 27 (0, 0)) ∧ Below w.heap.size w w'
set_option maxRecDepth 100000 in
set_option maxHeartbeats 8000000 in
theorem parse_any (w : World) (s : List UInt8) : Calls Tryz.prog 70 #[.string (str s)] w fun e w' => e = .returned (.tuple #[rowV .u8 32 (parsed s), .int .i64 (parseErr s)]) ∧ Below w.heap.size w w' := by
  have H0 := alloc2_0 w (.cells (row .u8 32 fun _ => 0#32) 27 (0, 0)) (.cells (row .u8 32 fun _ => 0#32) 27 (0, 0))
  have H1 := alloc2_1 w (.cells (row .u8 32 fun _ => 0#32) 27 (0, 0)) (.cells (row .u8 32 fun _ => 0#32) 27 (0, 0))
  have B0 : Below w.heap.size w ((w.alloc (.cells (row .u8 32 fun _ => 0#32) 27 (0, 0))).alloc (.cells (row .u8 32 fun _ => 0#32) 27 (0, 0))) := ((Below.refl _ _).alloc (Nat.le_refl _) _).alloc (by simp) _
  have HH := Lib.hid (And.intro H0 (And.intro H1 B0))
  have hsz : (str s).size = s.length := str_size s
  clear H0 H1 B0
  go_enter Tryz.func70, Tryz.ntmps70
  go_wp2
  refine wp_scope_jumps 0 (LeftParse s w) (fun _ _ => 0) rfl ?_ ?_
  · by_cases h64 : s.length = 64
    · go_wp2
      go_loopw [5, 11] (fun _ c wr => ∃ k : Nat, k ≤ 32 ∧ c = .int .i64 k ∧ wr.heap[w.heap.size]? = some (.cells (row .u8 32 fun _ => 0#32) 27 (0, 0)) ∧ wr.heap[w.heap.size + 1]? = some (.cells (row .u8 32 (upTo (parseF s) k)) 27 (0, 0)) ∧ (∀ j, j < 2 * k → ∀ c, s[j]? = some c → (fig c).isSome = true) ∧ Below w.heap.size w wr) (fun _ c _ => 32 - (intOf c).toNat)
      case atStart => exact ⟨0, by omega, rfl, HH.out.1, by rw [upTo_zero]; exact HH.out.2.1, fun j hj => by omega, HH.out.2.2⟩
      case round =>
        clear HH
        obtain ⟨k, hk, rfl, hz, hd, hall, hb⟩ := hrel
        have HZ := Lib.hid hz
        have HD := Lib.hid hd
        have HA := Lib.hid hall
        have HB := Lib.hid hb
        by_cases h32 : k < 32
        · have q0 : (k : Int) < 32 := by omega
          obtain ⟨j0, hj0⟩ : ∃ j0 : Nat, j0 = 2 * k := ⟨_, rfl⟩
          obtain ⟨j1, hj1⟩ : ∃ j1 : Nat, j1 = j0 + 1 := ⟨_, rfl⟩
          have e0 : (2 : Int) * (k : Int) = (j0 : Int) := by omega
          have e1 : (j0 : Int) + 1 = (j1 : Int) := by omega
          have q1 : (j0 : Int) < 64 := by omega
          have ew0 : IntKind.i64.wrap (j0 : Int) = (j0 : Int) := by rw [IntKind.wrap_i64]; omega
          have ew1 : IntKind.i64.wrap (j1 : Int) = (j1 : Int) := by rw [IntKind.wrap_i64]; omega
          obtain ⟨c1, hc1⟩ : ∃ c, s[j0]? = some c := ⟨s[j0], List.getElem?_eq_getElem (by omega)⟩
          obtain ⟨c2, hc2⟩ : ∃ c, s[j1]? = some c := ⟨s[j1], List.getElem?_eq_getElem (by omega)⟩
          have i1 := fun w => index_str (P := Tryz.prog) w s .i64 j0 c1 hc1 Tryz.underlying9
          have i2 := fun w => index_str (P := Tryz.prog) w s .i64 j1 c2 hc2 Tryz.underlying9
          have HJ := Lib.hid (And.intro hj0 (And.intro hj1 (And.intro hc1 hc2)))
          clear hz hd hall hb hj0 hj1 hc1 hc2
          by_cases hf : (fig c1).isSome = true ∧ (fig c2).isSome = true
          · obtain ⟨a, ha⟩ := Option.isSome_iff_exists.1 hf.1
            obtain ⟨b, hb'⟩ := Option.isSome_iff_exists.1 hf.2
            have ha16 := (fig_some ha).1
            have hb16 := (fig_some hb').1
            have hF1 : ∀ w, Calls Tryz.prog 86 #[.int .u8 (c1.toNat : Int)] w fun e w' => e = .returned (.int .u8 (a : Int)) ∧ w = w' := fun w => by have := worth_any c1 w; rwa [worthI_some ha] at this
            have hF2 : ∀ w, Calls Tryz.prog 86 #[.int .u8 (c2.toNat : Int)] w fun e w' => e = .returned (.int .u8 (b : Int)) ∧ w = w' := fun w => by have := worth_any c2 w; rwa [worthI_some hb'] at this
            have HF1 := Lib.hid hF1
            have HF2 := Lib.hid hF2
            have HAB := Lib.hid (And.intro ha hb')
            have t1 : ((a : Int) == 16) = false := by rw [beq_eq_false_iff_ne]; omega
            have t2 : ((b : Int) == 16) = false := by rw [beq_eq_false_iff_ne]; omega
            obtain ⟨p, hp⟩ : ∃ p : Nat, p = 16 * a := ⟨_, rfl⟩
            obtain ⟨q, hq⟩ : ∃ q : Nat, q = p + b := ⟨_, rfl⟩
            have e2 : bits .or .u8 (p : Int) (b : Int) = (q : Int) := by rw [hq, hp]; exact or_byte a b ha16 hb16
            have e3 : (a : Int) * 16 = (p : Int) := by omega
            have e4 : IntKind.u8.wrap (p : Int) = (p : Int) := by rw [IntKind.wrap_u8]; omega
            have e5 : (p : Int) % 256 = (p : Int) := by omega
            have HQ := Lib.hid (show q = 16 * a + b by omega)
            clear ha hb' hf hF1 hF2 ha16 hb16 hp hq
            go_wp2
            go_quiet (first | (go_at_call 86; with_reducible refine quiet_same (HF1.out _)) | (go_at_call 86; with_reducible refine quiet_same (HF2.out _)))
            go_wp2_with (first
              | (refine store_cell rfl 5 (.tmp 36) (.tmp 35) rfl rfl .u8 (w.heap.size + 1) k _ _ _ HD.out rfl rfl (by rw [row_size]; omega) (by kernel_rfl) ?_; intro w3 hg3 hs3))
            have hs := hs3
            obtain ⟨hj0, hj1, hc1, hc2⟩ := HJ.out
            refine ⟨⟨k + 1, by omega, by go_num, (hs.block _ (by omega)).trans HZ.out, ?_, fun j hj c hc => ?_, (below_draws HB.out nq).trans ⟨hs.os, hs.tape, hs.output, Nat.le_of_eq hs.size.symm, fun j hj => hs.block j (by omega)⟩⟩, by simp [intOf]; omega⟩
            · have e : (parseF s k).toNat = q := by
                rw [parseF_toNat, List.getD_eq_getElem?_getD, List.getD_eq_getElem?_getD, ← hj0, ← hj1, hc1, hc2, Option.getD_some, Option.getD_some, HAB.out.1, HAB.out.2, Option.getD_some, Option.getD_some, HQ.out]
              rw [hg3, ← upTo_set, show (q : Int) = Go.Proofs.YteooklnejiipkaaGreatDoor.u32 (parseF s k) from by unfold Go.Proofs.YteooklnejiipkaaGreatDoor.u32; rw [e]]
            · rcases Nat.lt_or_ge j (2 * k) with h | h
              · exact HA.out j h c hc
              · rcases Nat.lt_or_ge j (2 * k + 1) with h' | h'
                · obtain rfl : j = j0 := by omega
                  rw [hc1] at hc; cases hc; rw [HAB.out.1]; rfl
                · obtain rfl : j = j1 := by omega
                  rw [hc2] at hc; cases hc; rw [HAB.out.2]; rfl
          · have hbad : isText s = false := by
              obtain ⟨hj0, hj1, hc1, hc2⟩ := HJ.out
              cases h : isText s with
              | false => rfl
              | true =>
                simp only [isText, Bool.and_eq_true, beq_iff_eq, List.all_eq_true] at h
                exact absurd ⟨h.2 c1 (List.mem_of_getElem? hc1), h.2 c2 (List.mem_of_getElem? hc2)⟩ hf
            have HBAD := Lib.hid hbad
            clear hbad
            cases h1 : fig c1 with
            | none =>
              obtain ⟨b, hb'⟩ : ∃ b : Nat, worthI c2 = b := ⟨_, rfl⟩
              have HF1 := Lib.hid (show ∀ w, Calls Tryz.prog 86 #[.int .u8 (c1.toNat : Int)] w fun e w' => e = .returned (.int .u8 16) ∧ w = w' from fun w => by have := worth_any c1 w; rwa [worthI_none h1] at this)
              have HF2 := Lib.hid (show ∀ w, Calls Tryz.prog 86 #[.int .u8 (c2.toNat : Int)] w fun e w' => e = .returned (.int .u8 (b : Int)) ∧ w = w' from fun w => by have := worth_any c2 w; rwa [hb'] at this)
              clear h1 hb' hf
              go_wp2
              go_quiet (first | (go_at_call 86; with_reducible refine quiet_same (HF1.out _)) | (go_at_call 86; with_reducible refine quiet_same (HF2.out _)))
              go_wp2
              go_step3
              exact ⟨rfl, ⟨_, _, _, _, _, _, _, _, _, _, _, _, _, _, _, _, _, _, _, _, _, _, _, _, _, _, _, _, _, _, _, _, _, _, _, _, _, _, _, rfl⟩, HBAD.out, HZ.out, below_draws HB.out nq⟩
            | some a =>
              cases h2 : fig c2 with
              | some b => exact absurd ⟨by rw [h1]; rfl, by rw [h2]; rfl⟩ hf
              | none =>
                have ha16 := (fig_some h1).1
                have t1 : ((a : Int) == 16) = false := by rw [beq_eq_false_iff_ne]; omega
                have HF1 := Lib.hid (show ∀ w, Calls Tryz.prog 86 #[.int .u8 (c1.toNat : Int)] w fun e w' => e = .returned (.int .u8 (a : Int)) ∧ w = w' from fun w => by have := worth_any c1 w; rwa [worthI_some h1] at this)
                have HF2 := Lib.hid (show ∀ w, Calls Tryz.prog 86 #[.int .u8 (c2.toNat : Int)] w fun e w' => e = .returned (.int .u8 16) ∧ w = w' from fun w => by have := worth_any c2 w; rwa [worthI_none h2] at this)
                clear h1 h2 hf ha16
                go_wp2
                go_quiet (first | (go_at_call 86; with_reducible refine quiet_same (HF1.out _)) | (go_at_call 86; with_reducible refine quiet_same (HF2.out _)))
                go_wp2
                go_step3
                exact ⟨rfl, ⟨_, _, _, _, _, _, _, _, _, _, _, _, _, _, _, _, _, _, _, _, _, _, _, _, _, _, _, _, _, _, _, _, _, _, _, _, _, _, _, rfl⟩, HBAD.out, HZ.out, below_draws HB.out nq⟩
        · obtain rfl : k = 32 := by omega
          have hgood : isText s = true := by
            simp only [isText, h64, beq_self_eq_true, Bool.true_and, List.all_eq_true]
            intro c hc
            obtain ⟨j, hj, rfl⟩ := List.mem_iff_getElem.1 hc
            exact HA.out j (by omega) _ (List.getElem?_eq_getElem hj)
          obtain ⟨hp1, hp2⟩ := parsed_good hgood
          have HP := Lib.hid (And.intro hp1 hp2)
          rw [upTo_full] at hd
          clear hgood hp1 hp2 hall HD HA HZ HB
          go_wp2_with (first | (refine wpList_load_row rfl 27 (.tmp 4) rfl (w.heap.size + 1) rfl 27 _ (0, 0) _ hd Tryz.underlying27 rfl (by kernel_rfl) ?_) | (refine wpList_store_row rfl 27 (.tmp 2) (.tmp 38) rfl w.heap.size _ rfl rfl 27 _ hz (by kernel_rfl) ((row_size _ _ _).trans (row_size _ _ _).symm) (row_one _ _ _) ?_))
          simp only [Exit.jump]
          exact bodyPost_ret (results_cell2 Tryz.results70 _ _ w.heap.size 27 _ (0, 0) _ _ rfl rfl (setRow_heap _ _ _ _ _ _ hz) Tryz.underlying27 rfl (by kernel_rfl)) rfl ⟨by rw [HP.out.1, HP.out.2]; try rfl, below_setRow hb (by omega) _⟩
    · have hbad : isText s = false := by
        cases h : isText s with
        | false => rfl
        | true => simp only [isText, Bool.and_eq_true, beq_iff_eq] at h; exact absurd h.1 h64
      have hne : ((s.length : Int) == 64) = false := by simp; omega
      clear h64
      go_wp2
      go_step3
      exact ⟨rfl, ⟨_, _, _, _, _, _, _, _, _, _, _, _, _, _, _, _, _, _, _, _, _, _, _, _, _, _, _, _, _, _, _, _, _, _, _, _, _, _, _, rfl⟩, hbad, HH.out.1, HH.out.2.2⟩
  · clear HH hsz
    rintro a' w1 ⟨⟨u0', u1', u3', u4', u5', u6', u7', u8', u9', u10', u11', u12', u13', u14', u15', u16', u17', u18', u19', u20', u21', u22', u23', u24', u25', u26', u27', u28', u29', u30', u31', u32', u33', u34', u35', u36', u37', u38', u39', rfl⟩, hbad, hz, hb⟩
    obtain ⟨hp1, hp2⟩ := parsed_bad hbad
    have HP := Lib.hid (And.intro hp1 hp2)
    have HB := Lib.hid hb
    clear hbad hp1 hp2 hb
    go_wp2_with (first | (refine build_as rfl 27 #[] rfl _ _ built_zero (by simp) ?_) | (refine wpList_store_row rfl 27 (.tmp 2) (.tmp 39) rfl w.heap.size _ rfl rfl 27 _ hz (by kernel_rfl) rfl (row_one _ _ _) ?_))
    simp only [Exit.jump]
    exact bodyPost_ret (results_cell2 Tryz.results70 _ _ w.heap.size 27 _ (0, 0) _ _ rfl rfl (setRow_heap _ _ _ _ _ _ hz) Tryz.underlying27 rfl (by kernel_rfl)) rfl ⟨by rw [HP.out.1, HP.out.2]; try rfl, below_setRow HB.out (by omega) _⟩
end Go.Proofs.YteooklnejiipkaaGreatDoor
namespace Go.Proofs.YteooklnejiipkaaGreatDoor
open Go.RowKit
set_option maxRecDepth 100000 in
theorem strSize12 : (Tryz.prog.info? 9).map (·.size) = some 1 := by kernel_rfl
set_option maxRecDepth 100000 in
theorem ev_built (e : Ev) (ao : Option Addr) (n c : Nat) : Tryz.prog.built 29 [(0, .agg #[.int .i64 e.r, .int .i64 e.q]), (1, .slice ao n c), (2, .int .i64 e.kind), (3, .string (str e.path)), (4, .agg (row .u8 32 e.sum)), (5, .int .i64 e.size)] = some (evC e (.slice ao n c)) := by kernel_rfl
theorem build_yields {P : Program} {ops : Array Oper} {S : World → Prop} {o : Oper} {a : Act} (hw : Region.wanted o (yielded ops a.tmps) = true) (t : TypeId) (parts : Array (Nat × Operand)) (ho : o.op = .build t parts) (ps : List (Nat × Value)) (cs : Array Value)
    (hb : P.built t ps = some cs) (hp : (parts.map fun (i, x) => (i, a.eval x)).toList = ps) : YieldsIf P ops S o (.agg cs) a :=
  .inl ⟨hw, fun w _ => by
    subst hp
    unfold execOp
    simp only [ho, Sem.run_bind, run_build w t _ cs hb, Result.andThen_ok]
    rfl⟩
theorem store_ev_at {P : Program} {ops : Array Oper} {o : Oper} {a : Act} {w : World} {K : Act → World → Prop} {Q : Exit → Act → World → Prop} {E : Prop} (hd : o.dst = none) (hw : Region.wanted o (yielded ops a.tmps) = true) (ty : TypeId) (x y : Operand) (ho : o.op = .store ty x y)
    (g : Nat) (e e0 : Ev) (v v0 : Value) (hx : a.eval x = .pointer (some ⟨g, 0, none⟩)) (hy : a.eval y = .agg (evC e v)) (t : TypeId) (hg : EvAt w g t e0 v0) (hi : (P.info? ty).map (·.size) = some 38) (hv : v.oneCell' = true)
    (h : ∀ w', EvAt w' g t e v → Solo g w w' → K a w') : if Region.wanted o (yielded ops a.tmps) = true then Oper.wp P o a w K Q else E :=
  store_at hd hw ty x y ho g (evC e v) hx hy t _ hg (by rw [hi, evC_size]) (by rw [evC_size, evC_size]) (evC_one e v hv) (h _ (setRow_heap _ _ _ _ _ _ hg) (solo_setRow w g _))
theorem six_at {w : World} {B : Nat} {T : TypeId} {s : List UInt8} (h : w.heap[B]? = some (.cells (sixC s).toArray T (0, 0))) (k : Nat) (hk : k < 6) : w.cell? ⟨B, k, none⟩ = some (.string (str (sd s k))) := by
  simp only [World.cell?, h]
  exact sixC_at s k hk
theorem str_yields12 {P : Program} {ops : Array Oper} {S : World → Prop} {o : Oper} {a : Act} (hw : Region.wanted o (yielded ops a.tmps) = true) (ty : TypeId) (x : Operand) (ho : o.op = .load ty x)
    (ad : Addr) (hx : a.eval x = .pointer (some ad)) (s : ByteArray) (hu : P.underlying ty = some .string) (hS : ∀ w, S w → w.cell? ad = some (.string s)) : YieldsIf P ops S o (.string s) a :=
  .inl ⟨hw, fun w h => by
    have hc := hS w h
    unfold execOp
    simp [ho, hx, Instr.loadAt, Instr.sureAddr, loadVar, isAgg, run_underlying hu, hc]⟩
/-- An event stored by the one operation that is ready. -/
theorem ready_store_ev {P : Program} {md : Region.Mode} {ops : Array Oper} {Q : Exit → Act → World → Prop} {S : World → Prop} {fuel : Nat} {listed : Array Bool} {a : Act} {w : World} (i : Nat) (hr : Region.ready md ops listed = [i]) {o : Oper} (hoi : ops[i]? = some o)
    (hd : o.dst = none) (hw : Region.wanted o (yielded ops a.tmps) = true) (ty : TypeId) (x y : Operand) (ho : o.op = .store ty x y) (g : Nat) (e e0 : Ev) (v v0 : Value) (hx : a.eval x = .pointer (some ⟨g, 0, none⟩)) (hy : a.eval y = .agg (evC e v)) (t : TypeId)
    (hg : EvAt w g t e0 v0) (hi : (P.info? ty).map (·.size) = some 38) (hv : v.oneCell' = true)
    (h : ∀ w', EvAt w' g t e v → Solo g w w' → S w' ∧ wpAnyH P md ops Q S fuel (listed.setIfInBounds i true) a w') : wpAnyH P md ops Q S (fuel + 1) listed a w :=
  wpAnyH_ready hr (by simp) (AllReadyH.cons hoi (fun K hK => store_ev_at hd hw ty x y ho g e e0 v v0 hx hy t hg hi hv (fun w' h1 h2 => hK.out _ _ (h w' h1 h2).1 (fun _ => (h w' h1 h2).2))) AllReadyH.nil)
theorem dots_solo {w w' : World} {v : Value} {l : List D2} {g : Nat} (h : HasDots w v l) (hs : Solo g w w') (hne : l = [] ∨ v.ownBlock ≠ some g) : HasDots w' v l := by
  obtain ⟨ao, cap, rfl, hnil, hc⟩ := h
  refine ⟨ao, cap, rfl, hnil, fun ad had => ⟨(hc ad had).1, fun j u hu => ?_⟩⟩
  rcases hne with rfl | hne
  · simp [dotsC] at hu
  · have h1 := (hc ad had).2 j u hu
    refine (World.cell?_of_block (hs.block (ad.add j).block fun e => hne ?_)).trans h1
    rw [had]
    show some ad.block = some g
    rw [← e]; unfold Addr.add; split <;> rfl
theorem typ_solo {w w' : World} {v : Value} {l : List D2} {g : Nat} (h : TypDots w v l) (hs : Solo g w w') {cs : Array Value} {T : TypeId} {fr : Nat × Nat} (hg : w.heap[g]? = some (.cells cs T fr)) (hT : T ≠ 23) : TypDots w' v l := by
  have hne : l = [] ∨ v.ownBlock ≠ some g := h.2.elim .inl fun ⟨k, cs', fr', h1, h2⟩ => .inr fun e => by
    rw [h1] at e; cases e; rw [h2] at hg; cases hg; exact hT rfl
  refine ⟨dots_solo h.1 hs hne, h.2.elim .inl fun ⟨k, cs', fr', h1, h2⟩ => ?_⟩
  rcases hne with rfl | hne
  · exact .inl rfl
  · exact .inr ⟨k, cs', fr', h1, (hs.block k fun e => hne (by rw [h1, e])).trans h2⟩
theorem noEv_cells : evC noEv (.slice none 0 0) = #[.int .i64 0, .int .i64 0, .slice none 0 0, .int .i64 0, .string ⟨#[]⟩, .int .u8 0, .int .u8 0, .int .u8 0, .int .u8 0, .int .u8 0, .int .u8 0, .int .u8 0, .int .u8 0, .int .u8 0, .int .u8 0, .int .u8 0, .int .u8 0, .int .u8 0, .int .u8 0, .int .u8 0, .int .u8 0, .int .u8 0, .int .u8 0, .int .u8 0, .int .u8 0, .int .u8 0, .int .u8 0, .int .u8 0, .int .u8 0, .int .u8 0, .int .u8 0, .int .u8 0, .int .u8 0, .int .u8 0, .int .u8 0, .int .u8 0, .int .u8 0, .int .i64 0] := by rfl
set_option maxRecDepth 100000 in
set_option maxHeartbeats 16000000 in
theorem meant_any (s : List UInt8) (hs : s.length < 4294967281) (w : World) : Calls Tryz.prog 43 #[.string (str s)] w fun x w' => ∃ v, x = .returned (.agg (evC (meantE s) v)) ∧ TypDots w' v (meantE s).deps ∧ Below w.heap.size w w' := by
  have SP := Lib.hid (fun w => splitN_any s hs w)
  have hk := fun k => sd_len s k
  have PD := Lib.hid (fun w => parse_any9 (sd s 1) (by have := hk 1; omega) w)
  have PV := Lib.hid (fun w => vecParse_typ (sd s 2) (by have := hk 2; omega) w)
  have PH := Lib.hid (fun w => parse_any w (sd s 4))
  have RD := Lib.hid (fun w => read_any w (sd s 5) 65536 (by have := hk 5; omega))
  have KD := Lib.hid (fun w => kindOf_any (sd s 0) w)
  have MT := Lib.hid (show meantE s = ⟨parR (sd s 1), parQ (sd s 1), parV (sd s 2), kindW (sd s 0), sd s 3, parsed (sd s 4), readN (sd s 5) 65536⟩ from rfl)
  clear hk
  go_enter Tryz.func43, Tryz.ntmps43
  go_upto_region 2 with fail
  rw [← noEv_cells]
  have H1 := Lib.hid (show ((w.alloc (.cells (evC noEv (.slice none 0 0)) 29 (0, 0))).alloc (.cells emptyC.toArray 89 (0, 0))).heap[w.heap.size + 1]? = some (.cells emptyC.toArray 89 (0, 0)) by
    have h := heap_last (w.alloc (.cells (evC noEv (.slice none 0 0)) 29 (0, 0))) (.cells emptyC.toArray 89 (0, 0))
    rwa [show (w.alloc (.cells (evC noEv (.slice none 0 0)) 29 (0, 0))).heap.size = w.heap.size + 1 by simp] at h)
  have E1 := Lib.hid (evAt_kept (box_ev w 29 noEv (.slice none 0 0)) ((Below.refl _ _).alloc (Nat.le_refl _) (.cells emptyC.toArray 89 (0, 0))))
  have B1 := Lib.hid (((Below.refl w.heap.size w).alloc (Nat.le_refl _) (.cells (evC noEv (.slice none 0 0)) 29 (0, 0))).alloc (by simp) (.cells emptyC.toArray 89 (0, 0)))
  rw [show (#[Value.string ⟨#[]⟩, Value.string ⟨#[]⟩, Value.string ⟨#[]⟩, Value.string ⟨#[]⟩, Value.string ⟨#[]⟩, Value.string ⟨#[]⟩] : Array Value) = emptyC.toArray from rfl]
  generalize (w.alloc (.cells (evC noEv (.slice none 0 0)) 29 (0, 0))).alloc (.cells emptyC.toArray 89 (0, 0)) = W1 at *
  refine wp_region_held_drew (S := fun w' => Below w.heap.size w w') (by kernel_rfl) (drawS B1.out) (fun hHeld => ?_)
  have HD := Lib.hid (show W1.drew.heap[w.heap.size + 1]? = some (.cells emptyC.toArray 89 (0, 0)) from H1.out)
  have ED := Lib.hid (show EvAt W1.drew w.heap.size 29 noEv (.slice none 0 0) from E1.out)
  clear H1 E1 B1
  generalize W1.drew = wd at *
  refine take_at (i := 0) 12 rfl rfl (by kernel_rfl) (by kernel_rfl) (by kernel_rfl) (fun _ _ _ h => h) (sure_yes (by rfl) (fun w => by go_simp; try with_reducible rfl)) hHeld ?_
  simp only [List.setIfInBounds_toArray, List.set_cons_zero, List.set_cons_succ]
  refine take_at (i := 1) 13 rfl rfl (by kernel_rfl) (by kernel_rfl) (by kernel_rfl) (fun _ _ _ h => h) (sure_yes (by rfl) (fun w => by go_simp; try with_reducible rfl)) hHeld ?_
  simp only [List.setIfInBounds_toArray, List.set_cons_zero, List.set_cons_succ]
  refine wpAnyH_ready (rs := [2]) (by kernel_rfl) (by simp) ?_
  refine AllReadyH.cons rfl (fun CONT hCONT => ?_) AllReadyH.nil
  go_simp
  go_at_call 67
  refine (SP.out _).mono ?_
  rintro e w6 ⟨rfl, rfl⟩
  dsimp only
  have CS := Lib.hid (fun j v h => spl_cells s wd 9 j v h)
  have G6 := Lib.hid (row_kept HD.out ((Below.refl wd.heap.size wd).alloc (Nat.le_refl _) (.cells (splC s) 9 (0, 0))))
  have E6 := Lib.hid (evAt_kept ED.out ((Below.refl wd.heap.size wd).alloc (Nat.le_refl _) (.cells (splC s) 9 (0, 0))))
  have L6 := Lib.hid (show wd.heap.size < (wd.alloc (.cells (splC s) 9 (0, 0))).heap.size by simp)
  refine hCONT.out _ _ (hHeld.alloc hHeld.size _) (fun hHeld2 => ?_)
  clear hCONT CONT
  generalize wd.alloc (.cells (splC s) 9 (0, 0)) = w6 at *
  refine wpAnyH_ready (rs := [3]) (by kernel_rfl) (by simp) ?_
  refine AllReadyH.cons rfl (fun CONT hCONT => ?_) AllReadyH.nil
  refine copy_at 15 rfl (by rfl) (.tmp 12) (.tmp 14) 59 59 rfl 9 Tryz.underlying59 strSize12 (w.heap.size + 1) 0 6 6 _ _ _ rfl rfl emptyC 89 G6.out _ (by rw [List.length_map]; exact (Nat.min_eq_left (by have := spl6_len s; omega)).symm) CS.out (by rw [List.length_map]; have := spl6_len s; exact (by simp [emptyC]; omega)) (spl_one s) (fun w7 hg7 hs7 => ?_)
  rw [six_splice] at hg7
  have G7 := Lib.hid hg7
  have B7 := Lib.hid (solo_below hHeld2 hs7 (by omega))
  have E7 := Lib.hid (show EvAt w7 w.heap.size 29 noEv (.slice none 0 0) from (hs7.block _ (by omega)).trans E6.out)
  refine hCONT.out _ _ B7.out (fun hHeld => ?_)
  clear hCONT CONT hg7 hs7
  refine wpAnyH_done (by kernel_rfl) ?_ _
  simp only [List.setIfInBounds_toArray, List.set_cons_zero, List.set_cons_succ]
  go_upto_region 4 with (first
    | (refine load_str_on (by rfl) 9 (.tmp 17) rfl ⟨w.heap.size + 1, 1, none⟩ rfl _ Tryz.underlying9 (six_at G7.out 1 (by decide)) ?_)
    | (go_at_call 68; refine (PD.out _).mono ?_; rintro x w8 ⟨rfl, hb⟩; have G8 := Lib.hid (row_kept G7.out hb); have E8 := Lib.hid (evAt_kept E7.out hb); have B8 := Lib.hid (below_next B7.out hb); clear hb))
  have D9 := Lib.hid (heap_last w8 (.cells #[.int .i64 (parR (sd s 1)), .int .i64 (parQ (sd s 1))] 23 (0, 0)))
  have N9 := Lib.hid ((Below.refl w8.heap.size w8).alloc (Nat.le_refl _) (.cells #[.int .i64 (parR (sd s 1)), .int .i64 (parQ (sd s 1))] 23 (0, 0)))
  have G9 := Lib.hid (row_kept G8.out N9.out)
  have E9 := Lib.hid (evAt_kept E8.out N9.out)
  have B9 := Lib.hid (below_next B8.out N9.out)
  generalize w8.alloc (.cells #[.int .i64 (parR (sd s 1)), .int .i64 (parQ (sd s 1))] 23 (0, 0)) = W9 at *
  go_upto_region 5 with (first
    | (refine load_str_on (by rfl) 9 (.tmp 23) rfl ⟨w.heap.size + 1, 2, none⟩ rfl _ Tryz.underlying9 (six_at G9.out 2 (by decide)) ?_)
    | (go_at_call 69; refine (PV.out _).mono ?_; rintro x w10 ⟨v, rfl, hv, hb⟩; have G10 := Lib.hid (row_kept G9.out hb); have D10 := Lib.hid (row_kept D9.out hb); have E10 := Lib.hid (evAt_kept E9.out hb); have B10 := Lib.hid (below_next B9.out hb); have V10 := Lib.hid hv; obtain ⟨ao, cap, rfl⟩ := dots_shape hv.1 _ rfl; clear hb hv))
  go_upto_region 6 with (first
    | (refine load_str_on (by rfl) 9 (.tmp 29) rfl ⟨w.heap.size + 1, 4, none⟩ rfl _ Tryz.underlying9 (six_at G10.out 4 (by decide)) ?_)
    | (go_at_call 70; refine (PH.out _).mono ?_; rintro x w11 ⟨rfl, hb⟩; rw [show rowV .u8 32 (parsed (sd s 4)) = .agg (row .u8 32 (parsed (sd s 4))) from rfl]; have G11 := Lib.hid (row_kept G10.out hb); have D11 := Lib.hid (row_kept D10.out hb); have E11 := Lib.hid (evAt_kept E10.out hb); have V11 := Lib.hid (typ_below V10.out hb); have B11 := Lib.hid (below_next B10.out hb); clear hb)
    | (refine store_new rfl 27 (.tmp 8) (.tmp 32) rfl rfl w11 _ (row .u8 32 (parsed (sd s 4))) 27 rfl rfl rfl (by rw [sumSize, row_size]) (by rw [row_size]; rfl) (row_one _ _ _) ?_; rintro W12 hg hb hlt; have S12 := Lib.hid hg; have G12 := Lib.hid (row_kept G11.out hb); have D12 := Lib.hid (row_kept D11.out hb); have E12 := Lib.hid (evAt_kept E11.out hb); have V12 := Lib.hid (typ_below V11.out hb); have B12 := Lib.hid (below_next B11.out hb); clear hb hg hlt))
  go_upto_region 7 with (first
    | (refine load_str_on (by rfl) 9 (.tmp 35) rfl ⟨w.heap.size + 1, 5, none⟩ rfl _ Tryz.underlying9 (six_at G12.out 5 (by decide)) ?_)
    | (go_at_call 71; refine (RD.out _).mono ?_; rintro x w13 ⟨rfl, hb⟩; have S13 := Lib.hid (row_kept S12.out hb); have G13 := Lib.hid (row_kept G12.out hb); have D13 := Lib.hid (row_kept D12.out hb); have E13 := Lib.hid (evAt_kept E12.out hb); have V13 := Lib.hid (typ_below V12.out hb); have B13 := Lib.hid (below_next B12.out hb); clear hb))
  have LT := Lib.hid (show w.heap.size < w8.heap.size ∧ w.heap.size < w11.heap.size from ⟨Nat.lt_of_lt_of_le (Nat.lt_of_lt_of_le (Nat.lt_succ_self _) (by have := (Array.getElem?_eq_some_iff.1 G8.out).1; omega)) (Nat.le_refl _), by have := (Array.getElem?_eq_some_iff.1 G11.out).1; omega⟩)
  refine wp_region_held_drew (S := fun w' => Below w.heap.size w w' ∧ w'.heap[w.heap.size + 1]? = some (.cells (sixC s).toArray 89 (0, 0)) ∧ w'.heap[w8.heap.size]? = some (.cells #[.int .i64 (parR (sd s 1)), .int .i64 (parQ (sd s 1))] 23 (0, 0)) ∧ w'.heap[w11.heap.size]? = some (.cells (row .u8 32 (parsed (sd s 4))) 27 (0, 0)) ∧ ∃ e v, EvAt w' w.heap.size 29 e v) (by kernel_rfl) ⟨drawS B13.out, G13.out, D13.out, S13.out, _, _, E13.out⟩ (fun hHeld => ?_)
  obtain ⟨EV, hEV⟩ : ∃ EV, EV = meantE s := ⟨_, rfl⟩
  have HE := Lib.hid (hEV.trans MT.out)
  have HE2 := Lib.hid hEV
  clear hEV
  have VD := Lib.hid (show TypDots w13.drew _ _ from typ_below V13.out (drawS (Below.refl _ _)))
  have ED := Lib.hid (show EvAt w13.drew w.heap.size 29 noEv (.slice none 0 0) from E13.out)
  generalize w13.drew = wd at *
  refine take_at (i := 1) 41 rfl rfl (by kernel_rfl) (by kernel_rfl) (by kernel_rfl) (fun _ _ _ h => h) (sure_yes (by rfl) (fun w => by go_simp; try with_reducible rfl)) hHeld ?_
  simp only [List.setIfInBounds_toArray, List.set_cons_zero, List.set_cons_succ]
  refine take_at (i := 2) 42 rfl rfl (by kernel_rfl) (by kernel_rfl) (by kernel_rfl) (fun _ _ _ h => h) (sure_yes (by rfl) (fun w => by go_simp; try with_reducible rfl)) hHeld ?_
  simp only [List.setIfInBounds_toArray, List.set_cons_zero, List.set_cons_succ]
  refine take_at (i := 5) 45 rfl rfl (by kernel_rfl) (by kernel_rfl) (by kernel_rfl) (fun _ _ _ h => h) (sure_yes (by rfl) (fun w => by go_simp; try with_reducible rfl)) hHeld ?_
  simp only [List.setIfInBounds_toArray, List.set_cons_zero, List.set_cons_succ]
  refine take_at (i := 8) 48 rfl rfl (by kernel_rfl) (by kernel_rfl) (by kernel_rfl) (fun _ _ _ h => h) (sure_yes (by rfl) (fun w => by go_simp; try with_reducible rfl)) hHeld ?_
  simp only [List.setIfInBounds_toArray, List.set_cons_zero, List.set_cons_succ]
  refine take_at (i := 0) 40 rfl rfl (by kernel_rfl) (by kernel_rfl) (by kernel_rfl) (fun _ _ _ h => h) (row_yields (by rfl) 23 (.tmp 4) rfl w8.heap.size rfl 23 _ (0, 0) _ Tryz.underlying23 rfl (by kernel_rfl) (fun _ h => h.2.2.1)) hHeld ?_
  simp only [List.setIfInBounds_toArray, List.set_cons_zero, List.set_cons_succ]
  refine take_at (i := 3) 43 rfl rfl (by kernel_rfl) (by kernel_rfl) (by kernel_rfl) (fun _ _ _ h => h) (str_yields12 (by rfl) 9 (.tmp 42) rfl ⟨w.heap.size + 1, 0, none⟩ rfl _ Tryz.underlying9 (fun _ h => six_at h.2.1 0 (by decide))) hHeld ?_
  simp only [List.setIfInBounds_toArray, List.set_cons_zero, List.set_cons_succ]
  refine take_at (i := 6) 46 rfl rfl (by kernel_rfl) (by kernel_rfl) (by kernel_rfl) (fun _ _ _ h => h) (str_yields12 (by rfl) 9 (.tmp 45) rfl ⟨w.heap.size + 1, 3, none⟩ rfl _ Tryz.underlying9 (fun _ h => six_at h.2.1 3 (by decide))) hHeld ?_
  simp only [List.setIfInBounds_toArray, List.set_cons_zero, List.set_cons_succ]
  refine take_at (i := 7) 47 rfl rfl (by kernel_rfl) (by kernel_rfl) (by kernel_rfl) (fun _ _ _ h => h) (row_yields (by rfl) 27 (.tmp 8) rfl w11.heap.size rfl 27 _ (0, 0) _ Tryz.underlying27 rfl (by rw [sumSize, row_size]) (fun _ h => h.2.2.2.1)) hHeld ?_
  simp only [List.setIfInBounds_toArray, List.set_cons_zero, List.set_cons_succ]
  refine wpAnyH_ready (rs := [4]) (by kernel_rfl) (by simp) ?_
  refine AllReadyH.cons rfl (fun CONT hCONT => ?_) AllReadyH.nil
  go_simp
  go_at_call 72
  refine (KD.out _).mono ?_
  rintro e w14 ⟨rfl, rfl⟩
  dsimp only
  refine hCONT.out _ _ hHeld (fun hHeld => ?_)
  clear hCONT CONT
  refine take_at (i := 9) 49 rfl rfl (by kernel_rfl) (by kernel_rfl) (by kernel_rfl) (fun _ _ _ h => h) (build_yields (by rfl) 29 #[(0, .tmp 40), (1, .tmp 41), (2, .tmp 44), (3, .tmp 46), (4, .tmp 47), (5, .tmp 48)] rfl _ _ (ev_built EV ao (parV (sd s 2)).length cap) (by rw [HE.out]; simp [Act.eval])) hHeld ?_
  simp only [List.setIfInBounds_toArray, List.set_cons_zero, List.set_cons_succ]
  refine ready_store_ev 10 (by kernel_rfl) rfl rfl (by rfl) 29 (.tmp 2) (.tmp 49) rfl w.heap.size EV noEv (.slice ao (parV (sd s 2)).length cap) (.slice none 0 0) rfl rfl 29 ED.out evSize rfl (fun w15 hg hs => ?_)
  have LL := LT.out
  refine ⟨⟨solo_below hHeld.1 hs (Nat.le_refl _), (hs.block _ (by omega)).trans hHeld.2.1, (hs.block _ (by omega)).trans hHeld.2.2.1, (hs.block _ (by omega)).trans hHeld.2.2.2.1, _, _, hg⟩, ?_⟩
  have E15 := Lib.hid hg
  have S15 := Lib.hid hs
  refine wpAnyH_done (by kernel_rfl) ?_ _
  have T15 := Lib.hid (typ_solo VD.out S15.out ED.out (by decide))
  have B15 := Lib.hid (solo_below hHeld.1 S15.out (Nat.le_refl _))
  go_wp2
  exact bodyPost_ret (results_cell_row Tryz.results43 _ _ w.heap.size 29 _ (0, 0) _ rfl E15.out Tryz.underlying29 rfl (by rw [evSize, evC_size])) rfl ⟨_, by rw [← HE2.out], by rw [MT.out]; exact T15.out, B15.out⟩
end Go.Proofs.YteooklnejiipkaaGreatDoor
