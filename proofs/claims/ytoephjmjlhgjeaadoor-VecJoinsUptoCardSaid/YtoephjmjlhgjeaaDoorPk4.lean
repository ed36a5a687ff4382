/-
Texts that all claims of this seat share, part 4: DotCode, VecParse, VecTell, Ref10Join, Ref10Leq, Ref10Text.
-/
import Derived.Lib.Join
import Derived.Deep.QuietTactic
import Derived.BigQuiet
import Derived.Test.YtoephjmjlhgjeaaDoorPk3
namespace Go.Proofs.YtoephjmjlhgjeaaDoor
open Go.RowKit
theorem ahead_le (s : List UInt8) : (aheadD s).length ≤ s.length := (List.takeWhile_sublist _).length_le
theorem behind_le (s : List UInt8) : (behindD s).length ≤ s.length := by unfold behindD; rw [List.length_drop]; omega
set_option maxRecDepth 100000 in
set_option maxHeartbeats 8000000 in
theorem parse_any9 (s : List UInt8) (hs : s.length < 1152921504606846976) (w : World) : Calls Tryd.prog 38 #[.string (str s)] w fun e w' => e = .returned (.tuple #[.agg #[.int .i64 (parR s), .int .i64 (parQ s)], .int .i64 (parErr s)]) ∧ Below w.heap.size w w' := by
  have HC := Lib.hid (fun w => cut_any s hs w)
  have RA := Lib.hid (fun w => read_any w (aheadD s) 31 (by have := ahead_le s; omega))
  have RB := Lib.hid (fun w => read_any w (behindD s) 1099511627776 (by have := behind_le s; omega))
  have HD := Lib.hid (show isDot s = (s.contains 58 && (readErr (aheadD s) 31 == 0 && (readErr (behindD s) 1099511627776 == 0 && mayD (readN (aheadD s) 31) (readN (behindD s) 1099511627776)))) from rfl)
  have HP := Lib.hid (show parErr s = (if isDot s then 0 else 2) ∧ parR s = (if isDot s then readN (aheadD s) 31 else 0) ∧ parQ s = (if isDot s then readN (behindD s) 1099511627776 else 0) from ⟨rfl, rfl, rfl⟩)
  clear hs
  generalize readN (aheadD s) 31 = r at *
  generalize readN (behindD s) 1099511627776 = q at *
  generalize readErr (aheadD s) 31 = e1 at *
  generalize readErr (behindD s) 1099511627776 = e2 at *
  generalize aheadD s = X at *
  generalize behindD s = Y at *
  generalize s.contains 58 = c at *
  have M1 := Lib.hid (fun w => may_any9 r q w)
  have B0 := Lib.hid ((Below.refl w.heap.size w).alloc (Nat.le_refl _) (.cells #[.int .i64 0, .int .i64 0] 25 (0, 0)))
  have H0 := Lib.hid (heap_last w (.cells #[.int .i64 0, .int .i64 0] 25 (0, 0)))
  go_enter Tryd.func38, Tryd.ntmps38
  go_upto_region 1 with fail
  generalize w.alloc (.cells #[.int .i64 0, .int .i64 0] 25 (0, 0)) = W0 at *
  go_upto_region 2 with (first | (go_at_call 49; refine (HC.out _).mono ?_; rintro e W1 ⟨rfl, hb⟩; have G1 := Lib.hid (row_kept H0.out hb); have B1 := Lib.hid (below_next B0.out hb); clear hb))
  go_upto_region 3 with (first | (go_at_call 50; refine (RA.out _).mono ?_; rintro e W2 ⟨rfl, hb⟩; have G2 := Lib.hid (row_kept G1.out hb); have B2 := Lib.hid (below_next B1.out hb); clear hb))
  go_upto_region 4 with (first | (go_at_call 50; refine (RB.out _).mono ?_; rintro e W3 ⟨rfl, hb⟩; have G3 := Lib.hid (row_kept G2.out hb); have B3 := Lib.hid (below_next B2.out hb); clear hb))
  cases c with
  | false =>
    have hd : isDot s = false := by rw [HD.out]; rfl
    have HR := Lib.hid (show parR s = 0 ∧ parQ s = 0 ∧ parErr s = 2 by have h := HP.out; rw [hd] at h; exact ⟨h.2.1, h.2.2, h.1⟩)
    clear hd
    go_wp2_with (first
      | (refine build_on (by rfl) 25 #[] rfl _ _ dot_built0 (by simp [Act.eval]) ?_)
      | (refine wpList_store_row rfl 25 (.tmp 2) (.tmp 38) rfl w.heap.size _ rfl rfl 25 _ G3.out (by kernel_rfl) rfl (dot_one _ _) ?_))
    exact bodyPost_ret (results_cell2 Tryd.results38 _ _ w.heap.size 25 _ (0, 0) _ _ rfl rfl (setRow_heap _ _ _ _ _ _ G3.out) Tryd.underlying25 rfl (by kernel_rfl)) rfl ⟨by rw [HR.out.1, HR.out.2.1, HR.out.2.2]; rfl, below_setRow B3.out (Nat.le_refl _) _⟩
  | true =>
    by_cases z1 : e1 = 0
    · subst z1
      by_cases z2 : e2 = 0
      · subst z2
        go_upto_region 7 with (first
          | (refine build_on (by rfl) 25 #[(0, .tmp 39), (1, .tmp 40)] rfl _ _ (dot_built _ _) (by simp [Act.eval]) ?_))
        have H4 := Lib.hid (heap_last W3 (.cells #[.int .i64 r, .int .i64 q] 25 (0, 0)))
        have G4 := Lib.hid (row_kept G3.out ((Below.refl W3.heap.size W3).alloc (Nat.le_refl _) (.cells #[.int .i64 r, .int .i64 q] 25 (0, 0))))
        have B4 := Lib.hid (B3.out.alloc B3.out.size (.cells #[.int .i64 r, .int .i64 q] 25 (0, 0)))
        generalize W3.alloc (.cells #[.int .i64 r, .int .i64 q] 25 (0, 0)) = W4 at *
        cases hm : mayD r q with
        | true =>
          have hd : isDot s = true := by rw [HD.out, hm]; rfl
          have HR := Lib.hid (show parR s = r ∧ parQ s = q ∧ parErr s = 0 by have h := HP.out; rw [hd] at h; exact ⟨h.2.1, h.2.2, h.1⟩)
          rw [hm] at M1
          clear hd hm
          go_wp2_with (first
            | (refine load_row_on (by rfl) 25 (.tmp 11) rfl W3.heap.size rfl 25 _ (0, 0) _ H4.out Tryd.underlying25 rfl (by kernel_rfl) ?_)
            | (go_at_call 36; refine (M1.out _).mono ?_; rintro e W5 ⟨rfl, hb⟩; have G5 := Lib.hid (row_kept G4.out hb); have H5 := Lib.hid (row_kept H4.out hb); have B5 := Lib.hid (below_next B4.out hb); clear hb)
            | (refine load_row_on (by rfl) 25 (.tmp 11) rfl W3.heap.size rfl 25 _ (0, 0) _ H5.out Tryd.underlying25 rfl (by kernel_rfl) ?_)
            | (refine wpList_store_row rfl 25 (.tmp 2) (.tmp 46) rfl w.heap.size _ rfl rfl 25 _ G5.out (by kernel_rfl) rfl (dot_one _ _) ?_))
          exact bodyPost_ret (results_cell2 Tryd.results38 _ _ w.heap.size 25 _ (0, 0) _ _ rfl rfl (setRow_heap _ _ _ _ _ _ G5.out) Tryd.underlying25 rfl (by kernel_rfl)) rfl ⟨by rw [HR.out.1, HR.out.2.1, HR.out.2.2]; rfl, below_setRow B5.out (Nat.le_refl _) _⟩
        | false =>
          have hd : isDot s = false := by rw [HD.out, hm]; rfl
          have HR := Lib.hid (show parR s = 0 ∧ parQ s = 0 ∧ parErr s = 2 by have h := HP.out; rw [hd] at h; exact ⟨h.2.1, h.2.2, h.1⟩)
          rw [hm] at M1
          clear hd hm
          go_wp2_with (first
            | (refine load_row_on (by rfl) 25 (.tmp 11) rfl W3.heap.size rfl 25 _ (0, 0) _ H4.out Tryd.underlying25 rfl (by kernel_rfl) ?_)
            | (go_at_call 36; refine (M1.out _).mono ?_; rintro e W5 ⟨rfl, hb⟩; have G5 := Lib.hid (row_kept G4.out hb); have B5 := Lib.hid (below_next B4.out hb); clear hb)
            | (refine build_on (by rfl) 25 #[] rfl _ _ dot_built0 (by simp [Act.eval]) ?_)
            | (refine wpList_store_row rfl 25 (.tmp 2) (.tmp 45) rfl w.heap.size _ rfl rfl 25 _ G5.out (by kernel_rfl) rfl (dot_one _ _) ?_))
          exact bodyPost_ret (results_cell2 Tryd.results38 _ _ w.heap.size 25 _ (0, 0) _ _ rfl rfl (setRow_heap _ _ _ _ _ _ G5.out) Tryd.underlying25 rfl (by kernel_rfl)) rfl ⟨by rw [HR.out.1, HR.out.2.1, HR.out.2.2]; rfl, below_setRow B5.out (Nat.le_refl _) _⟩
      · have t2 : (e2 != 0) = true := bne_iff_ne.2 z2
        have hd : isDot s = false := by rw [HD.out, show (e2 == 0) = false from beq_eq_false_iff_ne.2 z2]; simp
        have HR := Lib.hid (show parR s = 0 ∧ parQ s = 0 ∧ parErr s = 2 by have h := HP.out; rw [hd] at h; exact ⟨h.2.1, h.2.2, h.1⟩)
        clear z2 hd
        go_wp2_with (first
          | (refine build_on (by rfl) 25 #[] rfl _ _ dot_built0 (by simp [Act.eval]) ?_)
          | (refine wpList_store_row rfl 25 (.tmp 2) (.tmp 38) rfl w.heap.size _ rfl rfl 25 _ G3.out (by kernel_rfl) rfl (dot_one _ _) ?_))
        exact bodyPost_ret (results_cell2 Tryd.results38 _ _ w.heap.size 25 _ (0, 0) _ _ rfl rfl (setRow_heap _ _ _ _ _ _ G3.out) Tryd.underlying25 rfl (by kernel_rfl)) rfl ⟨by rw [HR.out.1, HR.out.2.1, HR.out.2.2]; rfl, below_setRow B3.out (Nat.le_refl _) _⟩
    · have t1 : (e1 != 0) = true := bne_iff_ne.2 z1
      have hd : isDot s = false := by rw [HD.out, show (e1 == 0) = false from beq_eq_false_iff_ne.2 z1]; simp
      have HR := Lib.hid (show parR s = 0 ∧ parQ s = 0 ∧ parErr s = 2 by have h := HP.out; rw [hd] at h; exact ⟨h.2.1, h.2.2, h.1⟩)
      clear z1 hd
      go_wp2_with (first
        | (refine build_on (by rfl) 25 #[] rfl _ _ dot_built0 (by simp [Act.eval]) ?_)
        | (refine wpList_store_row rfl 25 (.tmp 2) (.tmp 38) rfl w.heap.size _ rfl rfl 25 _ G3.out (by kernel_rfl) rfl (dot_one _ _) ?_))
      exact bodyPost_ret (results_cell2 Tryd.results38 _ _ w.heap.size 25 _ (0, 0) _ _ rfl rfl (setRow_heap _ _ _ _ _ _ G3.out) Tryd.underlying25 rfl (by kernel_rfl)) rfl ⟨by rw [HR.out.1, HR.out.2.1, HR.out.2.2]; rfl, below_setRow B3.out (Nat.le_refl _) _⟩
end Go.Proofs.YtoephjmjlhgjeaaDoor
namespace Go.Proofs.YtoephjmjlhgjeaaDoor
open Go.RowKit Go.Shelf
attribute [local go_sem] Oper.semAt_some
/-- A row loaded in a round. -/
theorem load_row_in {F : Fence} {n : Nat} {P : Program} {ops : Array Oper} {rest : List Oper} {o : Oper} {a : Act} {w : World} {Q : Exit → Act → World → Prop} (hw : Region.wanted o (yielded ops a.tmps) = true) (ty : TypeId) (x : Operand) (ho : o.op = .load ty x)
    (g : Nat) (hx : a.eval x = .pointer (some ⟨g, 0, none⟩)) (t : TypeId) (cs : Array Value) (fr : Nat × Nat) (d : TypeDesc) (hg : w.heap[g]? = some (.cells cs t fr))
    (hu : P.underlying ty = some d) (hd : (match d with | .struct _ | .array _ _ => true | _ => false) = true) (hi : (P.info? ty).map (·.size) = some cs.size)
    (h : wpListIn F n P ops Q rest (a.put o.dst (.agg cs)) w) : wpListIn F n P ops Q (o :: rest) a w := by
  refine wpListIn_step fun K hK => ?_
  rw [if_pos hw]
  unfold Oper.wpIn
  refine ⟨by simp [Oper.about, ho], ?_⟩
  rw [Oper.semAt_plain F _ _ (by rw [ho]; intro c hc'; cases hc')]
  simp [execOp, ho, hx, Instr.loadAt, Instr.sureAddr, run_loadVar_row w g t ty cs fr d hg hu hd hi, Result.andThen]
  exact hK _ _ h
/-- A dot appended to a slice of dots of the call's own, in a round. -/
theorem append_dot_in {F : Fence} {n : Nat} {P : Program} {w : World} {ops : Array Oper} {rest : List Oper} {o : Oper} {a : Act} {Q : Exit → Act → World → Prop} (hgd : o.guard = none) (s x : Operand) (t : TypeId)
    (ho : o.op = .call { callee := .builtin .append, args := #[s, x], argTypes := #[t, t] })
    (base : Nat) (e : TypeId) (i : TypeInfo) (ht : P.underlying t = some (.slice e)) (hi : P.info? e = some i) (hz : (i.zero.map (·.cells.size), i.size, i.bytes) = (some 2, 2, 16))
    (v : Value) (l : List D2) (d : D2) (hs : a.eval s = v) (hown : w.ownsRow base e 2 v l.length (dotsC l)) (g c : Nat) (hx : a.eval x = .slice (some ⟨g, 0, none⟩) 1 c)
    (u : TypeId) (hg : w.heap[g]? = some (.cells #[.int .i64 d.1, .int .i64 d.2] u (0, 0))) (hlen : l.length + 1 ≤ 2000000) (hbase : base ≤ w.heap.size)
    (h : ∀ v' w', w'.ownsRow base e 2 v' (l ++ [d]).length (dotsC (l ++ [d])) → w.grownBy w' v.ownBlock → wpListIn F n P ops Q rest (a.put o.dst v') w') : wpListIn F n P ops Q (o :: rest) a w := by
  simp only [Prod.mk.injEq] at hz
  obtain ⟨hz1, hz2, hz3⟩ := hz
  cases hzz : i.zero with
  | none => rw [hzz] at hz1; cases hz1
  | some z =>
    rw [hzz] at hz1
    simp only [Option.map_some, Option.some.injEq] at hz1
    refine wpListIn_append_own w hgd s x t ho base e i z 2 16 ht hi hzz hz2 hz3 hz1 (by decide) v l.length (dotsC l) hs hown ⟨g, 0, none⟩ 1 c (dotsC [d]) hx rfl (fun j u hj => ?_) (fun u hu => dotsC_one [d] u hu)
      (by unfold maxLen; omega) (by omega) hbase fun v' w' h1 h2 _ => h v' w' (by rw [dotsC_append, List.length_append]; exact h1) h2
    match j, hj with
    | 0, hj => exact ((cell_of_row _ _ 0 _ _ _ hg).trans rfl).trans hj
    | 1, hj => rw [Addr.add_lit]; exact ((cell_of_row _ _ (0 + 1) _ _ _ hg).trans rfl).trans hj
theorem keeps_below {n : Nat} {W W' : World} (h : Below n W W') (hn : n = W.heap.size) : KeepsOthers W W' :=
  ⟨h.size, fun k o hk _ => (h.block k (by rw [hn]; exact (Array.getElem?_eq_some_iff.1 hk).1)).trans hk⟩
theorem keep3_low {B g : Nat} (W : World) (v : Value) (hg : g < B) : Keep3 B W (W.setCell ⟨g, 0, none⟩ v) := fun k h1 _ => heap_setCell_other _ _ _ _ (by show k ≠ g; omega)
/-- Behind an append to a slice that a variable holds: the variable, the row, and what lay ahead of both. -/
theorem appended10 {W w1 : World} {n₀ B size : Nat} {t e : TypeId} {v v' : Value} {k m : Nat} {xs ys : List Value} {tmp : Obj} (hv : Boxed W B t v) (hte : t ≠ e) (hrow : W.ownsRow n₀ e size v k xs) (hn : n₀ ≤ W.heap.size) (hown' : w1.ownsRow n₀ e size v' m ys) (hgrow : (W.alloc tmp).grownBy w1 v.ownBlock) :
    Boxed w1 B t v ∧ Boxed (w1.setCell ⟨B, 0, none⟩ v') B t v' ∧ (w1.setCell ⟨B, 0, none⟩ v').ownsRow n₀ e size v' m ys ∧ KeepsOthers W (w1.setCell ⟨B, 0, none⟩ v') ∧ Below n₀ W w1 := by
  have h1 : Boxed w1 B t v := (hv.alloc tmp).kept hgrow (hv.not_row hte hrow)
  have hcells : ∀ j o, v.ownBlock = some j → (W.alloc tmp).heap[j]? = some o → o.isCells = true ∧ n₀ ≤ j := fun j o ej hj => by
    rcases (hrow.alloc tmp).2 with ⟨rfl, _⟩ | ⟨g, cap, cur, rfl, hb, hgb, _⟩
    · simp [Value.ownBlock] at ej
    · obtain rfl : g = j := by simpa [Value.ownBlock] using ej
      rw [hgb] at hj; cases hj; exact ⟨rfl, hb⟩
  have hrows : ∀ j, v.ownBlock = some j → n₀ ≤ j := fun j ej => (hrow.lt j ej).1
  exact ⟨h1, h1.set v', hown'.kept (grownBy_setCell' w1 B v') (.inr (h1.not_row hte hown').symm),
    ((KeepsOthers.alloc W tmp).trans (KeepsOthers.of_grownBy hgrow fun j o ej hj => (hcells j o ej hj).1)).trans (KeepsOthers.setCell _ _ _),
    ((Below.refl n₀ W).alloc hn tmp).grown hgrow (by simp; omega) fun j ej => hrows j ej⟩
/-- The two results' blocks. -/
def Res2 (g : Nat) (W : World) (x y : Value) : Prop := Boxed W g 23 x ∧ Boxed W (g + 1) 33 y
theorem res2_below {g n : Nat} {W W' : World} {x y : Value} (h : Res2 g W x y) (hb : Below n W W') (hn : g + 2 ≤ n) : Res2 g W' x y := ⟨(hb.block g (by omega)).trans h.1, (hb.block (g + 1) (by omega)).trans h.2⟩
theorem res2_set {g : Nat} {W : World} {x y : Value} (h : Res2 g W x y) (x' y' : Value) : Res2 g ((W.setCell ⟨g, 0, none⟩ x').setCell ⟨g + 1, 0, none⟩ y') x' y' := ⟨(h.1.set x').other (by omega) y', (h.2.other (by omega) x').set y'⟩
theorem res2_far {g k : Nat} {W : World} {x y : Value} (h : Res2 g W x y) (hk : g + 2 ≤ k) (u : Value) : Res2 g (W.setCell ⟨k, 0, none⟩ u) x y := ⟨h.1.other (by omega) u, h.2.other (by omega) u⟩
theorem res2_own {g : Nat} {A B : World} {x y : Value} {row : Option Nat} (h : Res2 g A x y) (hg : A.grownBy B row) (hr : ∀ r, row = some r → ∃ o : Obj, A.heap[r]? = some o ∧ o.isCells = false) : Res2 g B x y := by
  have key : ∀ {b : Nat} {t : TypeId} {v : Value}, Boxed A b t v → Boxed B b t v := fun hv => hv.kept hg (fun e => by
    obtain ⟨o, ho, hc⟩ := hr _ e.symm
    rw [show A.heap[_]? = _ from hv] at ho; cases ho; cases hc)
  exact ⟨key h.1, key h.2⟩
theorem set2_below {n g : Nat} {A B : World} (h : Below n A B) (hg : n ≤ g) (x y : Value) : Below n A ((B.setCell ⟨g, 0, none⟩ x).setCell ⟨g + 1, 0, none⟩ y) := (h.setCell (p := ⟨g, 0, none⟩) hg x).setCell (p := ⟨g + 1, 0, none⟩) (by show n ≤ g + 1; omega) y
/-- The pieces that have come, and the dots of them. -/
def got {s : List UInt8} (pre : List (Pc s)) : List (List UInt8) := pre.map (·.1)
def gotD {s : List UInt8} (pre : List (Pc s)) : List D2 := (got pre).map dotOf
theorem got_snoc {s : List UInt8} (pre : List (Pc s)) (x : Pc s) : got (pre ++ [x]) = got pre ++ [x.1] := List.map_append
theorem gotD_snoc {s : List UInt8} (pre : List (Pc s)) (x : Pc s) : gotD (pre ++ [x]) = gotD pre ++ [dotOf x.1] := by rw [gotD, got_snoc, List.map_append]; rfl
theorem good_len {ps : List (List UInt8)} (h : goodP ps = true) : (ps.map dotOf).length ≤ 32 := by
  rw [goodP, Bool.and_eq_true] at h; exact rising_length h.2
set_option maxRecDepth 100000 in
set_option maxHeartbeats 16000000 in
theorem vecParse_any (s : List UInt8) (hs : s.length < 1152921504606846976) (w : World) : Calls Tryd.prog 21 #[.string (str s)] w fun e w' => ∃ v, e = .returned (.tuple #[v, .int .i64 (parVErr s)]) ∧ HasDots w' v (parV s) ∧ Below w.heap.size w w' := by
  obtain ⟨i0, hi, hz⟩ := infoDot
  have s2 : (str s).toList = s := str_toList s
  have s3 : (ByteArray.mk #[45]).toList = [45] := ByteArray.toList_mk _
  by_cases h45 : s = [45]
  · have HP := Lib.hid (show parVErr s = 0 ∧ parV s = [] by rw [h45]; exact par_hyphen)
    have q1 : (s == [45]) = true := by rw [h45]; rfl
    clear h45 hs
    go_enter Tryd.func21, Tryd.ntmps21
    go_wp2
    have r0 := cell_of_one (alloc2_0 w (.cells #[.slice none 0 0] 23 (0, 0)) (.cells #[.int .i64 0] 33 (0, 0)))
    have r1 := cell_of_one (alloc2_1 w (.cells #[.slice none 0 0] 23 (0, 0)) (.cells #[.int .i64 0] 33 (0, 0)))
    refine bodyPost_ret (v := .tuple #[.slice none 0 0, .int .i64 0]) (by simp [results, Tryd.f21, go_sem, r0, r1]) rfl ?_
    exact ⟨_, by rw [HP.out.1], by rw [HP.out.2]; exact dots_nil _, ((Below.refl w.heap.size w).alloc (Nat.le_refl _) _).alloc (by simp) _⟩
  · have q1 : (s == [45]) = false := by rw [beq_eq_false_iff_ne]; exact h45
    have HH := Lib.hid h45
    have HS := Lib.hid hs
    have SQ := Lib.hid (fun w => splitSeq_any s w)
    have PX := Lib.hid (fun (x : Pc s) w => parse_any9 x.1 (Nat.lt_of_le_of_lt x.2 hs) w)
    have H0 := Lib.hid (And.intro (alloc3_0 w (.cells #[.slice none 0 0] 23 (0, 0)) (.cells #[.int .i64 0] 33 (0, 0)) (.cells #[.slice none 0 0] 23 (0, 0))) (And.intro (alloc3_1 w (.cells #[.slice none 0 0] 23 (0, 0)) (.cells #[.int .i64 0] 33 (0, 0)) (.cells #[.slice none 0 0] 23 (0, 0))) (alloc3_2 w (.cells #[.slice none 0 0] 23 (0, 0)) (.cells #[.int .i64 0] 33 (0, 0)) (.cells #[.slice none 0 0] 23 (0, 0)))))
    have Z0 := Lib.hid (show (((w.alloc (.cells #[.slice none 0 0] 23 (0, 0))).alloc (.cells #[.int .i64 0] 33 (0, 0))).alloc (.cells #[.slice none 0 0] 23 (0, 0))).heap.size = w.heap.size + 3 by simp)
    have B0 := Lib.hid ((((Below.refl w.heap.size w).alloc (Nat.le_refl _) (.cells #[.slice none 0 0] 23 (0, 0))).alloc (by simp) (.cells #[.int .i64 0] 33 (0, 0))).alloc (by simp; omega) (.cells #[.slice none 0 0] 23 (0, 0)))
    clear h45 hs
    refine (callsIn_wide (n := 6)).1 ?_
    refine callsIn_of_wp_marks Tryd.func21 rfl trivial ?_ rfl
    simp only [Tryd.ntmps21, List.size_toArray, List.length_cons, List.length_nil, Nat.reduceAdd, Nat.reduceSub, Array.replicate_succ, Array.replicate_zero, List.push_toArray, List.append_toArray, List.nil_append, List.cons_append]
    refine wpIn_wide.2 ?_
    go_wp2_with (first | (go_at_call 37; generalize (((w.alloc (.cells #[.slice none 0 0] 23 (0, 0))).alloc (.cells #[.int .i64 0] 33 (0, 0))).alloc (.cells #[.slice none 0 0] 23 (0, 0))) = W0 at *; refine (SQ.out _).mono ?_; rintro e w1 ⟨rfl, hb⟩; have HQ := Lib.hid hb; clear hb))
    have b0 := HQ.out.2.2.1
    have b1 := HQ.out.2.2.2.1
    have b2 := HQ.out.2.2.2.2
    have hsz : w1.heap.size = w.heap.size + 3 + 3 := by rw [HQ.out.2.1, Z0.out]
    rw [Z0.out] at b0 b1 b2
    have R0 := Lib.hid (show Res2 w.heap.size w1 (.slice none 0 0) (.int .i64 0) from ⟨(HQ.out.1.block _ (by rw [Z0.out]; omega)).trans H0.out.1, (HQ.out.1.block _ (by rw [Z0.out]; omega)).trans H0.out.2.1⟩)
    have V0 := Lib.hid (show Boxed w1 (w.heap.size + 1 + 1) 23 (.slice none 0 0) from (HQ.out.1.block _ (by rw [Z0.out]; omega)).trans H0.out.2.2)
    have B1 := Lib.hid (B0.out.trans (HQ.out.1.mono (by rw [Z0.out]; omega)))
    rw [Z0.out]
    clear q1 s2 s3
    refine (wpIn_wide (n := 6)).1 ?_
    refine range_cells (F := Fence.wide) rfl (by decide) (gf := 57) (lb := #[.pointer (some ⟨w.heap.size + 3 + 1, 0, none⟩), .pointer (some ⟨w.heap.size + 3, 0, none⟩), .pointer (some ⟨w.heap.size + 3 + 2, 0, none⟩)]) rfl trivial (enters_of Tryd.func57 (by kernel_rfl) rfl)
      (B := w.heap.size + 3) (by omega) (seq10 5 (by decide) (w.heap.size + 3) s HS.out w1 (by omega) b0 b1 b2) (fun _ => rfl)
      (fun pre W => ((∃ v, Boxed W (w.heap.size + 1 + 1) 23 v ∧ W.ownsRow w1.heap.size 25 2 v (gotD pre).length (dotsC (gotD pre)) ∧ True) ∧ (Res2 w.heap.size W (.slice none 0 0) (.int .i64 0) ∧ goodP (got pre) = true ∧ w1.heap.size ≤ W.heap.size)) ∧ Below w.heap.size w W)
      (fun pre W => (Res2 w.heap.size W (.slice none 0 0) (.int .i64 2) ∧ goodP (got pre) = false) ∧ Below w.heap.size w W)
      (OwnFrom.and (OwnFrom.and (Own.from (holdsRow_own w1.heap.size (w.heap.size + 1 + 1) 23 25 2 (fun pre => (gotD pre).length) (fun pre => dotsC (gotD pre)) (fun _ _ => True)) _) (Own.from (fun _ A B row hs hg hr => ⟨res2_own hs.1 hg hr, hs.2.1, Nat.le_trans hs.2.2 hg.size⟩) _)) (ownFrom_below (Nat.le_refl _) (by omega)))
      (OwnFrom.and (Own.from (fun _ A B row hs hg hr => ⟨res2_own hs.1 hg hr, hs.2⟩) _) (ownFrom_below (Nat.le_refl _) (by omega)))
      (fun pre W u h => by
        obtain ⟨⟨⟨v, hv, hr, -⟩, hR, hg, hz⟩, hB⟩ := h
        exact ⟨⟨⟨v, hv.other (by omega) u, ownsRow_setCell_other hr (a := ⟨w.heap.size + 3, 0, none⟩) (fun e => by have := (hr.lt _ e).1; simp only at this; omega) u, trivial⟩, res2_far hR (by omega) u, hg, Nat.le_trans hz (KeepsOthers.setCell W _ _).size⟩, hB.setCell (p := ⟨w.heap.size + 3, 0, none⟩) (by show w.heap.size ≤ w.heap.size + 3; omega) u⟩)
      ⟨⟨⟨.slice none 0 0, V0.out, World.ownsRow_nil _ _ _ _, trivial⟩, R0.out, goodP_nil, Nat.le_refl _⟩, B1.out⟩
      (fun x => { tmps := #[.string (str s), undef, .pointer (some ⟨w.heap.size, 0, none⟩), .pointer (some ⟨w.heap.size + 1, 0, none⟩), .pointer (some ⟨w.heap.size + 1 + 1, 0, none⟩), .string (str x.1), undef, undef, .string (str s), .bool false, .string (str s),
        .func (.func 57) #[] #[.pointer (some ⟨w.heap.size + 3 + 1, 0, none⟩), .pointer (some ⟨w.heap.size + 3, 0, none⟩), .pointer (some ⟨w.heap.size + 3 + 2, 0, none⟩)], .string (str x.1), undef, undef, undef, undef, undef, undef, undef, undef, undef, undef, undef, undef, undef, undef, undef, undef, undef, undef], defers := [] }) ?assign ?body ?done ?stop
    case assign =>
      intro l x W K hK
      gi_wp2
      exact hK
    case body =>
      rintro l pre x W ⟨⟨⟨v, hv, hr, -⟩, hR, hg, hlow⟩, hB⟩ hlen
      obtain ⟨ao, cap, rfl⟩ := own_slice hr
      obtain ⟨k, hk⟩ : ∃ k, k = (gotD pre).length := ⟨_, rfl⟩
      have HK := Lib.hid hk
      have HL := Lib.hid (good_len hg)
      have HO := Lib.hid (show W.ownsRow w1.heap.size 25 2 (.slice ao k cap) (gotD pre).length (dotsC (gotD pre)) by rw [hk]; exact hr)
      rw [← hk] at hv
      have HV := Lib.hid hv
      have HR := Lib.hid hR
      have HG := Lib.hid hg
      have HB := Lib.hid hB
      have HSZ := Lib.hid (show w.heap.size + 2 ≤ W.heap.size by omega)
      have HSZ2 := Lib.hid (show w.heap.size + 1 + 1 < W.heap.size by omega)
      have HLOW := Lib.hid (And.intro hlow hsz)
      have PXx := Lib.hid (fun w => PX.out x w)
      obtain ⟨r, hr'⟩ : ∃ r, r = parR x.1 := ⟨_, rfl⟩
      obtain ⟨q, hq'⟩ : ∃ q, q = parQ x.1 := ⟨_, rfl⟩
      obtain ⟨E, hE⟩ : ∃ E, E = parErr x.1 := ⟨_, rfl⟩
      rw [← hr', ← hq', ← hE] at PXx
      have HD := Lib.hid (show dotOf x.1 = (r, q) by rw [dotOf, hr', hq'])
      have HGS := Lib.hid (goodP_snoc (got pre) x.1)
      rw [← got_snoc, ← hE, HD.out] at HGS
      clear hv hr hR hg hB hlen hlow hk hr' hq' b0 b1 b2 hsz
      by_cases hE0 : E = 0
      · subst hE0
        have DD := Lib.hid (dots_of_own HO.out)
        have MF := Lib.hid (fun w hv => mayFollow_any (gotD pre) (by have h : (gotD pre).length ≤ 32 := HL.out; omega) r q (.slice ao k cap) w hv)
        obtain ⟨B, hB'⟩ : ∃ B, B = fol (gotD pre) (r, q) := ⟨_, rfl⟩
        rw [← hB'] at MF
        have HGB := Lib.hid (show goodP (got (pre ++ [x])) = B by rw [HGS.out, HG.out, hB']; rfl)
        clear hE hB'
        cases B with
        | false =>
          gi_wp2_with (first
            | (refine ⟨trivial, ?_⟩; gi_at_call 38; refine (CallsIn.inRound l (callsIn_wide.2 (PXx.out _))).mono ?_; rintro e w2 ⟨rfl, hb⟩; have B2 := Lib.hid hb; have K3 := Lib.hid ((hb.alloc hb.size (.cells #[.int .i64 r, .int .i64 q] 25 (0, 0)))); have R3 := Lib.hid (res2_below HR.out K3.out HSZ.out); have V3 := Lib.hid (show Boxed (w2.alloc (.cells #[.int .i64 r, .int .i64 q] 25 (0, 0))) (w.heap.size + 1 + 1) 23 (.slice ao k cap) from (K3.out.block _ HSZ2.out).trans HV.out); have O3 := Lib.hid (own_below HO.out K3.out); have c0 := R3.out.1.cell; have f0 := R3.out.1.frozen; have c1 := R3.out.2.cell; have f1 := R3.out.2.frozen; have c2 := V3.out.cell; have f2 := V3.out.frozen; clear hb)
            | (refine load_row_in (by rfl) 25 (.tmp 6) rfl w2.heap.size rfl 25 _ (0, 0) _ (heap_last w2 _) Tryd.underlying25 rfl (by kernel_rfl) ?_)
            | (refine ⟨trivial, ?_⟩; gi_at_call 32; refine (CallsIn.inRound l (callsIn_wide.2 (MF.out _ (dots_below DD.out K3.out)))).mono ?_; rintro e w4 ⟨rfl, hb⟩; have B4 := Lib.hid hb; have K4 := Lib.hid (K3.out.trans (hb.mono K3.out.size)); have R4 := Lib.hid (res2_below HR.out K4.out HSZ.out); have V4 := Lib.hid (show Boxed w4 (w.heap.size + 1 + 1) 23 (.slice ao k cap) from (K4.out.block _ HSZ2.out).trans HV.out); have O4 := Lib.hid (own_below HO.out K4.out); have D4 := Lib.hid (row_kept (heap_last w2 (.cells #[.int .i64 r, .int .i64 q] 25 (0, 0))) hb); have c0 := R4.out.1.cell; have f0 := R4.out.1.frozen; have c1 := R4.out.2.cell; have f1 := R4.out.2.frozen; have c2 := V4.out.cell; have f2 := V4.out.frozen; clear hb))
          exact ⟨(keeps_below K4.out rfl).trans ((KeepsOthers.setCell _ _ _).trans (KeepsOthers.setCell _ _ _)), ⟨res2_set R4.out _ _, HGB.out⟩, set2_below (HB.out.trans (K4.out.mono HB.out.size)) (Nat.le_refl _) _ _⟩
        | true =>
          gi_wp2_with (first
            | (refine ⟨trivial, ?_⟩; gi_at_call 38; refine (CallsIn.inRound l (callsIn_wide.2 (PXx.out _))).mono ?_; rintro e w2 ⟨rfl, hb⟩; have B2 := Lib.hid hb; have K3 := Lib.hid ((hb.alloc hb.size (.cells #[.int .i64 r, .int .i64 q] 25 (0, 0)))); have R3 := Lib.hid (res2_below HR.out K3.out HSZ.out); have V3 := Lib.hid (show Boxed (w2.alloc (.cells #[.int .i64 r, .int .i64 q] 25 (0, 0))) (w.heap.size + 1 + 1) 23 (.slice ao k cap) from (K3.out.block _ HSZ2.out).trans HV.out); have O3 := Lib.hid (own_below HO.out K3.out); have c0 := R3.out.1.cell; have f0 := R3.out.1.frozen; have c1 := R3.out.2.cell; have f1 := R3.out.2.frozen; have c2 := V3.out.cell; have f2 := V3.out.frozen; clear hb)
            | (refine load_row_in (by rfl) 25 (.tmp 6) rfl w2.heap.size rfl 25 _ (0, 0) _ (heap_last w2 _) Tryd.underlying25 rfl (by kernel_rfl) ?_)
            | (refine ⟨trivial, ?_⟩; gi_at_call 32; refine (CallsIn.inRound l (callsIn_wide.2 (MF.out _ (dots_below DD.out K3.out)))).mono ?_; rintro e w4 ⟨rfl, hb⟩; have B4 := Lib.hid hb; have K4 := Lib.hid (K3.out.trans (hb.mono K3.out.size)); have R4 := Lib.hid (res2_below HR.out K4.out HSZ.out); have V4 := Lib.hid (show Boxed w4 (w.heap.size + 1 + 1) 23 (.slice ao k cap) from (K4.out.block _ HSZ2.out).trans HV.out); have O4 := Lib.hid (own_below HO.out K4.out); have D4 := Lib.hid (row_kept (heap_last w2 (.cells #[.int .i64 r, .int .i64 q] 25 (0, 0))) hb); have c0 := R4.out.1.cell; have f0 := R4.out.1.frozen; have c1 := R4.out.2.cell; have f1 := R4.out.2.frozen; have c2 := V4.out.cell; have f2 := V4.out.frozen; clear hb)
            | (refine load_row_in (by rfl) 25 (.tmp 6) rfl w2.heap.size rfl 25 _ (0, 0) _ D4.out Tryd.underlying25 rfl (by kernel_rfl) ?_)
            | (gi_at_builtin; refine append_dot_in rfl (.tmp 26) (.tmp 28) 23 rfl w1.heap.size 25 i0 Tryd.underlying23 hi hz (.slice ao k cap) (gotD pre) (r, q) rfl (O4.out.alloc _) w4.heap.size 1 rfl 25 (heap_last w4 _) (by have h : (gotD pre).length ≤ 32 := HL.out; omega) (by have h1 := HLOW.out.1; have h2 := K4.out.size; simp <;> omega) ?_; intro v' w5 hown' hgrow; obtain ⟨g', cap', rfl⟩ := ownsRow_succ (by simpa using hown'); have HA := Lib.hid (appended10 V4.out (by decide) O4.out (Nat.le_trans HLOW.out.1 K4.out.size) hown' hgrow); have c2 := HA.out.1.cell; have f2 := HA.out.1.frozen; clear hown' hgrow))
          have h5 : Below w1.heap.size W w5 := (K4.out.mono HLOW.out.1).trans HA.out.2.2.2.2
          have hz2 := HLOW.out.2
          refine ⟨(keeps_below K4.out rfl).trans HA.out.2.2.2.1, keep3_trans (keep3_below h5 (by omega)) (keep3_low _ _ (by omega)), ⟨⟨_, HA.out.2.1, ?_, trivial⟩, res2_far (res2_below HR.out h5 (by omega)) (by omega) _, HGB.out, Nat.le_trans HLOW.out.1 (Nat.le_trans h5.size (KeepsOthers.setCell _ _ _).size)⟩, (HB.out.trans (h5.mono (by omega))).setCell (p := ⟨w.heap.size + 1 + 1, 0, none⟩) (by show w.heap.size ≤ w.heap.size + 1 + 1; omega) _⟩
          rw [gotD_snoc, HD.out]
          exact HA.out.2.2.1
      · have t1 : (E != 0) = true := bne_iff_ne.2 hE0
        have HF := Lib.hid (show goodP (got (pre ++ [x])) = false by rw [HGS.out, beq_eq_false_iff_ne.2 hE0]; simp)
        clear hE hE0
        gi_wp2_with (first | (refine ⟨trivial, ?_⟩; gi_at_call 38; refine (CallsIn.inRound l (callsIn_wide.2 (PXx.out _))).mono ?_; rintro e w2 ⟨rfl, hb⟩; have B2 := Lib.hid hb; have K3 := Lib.hid ((hb.alloc hb.size (.cells #[.int .i64 r, .int .i64 q] 25 (0, 0)))); have R3 := Lib.hid (res2_below HR.out K3.out HSZ.out); have V3 := Lib.hid (show Boxed (w2.alloc (.cells #[.int .i64 r, .int .i64 q] 25 (0, 0))) (w.heap.size + 1 + 1) 23 (.slice ao k cap) from (K3.out.block _ HSZ2.out).trans HV.out); have O3 := Lib.hid (own_below HO.out K3.out); have c0 := R3.out.1.cell; have f0 := R3.out.1.frozen; have c1 := R3.out.2.cell; have f1 := R3.out.2.frozen; have c2 := V3.out.cell; have f2 := V3.out.frozen; clear hb))
        refine ⟨trivial, ?_⟩
        gi_wp2
        exact ⟨((keeps_below B2.out rfl).trans (KeepsOthers.alloc _ _)).trans ((KeepsOthers.setCell _ _ _).trans (KeepsOthers.setCell _ _ _)), ⟨res2_set R3.out _ _, HF.out⟩, set2_below (HB.out.trans (K3.out.mono HB.out.size)) (Nat.le_refl _) _ _⟩
    case done =>
      rintro D ys W hD hys ⟨⟨⟨v, hv, hr, -⟩, hR, hg, -⟩, hB⟩ hK
      have hgot : got ys = piecesB 44 s := hys
      have HP := Lib.hid (par_good HH.out (by rw [← hgot]; exact hg))
      have HO := Lib.hid (show W.ownsRow w1.heap.size 25 2 v (parV s).length (dotsC (parV s)) by rw [HP.out.2, ← hgot]; exact hr)
      obtain ⟨ao, cap, rfl⟩ := own_slice HO.out
      have HB := Lib.hid hB
      have HR := Lib.hid hR
      have HK := Lib.hid hK
      have HD := Lib.hid (show w1.heap.size ≤ D from hD)
      have HZ := Lib.hid hsz
      have c2 := hv.cell
      have c0 := hR.1.cell
      have f0 := hR.1.frozen
      have c1 := hR.2.cell
      have f1 := hR.2.frozen
      clear hD hB hys hK hR hr hv hg hgot b0 b1 b2 hsz
      obtain ⟨k, hk⟩ : ∃ k, (parV s).length = k := ⟨_, rfl⟩
      rw [hk] at HO c2
      have HKK := Lib.hid hk
      clear hk
      go_wp2
      have hK' := ((KeepsOthers.setCell W ⟨w.heap.size, 0, none⟩ (.slice ao k cap)).trans (KeepsOthers.setCell _ ⟨w.heap.size + 1, 0, none⟩ (.int .i64 0))).same D _ HK.out rfl
      have hC := res2_own (res2_set HR.out (.slice ao k cap) (.int .i64 0)) (grownBy_putObj' _ D (.deferred none)) (fun r e => by cases e; exact ⟨_, hK', rfl⟩)
      have r0 := hC.1.cell
      have r1 := hC.2.cell
      refine ⟨by simp, .inl ⟨_, _, rfl, run_takeDeferred hK', ?_⟩⟩
      refine ⟨.tuple #[.slice ao k cap, .int .i64 0], by simp [results, Tryd.f21, go_sem, r0, r1], _, by rw [HP.out.1], ?_, ?_⟩
      · refine dots_of_own (base := w1.heap.size) (e := 25) ?_
        have hz := HZ.out
        rw [HKK.out]
        exact ownsRow_putObj (ownsRow_setCell_other (ownsRow_setCell_other HO.out (a := ⟨w.heap.size, 0, none⟩) (fun e => by have := (HO.out.lt _ e).1; simp only at this; omega) _) (a := ⟨w.heap.size + 1, 0, none⟩) (fun e => by have := (HO.out.lt _ e).1; simp only at this; omega) _) _ hK' rfl
      · exact (set2_below HB.out (Nat.le_refl _) _ _).trans (belowK_b (w := w) (Nat.le_refl _) _ D _ _ (by have h1 := HZ.out; have h2 := HD.out; omega) hK' rfl rfl)
    case stop =>
      rintro D pre W hD hpre ⟨⟨hR, hg⟩, hB⟩ hK
      have HP := Lib.hid (par_bad HH.out (goodP_prefix (show got pre <+: piecesB 44 s from hpre) hg))
      have hC := res2_own hR (grownBy_putObj' W D (.deferred none)) (fun r e => by cases e; exact ⟨_, hK, rfl⟩)
      have r0 := hC.1.cell
      have r1 := hC.2.cell
      have HB := Lib.hid hB
      have HK := Lib.hid hK
      have HD := Lib.hid (show w.heap.size ≤ D by omega)
      clear hD hB hpre hK hR hg b0 b1 b2 hsz hC
      gi_wp2
      refine ⟨by simp, .inl ⟨_, _, rfl, run_takeDeferred HK.out, ?_⟩⟩
      refine ⟨.tuple #[.slice none 0 0, .int .i64 2], by simp [results, Tryd.f21, go_sem, r0, r1], _, by rw [HP.out.1], by rw [HP.out.2]; exact dots_nil _, ?_⟩
      exact HB.out.trans (belowK_b (w := w) (Nat.le_refl _) _ D _ _ HD.out HK.out rfl rfl)
end Go.Proofs.YtoephjmjlhgjeaaDoor
namespace Go.Proofs.YtoephjmjlhgjeaaDoor
open Go.RowKit
theorem infoStr10 : ∃ i, Tryd.prog.info? 9 = some i ∧ i.zero = some (.string ByteArray.empty) ∧ i.size = 1 ∧ i.bytes = 16 := by
  have h : (Tryd.prog.info? 9).map (fun i => (i.zero, i.size, i.bytes)) = some (some (.string ByteArray.empty), 1, 16) := by kernel_rfl
  cases hi : Tryd.prog.info? 9 with
  | none => rw [hi] at h; cases h
  | some i =>
    rw [hi] at h
    simp only [Option.map_some, Option.some.injEq, Prod.mk.injEq] at h
    exact ⟨i, rfl, h⟩
theorem lib_joinB (c : UInt8) (ps : List (List UInt8)) : Lib.join ps [c] = joinB c ps := by
  cases ps with
  | nil => rfl
  | cons p t =>
    rw [Lib.join_cons, joinB, Lib.joinTail]
    congr 1
/-- The texts of the first so many dots. -/
def dotTs (l : List D2) (k : Nat) : List (List UInt8) := (l.take k).map dotT
theorem dotTs_next {l : List D2} {k : Nat} {d : D2} (h : l[k]? = some d) : dotTs l (k + 1) = dotTs l k ++ [dotT d] := by
  rw [dotTs, List.take_add_one, h, List.map_append]; rfl
theorem dotTs_length (l : List D2) (k : Nat) : (dotTs l k).length ≤ k := by rw [dotTs, List.length_map, List.length_take]; omega
theorem dotTs_all (l : List D2) : dotTs l l.length = l.map dotT := by rw [dotTs, List.take_length]
/-- Texts of a slice, joined with a byte. -/
theorem join_any (c : UInt8) (ls : List (List UInt8)) (w : World) (base : Nat) (e : TypeId) (v : Value) (h : w.ownsRow base e 1 v ls.length (textsL ls)) (h0 : 0 < ls.length) (hn : ls.length ≤ 1000) (hl : (joinB c ls).length ≤ 140737488355328) :
    Calls Tryd.prog 45 #[v, .string ⟨#[c]⟩] w fun e w' => e = .returned (.string (str (joinB c ls))) ∧ Below w.heap.size w w' := by
  obtain ⟨g, cap, cur, rfl, -, hg, hcap, -, -, -⟩ := own_shape h h0
  have hcells : ∀ (j : Nat) x, (ls.map str)[j]? = some x → w.cell? ⟨g, 0 + j, none⟩ = some (.string x) := fun j x hx => by
    have h1 := h.cells (g := g) rfl j (.string x) (by
      rw [textsL, List.getElem?_map]
      rw [List.getElem?_map] at hx
      cases hj : ls[j]? with
      | none => rw [hj] at hx; cases hx
      | some y => rw [hj] at hx; exact congrArg some (congrArg Value.string (Option.some.inj hx)))
    have e : ((⟨g, 0, none⟩ : Addr).add j) = ⟨g, 0 + j, none⟩ := Addr.add_lit ..
    rwa [e] at h1
  have hm : (ls.map str).map (·.data.toList) = ls := by
    rw [List.map_map]
    conv => rhs; rw [← List.map_id ls]
    exact List.map_congr_left fun p _ => by simp [str]
  have hj := Tryd.strings_Join g 0 cap (ls.map str) ⟨#[c]⟩ w hcells (Array.getElem?_eq_some_iff.1 hg).1 (by rw [List.length_map]; omega) (by rw [List.length_map]; exact hcap) (by rw [hm]; show (Lib.join ls [c]).length ≤ _; rw [lib_joinB]; exact hl)
  rw [hm, List.length_map] at hj
  refine hj.mono fun e w' => ?_
  rintro ⟨rfl, hb⟩
  exact ⟨by show Ending.returned (Value.string ⟨(Lib.join ls [c]).toArray⟩) = _; rw [lib_joinB]; rfl, hb⟩
set_option maxRecDepth 100000 in
set_option maxHeartbeats 16000000 in
theorem vecText_any (l : List D2) (hl : l.length < 2000000) (v : Value) (w : World) (hv : HasDots w v l) (hT : PowTab w) : Calls Tryd.prog 29 #[v] w fun e w' => e = .returned (.string (str (textV l))) ∧ Below w.heap.size w w' := by
  obtain ⟨i0, hi, hz0, hz1, hz2⟩ := infoStr10
  have HV := Lib.hid hv
  have HT := Lib.hid hT
  have A1 := Lib.hid (fun w v hv => counts_V l hl v w hv)
  have MT := Lib.hid (fun G w hG => madeText_any (allV l) G w hG)
  have hmf : ∀ (fn : Fn) (first cap : Array Value) (w : World), (Instr.makeFunc fn first cap).run Tryd.prog w = .ok (.func fn first cap) w := fun _ _ _ _ => rfl
  obtain ⟨X, hX⟩ : ∃ X, X = vecOf l := ⟨_, rfl⟩
  have HX := Lib.hid (And.intro hX (show ∀ d ∈ X, mayT d = true by rw [hX]; exact vecOf_may l))
  obtain ⟨N, hN⟩ : ∃ N, N = X.length := ⟨_, rfl⟩
  have HN := Lib.hid (And.intro hN (show N ≤ 32 by rw [hN, hX]; exact ofN_length _ 32))
  have hN32 : N ≤ 32 := HN.out.2
  obtain ⟨ao, cap, rfl⟩ := dots_shape hv l.length rfl
  obtain ⟨n, hn⟩ : ∃ n, n = l.length := ⟨_, rfl⟩
  rw [← hn] at HV ⊢
  clear hv hl hn hT hX hN
  go_enter Tryd.func29, Tryd.ntmps29
  go_wp2_with (first
    | (go_at_call 35; with_reducible refine (A1.out w _ HV.out).mono ?_; rintro e w1 ⟨rfl, hb⟩; have B1 := Lib.hid hb; clear hb)
    | (refine alloc_as rfl 49 rfl _ zero49 ?_)
    | (refine store_new rfl 49 (.tmp 3) (.tmp 8) rfl rfl w1 _ (nums 32 (allV l)) 49 rfl rfl rfl (by rw [nums_size]; kernel_rfl) (by rw [nums_size, nums_size]) (nums_one _ _) ?_; intro w2 hg2 hb2 hs2; have HG := Lib.hid hg2; have B2 := Lib.hid (below_next B1.out hb2); clear hg2 hb2 hs2)
    | (go_at_call 40; refine (MT.out _ _ HG.out).mono ?_; rintro e w3 ⟨x, rfl, hx, hb⟩; have HD := Lib.hid (show HasDots w3 x X by rw [HX.out.1]; exact hx); obtain ⟨xo, xc, rfl⟩ := dots_shape HD.out N HN.out.1; have B3 := Lib.hid (below_next B2.out hb); clear hx hb))
  generalize w1.heap.size = G1 at *
  clear HG B1 B2
  go_loopw [4, 12] (fun v c wr => ∃ k : Nat, k ≤ N ∧ c = .int .i64 (k : Int) ∧ wr.ownsRow w3.heap.size 9 1 v (dotTs X k).length (textsL (dotTs X k)) ∧ Below w3.heap.size w3 wr) (fun _ c _ => N - (intOf c).toNat)
  case atStart => exact ⟨0, by omega, rfl, ⟨rfl, .inl ⟨rfl, rfl⟩⟩, Below.refl _ _⟩
  case round =>
    obtain ⟨k, hk, rfl, ho, hb⟩ := hrel
    have HO := Lib.hid ho
    have hd := dots_below HD.out hb
    have HB := Lib.hid hb
    by_cases hlt : k < N
    · have q0 : (k : Int) < (N : Int) := by omega
      have KK := Lib.hid (show k + 1 ≤ N ∧ N - (k + 1) < N - k by omega)
      obtain ⟨d, hdk⟩ : ∃ d, X[k]? = some d := ⟨_, List.getElem?_eq_getElem (by rw [← HN.out.1]; exact hlt)⟩
      have hm := mayT_bd (HX.out.2 d (List.mem_of_getElem? hdk))
      have HTN := Lib.hid (dotTs_next hdk)
      obtain ⟨r, q⟩ := d
      obtain ⟨ad, cap', e, c0, c1⟩ := dots_at hd N k HN.out.1.symm _ hdk
      cases e
      have C0 := Lib.hid (And.intro c0 c1)
      have D0 := Lib.hid (heap_last wr (.cells #[.int .i64 r, .int .i64 q] 25 (0, 0)))
      have K0 := (Below.refl wr.heap.size wr).alloc (Nat.le_refl _) (.cells #[.int .i64 r, .int .i64 q] 25 (0, 0))
      have B0 := Lib.hid (below_next hb K0)
      have O0 := Lib.hid (own_below ho K0)
      have TX := Lib.hid (fun w hT => text_any9 r q (by unfold I64; simp only at hm; omega) (by unfold I64; simp only at hm; omega) w hT)
      have HTL := Lib.hid (dotTs_length X k)
      replace TX := Lib.hid (show ∀ w, PowTab w → Calls Tryd.prog 44 #[.agg #[.int .i64 r, .int .i64 q]] w fun e w' => e = .returned (.string (str (dotT (r, q)))) ∧ Below w.heap.size w w' from TX.out)
      obtain ⟨T, hTT⟩ : ∃ T, T = dotT (r, q) := ⟨_, rfl⟩
      rw [← hTT] at TX HTN
      clear c0 c1 hdk hm ho hd hb K0 hlt hTT
      go_wp2_with (first
        | (refine load_dot10 (by rfl) 25 (.tmp 14) rfl (ad.add (k * 2)) rfl r q Tryd.underlying25 (by kernel_rfl) C0.out ?_)
        | (refine load_row_on (by rfl) 25 (.tmp 6) rfl wr.heap.size rfl 25 _ (0, 0) _ D0.out Tryd.underlying25 rfl (by kernel_rfl) ?_)
        | (go_at_call 44; refine (TX.out _ (powTab_below HT.out (below_next B3.out B0.out))).mono ?_; rintro e w4 ⟨rfl, hb⟩; have B4 := Lib.hid (below_next B0.out hb); have O4 := Lib.hid (own_below O0.out hb); clear hb)
        | (at_builtin; refine append_text rfl (.tmp 16) (.tmp 19) 60 rfl w3.heap.size 9 i0 Tryd.underlying60 hi hz0 hz1 hz2 _ (dotTs X k) T rfl (O4.out.alloc _) ⟨w4.heap.size, 0, none⟩ 1 rfl ((cell_of_row _ _ 0 _ _ _ (heap_last w4 _)).trans rfl) (by have := HTL.out; have := KK.out.1; have := HN.out.2; omega) (by have := B4.out.size; simp <;> omega) ?_; intro v1 w5 ho hg; rw [← HTN.out] at ho; have HO1 := Lib.hid ho; have HB1 := Lib.hid (below_grown (B4.out.alloc B4.out.size _) hg (by have := B4.out.size; simp <;> omega) (fun j hj => by have := (O4.out.lt j hj).1; omega)); clear ho hg))
      refine ⟨⟨k + 1, KK.out.1, by simp, HO1.out, HB1.out⟩, ?_⟩
      have := KK.out.2; simp [intOf]; omega
    · have q0 : ¬ (k : Int) < (N : Int) := by omega
      obtain rfl : k = N := by omega
      have HL := Lib.hid (show (X.map dotT).length = k by rw [List.length_map]; exact HN.out.1.symm)
      have hts : dotTs X k = X.map dotT := by conv => lhs; rw [HN.out.1]
                                              exact dotTs_all X
      rw [hts, HL.out] at ho
      clear hts
      obtain ⟨ao2, cap2, rfl⟩ := own_slice ho
      by_cases h0 : k = 0
      · subst h0
        have HE := Lib.hid (show str (textV l) = ⟨#[45]⟩ by rw [textV, ← HX.out.1, List.eq_nil_of_length_eq_zero HN.out.1.symm]; rfl)
        clear ho hd hlt
        go_wp2
        go_ret
        exact ⟨by rw [HE.out]; rfl, below_next B3.out hb⟩
      · have HE := Lib.hid (show joinB 44 (X.map dotT) = textV l by rw [textV, ← HX.out.1, textL, if_neg (fun e => h0 (by rw [HN.out.1, e]; rfl))])
        have e1 : ((k : Int) == 0) = false := by rw [beq_eq_false_iff_ne]; omega
        have JN := Lib.hid (join_any 44 (X.map dotT) wr _ _ _ (by rw [HL.out]; exact ho) (by rw [HL.out]; omega) (by rw [HL.out]; omega) (by rw [HE.out]; have := textV_length l; omega))
        rw [HE.out] at JN
        clear ho hd hlt h0
        go_wp2_with (first
          | (go_at_call 45; refine JN.out.mono ?_; rintro e w6 ⟨rfl, hb6⟩; have B6 := Lib.hid (below_next (below_next B3.out hb) hb6); clear hb6))
        go_ret
        exact ⟨rfl, B6.out⟩
end Go.Proofs.YtoephjmjlhgjeaaDoor
namespace Go.Proofs.YtoephjmjlhgjeaaDoor
open Go.RowKit
set_option maxRecDepth 100000 in
set_option maxHeartbeats 16000000 in
theorem refWith_any10 (l : List D2) (hl : l.length < 2000000) (r q : Int) (v : Value) (w : World) (hv : HasDots w v l) : Calls Tryd.prog 20 #[v, .agg #[.int .i64 r, .int .i64 q]] w fun e w' => ∃ u, e = .returned u ∧ HasDots w' u (withV l r q) ∧ Below w.heap.size w w' := by
  have HV := Lib.hid hv
  have MY := Lib.hid (fun w => refMay_any9 r q w)
  have A1 := Lib.hid (fun w v hv => refAll_V l hl v w hv)
  have O1 := Lib.hid (fun w => refOf_V (withN l r q) w)
  have E0 := Lib.hid (show (w.alloc (.cells #[.int .i64 r, .int .i64 q] 25 (0, 0))).heap[w.heap.size]? = some (.cells #[.int .i64 r, .int .i64 q] 25 (0, 0)) from one_box w r q)
  have B0 := Lib.hid ((Below.refl w.heap.size w).alloc (Nat.le_refl _) (.cells #[.int .i64 r, .int .i64 q] 25 (0, 0)))
  have L0 := Lib.hid (show w.heap.size < (w.alloc (.cells #[.int .i64 r, .int .i64 q] 25 (0, 0))).heap.size by simp)
  obtain ⟨ao, cap, rfl⟩ := dots_shape hv l.length rfl
  obtain ⟨n, hn⟩ : ∃ n, n = l.length := ⟨_, rfl⟩
  rw [← hn] at HV ⊢
  clear hv hl hn
  go_enter Tryd.func20, Tryd.ntmps20
  go_upto_region 1 with fail
  generalize w.alloc (.cells #[.int .i64 r, .int .i64 q] 25 (0, 0)) = W0 at *
  go_upto_region 2 with (first
    | (go_at_call 34; refine (A1.out W0 _ (dots_below HV.out B0.out)).mono ?_; rintro e w1 ⟨rfl, hb⟩; have E1 := Lib.hid (row_kept E0.out hb); have B1 := Lib.hid (below_next B0.out hb); have L1 := Lib.hid (show w.heap.size < w1.heap.size from Nat.lt_of_lt_of_le L0.out hb.size); clear hb)
    | (refine alloc_as rfl 47 rfl _ zero32 ?_)
    | (refine store_new rfl 47 (.tmp 5) (.tmp 7) rfl rfl w1 _ (nums 32 (allV l)) 47 rfl rfl rfl (by rw [nums_size]; kernel_rfl) (by rw [nums_size, nums_size]) (nums_one _ _) ?_; intro w2 hg2 hb2 hs2; have HG := Lib.hid hg2; have E2 := Lib.hid (row_kept E1.out hb2); have B2 := Lib.hid (below_next B1.out hb2); have LG := Lib.hid (And.intro L1.out hs2); clear hg2 hb2 hs2))
  obtain ⟨c0, c1⟩ := dot_cells (show _ = some (dotO r q) from E2.out)
  have C0 := Lib.hid c0
  have C1 := Lib.hid c1
  clear c0 c1 E0 E1 B0 B1 L0 L1
  generalize w1.heap.size = G at *
  cases hm : mayD r q with
  | false =>
    rw [hm] at MY
    have HS := Lib.hid (show nums 32 (allV l) = nums 32 (withN l r q) from nums_congr _ _ _ fun i _ => by
      rw [withN, if_neg (fun h => by rw [hm] at h; exact absurd h.1 (by decide))])
    rw [HS.out] at HG
    clear hm HS
    refine wp_region_held_drew (S := fun w' => Below w2.heap.size w2 w') (by kernel_rfl) (drawS (Below.refl _ _)) (fun hHeld => ?_)
    generalize w2.drew = wd at hHeld ⊢
    refine take_at (i := 0) 8 rfl rfl (by kernel_rfl) (by kernel_rfl) (by kernel_rfl) (fun _ _ _ h => h) (row_yields (by rfl) 25 (.tmp 3) rfl w.heap.size rfl 25 _ (0, 0) _ Tryd.underlying25 rfl (by kernel_rfl) (fun _ h => row_kept E2.out h)) hHeld ?_
    simp only [List.setIfInBounds_toArray, List.set_cons_zero, List.set_cons_succ]
    refine wpAnyH_ready (rs := [1]) (by kernel_rfl) (by simp) ?_
    refine AllReadyH.cons rfl (fun K hK => ?_) AllReadyH.nil
    go_simp
    go_at_call 31
    refine (MY.out _).mono ?_
    rintro e w6 ⟨rfl, hb⟩
    dsimp only
    refine hK.out _ _ (below_next hHeld hb) (fun hHeld => ?_)
    clear hK K hb
    refine take_at (i := 2) 10 rfl rfl (by kernel_rfl) (by kernel_rfl) (by kernel_rfl) (fun _ _ _ h => h) (sure_yes (by rfl) (fun w => by go_simp; try with_reducible rfl)) hHeld ?_
    simp only [List.setIfInBounds_toArray, List.set_cons_zero, List.set_cons_succ]
    refine take_at (i := 3) 11 rfl rfl (by kernel_rfl) (by kernel_rfl) (by kernel_rfl) (fun _ _ _ h => h) (.inr ⟨by rfl, rfl⟩) hHeld ?_
    simp only [List.setIfInBounds_toArray, List.set_cons_zero, List.set_cons_succ]
    refine take_at (i := 4) 12 rfl rfl (by kernel_rfl) (by kernel_rfl) (by kernel_rfl) (fun _ _ _ h => h) (.inr ⟨by rfl, rfl⟩) hHeld ?_
    simp only [List.setIfInBounds_toArray, List.set_cons_zero, List.set_cons_succ]
    refine take_at (i := 5) 13 rfl rfl (by kernel_rfl) (by kernel_rfl) (by kernel_rfl) (fun _ _ _ h => h) (.inr ⟨by rfl, rfl⟩) hHeld ?_
    simp only [List.setIfInBounds_toArray, List.set_cons_zero, List.set_cons_succ]
    refine take_at (i := 6) 14 rfl rfl (by kernel_rfl) (by kernel_rfl) (by kernel_rfl) (fun _ _ _ h => h) (.inr ⟨by rfl, rfl⟩) hHeld ?_
    simp only [List.setIfInBounds_toArray, List.set_cons_zero, List.set_cons_succ]
    refine take_at (i := 7) 15 rfl rfl (by kernel_rfl) (by kernel_rfl) (by kernel_rfl) (fun _ _ _ h => h) (.inr ⟨by rfl, rfl⟩) hHeld ?_
    simp only [List.setIfInBounds_toArray, List.set_cons_zero, List.set_cons_succ]
    refine take_at (i := 8) 16 rfl rfl (by kernel_rfl) (by kernel_rfl) (by kernel_rfl) (fun _ _ _ h => h) (.inr ⟨by rfl, rfl⟩) hHeld ?_
    simp only [List.setIfInBounds_toArray, List.set_cons_zero, List.set_cons_succ]
    refine take_at (i := 9) 17 rfl rfl (by kernel_rfl) (by kernel_rfl) (by kernel_rfl) (fun _ _ _ h => h) (.inr ⟨by rfl, rfl⟩) hHeld ?_
    simp only [List.setIfInBounds_toArray, List.set_cons_zero, List.set_cons_succ]
    refine take_at (i := 10) 18 rfl rfl (by kernel_rfl) (by kernel_rfl) (by kernel_rfl) (fun _ _ _ h => h) (sure_yes (by rfl) (fun w => by go_simp; try with_reducible rfl)) hHeld ?_
    simp only [List.setIfInBounds_toArray, List.set_cons_zero, List.set_cons_succ]
    refine wpAnyH_done (by kernel_rfl) ?_ _
    have HG6 := Lib.hid (row_kept HG.out hHeld)
    have B6 := Lib.hid (below_next B2.out hHeld)
    go_wp2_with (first
      | (refine wpList_load_row rfl 47 (.tmp 5) rfl G rfl 47 _ (0, 0) _ HG6.out Tryd.underlying47 rfl (by rw [nums_size]; kernel_rfl) ?_)
      | (go_at_call 33; refine (O1.out _).mono ?_; rintro e w8 ⟨u, rfl, hu, hb⟩; have HU := Lib.hid hu; have B8 := Lib.hid (below_next B6.out hb); clear hu hb))
    go_ret
    exact ⟨_, rfl, HU.out, B8.out⟩
  | true =>
    rw [hm] at MY
    have hb := mayT_bd (d := (r, q)) hm
    simp only at hb
    obtain ⟨i, hi⟩ : ∃ i : Nat, r = (i : Int) := ⟨r.toNat, by omega⟩
    subst hi
    have hi32 : i < 32 := by omega
    have qi : (i : Int) < 32 := by omega
    obtain ⟨m, hme⟩ : ∃ m, m = allV l i := ⟨_, rfl⟩
    have CM := Lib.hid (show w2.cell? ⟨G, i, none⟩ = some (.int .i64 m) by rw [hme]; exact nums_cell HG.out i hi32)
    by_cases hgt : m < q
    · have d1 : decide (q > m) = true := decide_eq_true hgt
      have HS := Lib.hid (show (nums 32 (allV l)).setIfInBounds i (.int .i64 q) = nums 32 (withN l (i : Int) q) from nums_set _ _ _ _ _ fun j _ => by
        rw [withN]
        by_cases hj : j = i
        · subst hj; rw [if_pos rfl, if_pos ⟨hm, rfl, by rw [← hme]; exact hgt⟩]
        · rw [if_neg hj, if_neg (fun h => hj (by have := h.2.1; omega))])
      have HI := Lib.hid hi32
      clear hm hb hgt hme hi32
      refine wp_region_held_drew (S := fun w' => Below w2.heap.size w2 w') (by kernel_rfl) (drawS (Below.refl _ _)) (fun hHeld => ?_)
      generalize w2.drew = wd at hHeld ⊢
      refine take_at (i := 0) 8 rfl rfl (by kernel_rfl) (by kernel_rfl) (by kernel_rfl) (fun _ _ _ h => h) (row_yields (by rfl) 25 (.tmp 3) rfl w.heap.size rfl 25 _ (0, 0) _ Tryd.underlying25 rfl (by kernel_rfl) (fun _ h => row_kept E2.out h)) hHeld ?_
      simp only [List.setIfInBounds_toArray, List.set_cons_zero, List.set_cons_succ]
      refine wpAnyH_ready (rs := [1]) (by kernel_rfl) (by simp) ?_
      refine AllReadyH.cons rfl (fun K hK => ?_) AllReadyH.nil
      go_simp
      go_at_call 31
      refine (MY.out _).mono ?_
      rintro e w6 ⟨rfl, hb⟩
      dsimp only
      refine hK.out _ _ (below_next hHeld hb) (fun hHeld => ?_)
      clear hK K hb
      refine take_at (i := 2) 10 rfl rfl (by kernel_rfl) (by kernel_rfl) (by kernel_rfl) (fun _ _ _ h => h) (sure_yes (by rfl) (fun w => by go_simp; try with_reducible rfl)) hHeld ?_
      simp only [List.setIfInBounds_toArray, List.set_cons_zero, List.set_cons_succ]
      refine take_at (i := 3) 11 rfl rfl (by kernel_rfl) (by kernel_rfl) (by kernel_rfl) (fun _ _ _ h => h) (sure_yes (by rfl) (fun w => by go_simp; try with_reducible rfl)) hHeld ?_
      simp only [List.setIfInBounds_toArray, List.set_cons_zero, List.set_cons_succ]
      refine take_at (i := 5) 13 rfl rfl (by kernel_rfl) (by kernel_rfl) (by kernel_rfl) (fun _ _ _ h => h) (sure_yes (by rfl) (fun w => by go_simp; try with_reducible rfl)) hHeld ?_
      simp only [List.setIfInBounds_toArray, List.set_cons_zero, List.set_cons_succ]
      refine take_at (i := 4) 12 rfl rfl (by kernel_rfl) (by kernel_rfl) (by kernel_rfl) (fun _ _ _ h => h) (cell_yields (by rfl) 2 (.tmp 11) rfl w.heap.size 1 rfl .i64 q Tryd.underlying2 (fun w h => (World.cell?_of_block (h.block _ (World.block_lt_of_cell? _ _ C1.out))).trans C1.out)) hHeld ?_
      simp only [List.setIfInBounds_toArray, List.set_cons_zero, List.set_cons_succ]
      refine take_at (i := 6) 14 rfl rfl (by kernel_rfl) (by kernel_rfl) (by kernel_rfl) (fun _ _ _ h => h) (cell_yields (by rfl) 3 (.tmp 13) rfl w.heap.size 0 rfl .i64 (i : Int) Tryd.underlying3 (fun w h => (World.cell?_of_block (h.block _ (World.block_lt_of_cell? _ _ C0.out))).trans C0.out)) hHeld ?_
      simp only [List.setIfInBounds_toArray, List.set_cons_zero, List.set_cons_succ]
      refine take_at (i := 7) 15 rfl rfl (by kernel_rfl) (by kernel_rfl) (by kernel_rfl) (fun _ _ _ h => h) (sure_yes (by rfl) (fun w => by go_simp; try with_reducible rfl)) hHeld ?_
      simp only [List.setIfInBounds_toArray, List.set_cons_zero, List.set_cons_succ]
      refine take_at (i := 8) 16 rfl rfl (by kernel_rfl) (by kernel_rfl) (by kernel_rfl) (fun _ _ _ h => h) (cell_yields (by rfl) 2 (.tmp 15) rfl G i rfl .i64 m Tryd.underlying2 (fun w h => (World.cell?_of_block (h.block _ (World.block_lt_of_cell? _ _ CM.out))).trans CM.out)) hHeld ?_
      simp only [List.setIfInBounds_toArray, List.set_cons_zero, List.set_cons_succ]
      refine take_at (i := 9) 17 rfl rfl (by kernel_rfl) (by kernel_rfl) (by kernel_rfl) (fun _ _ _ h => h) (sure_yes (by rfl) (fun w => by go_simp; try with_reducible rfl)) hHeld ?_
      simp only [List.setIfInBounds_toArray, List.set_cons_zero, List.set_cons_succ]
      refine take_at (i := 10) 18 rfl rfl (by kernel_rfl) (by kernel_rfl) (by kernel_rfl) (fun _ _ _ h => h) (sure_yes (by rfl) (fun w => by go_simp; try with_reducible rfl)) hHeld ?_
      simp only [List.setIfInBounds_toArray, List.set_cons_zero, List.set_cons_succ]
      refine wpAnyH_done (by kernel_rfl) ?_ _
      have c0 := (World.cell?_of_block (hHeld.block _ (World.block_lt_of_cell? _ _ C0.out))).trans C0.out
      have c1 := (World.cell?_of_block (hHeld.block _ (World.block_lt_of_cell? _ _ C1.out))).trans C1.out
      have HG6 := Lib.hid (row_kept HG.out hHeld)
      have B6 := Lib.hid (below_next B2.out hHeld)
      clear hHeld C0 C1 CM HG
      go_wp2_with (first
        | (refine store_cell rfl 2 (.tmp 23) (.tmp 22) rfl rfl .i64 G i _ q 47 HG6.out rfl rfl (by rw [nums_size]; exact HI.out) (by kernel_rfl) ?_; intro w7 hg7 hs7; rw [HS.out] at hg7; have HG7 := Lib.hid hg7; have B7 := Lib.hid (solo_below B6.out hs7 (Nat.le_of_lt LG.out.1)); clear hg7 hs7)
        | (refine wpList_load_row rfl 47 (.tmp 5) rfl G rfl 47 _ (0, 0) _ HG7.out Tryd.underlying47 rfl (by rw [nums_size]; kernel_rfl) ?_)
        | (go_at_call 33; refine (O1.out _).mono ?_; rintro e w8 ⟨u, rfl, hu, hb⟩; have HU := Lib.hid hu; have B8 := Lib.hid (below_next B7.out hb); clear hu hb))
      go_ret
      exact ⟨_, rfl, HU.out, B8.out⟩
    · have d1 : decide (q > m) = false := decide_eq_false (by omega)
      have HS := Lib.hid (show nums 32 (allV l) = nums 32 (withN l (i : Int) q) from nums_congr _ _ _ fun j _ => by
        rw [withN, if_neg (fun h => by
          obtain rfl : j = i := by have := h.2.1; omega
          rw [← hme] at h; exact hgt h.2.2)])
      clear hm hb hgt hme hi32
      refine wp_region_held_drew (S := fun w' => Below w2.heap.size w2 w') (by kernel_rfl) (drawS (Below.refl _ _)) (fun hHeld => ?_)
      generalize w2.drew = wd at hHeld ⊢
      refine take_at (i := 0) 8 rfl rfl (by kernel_rfl) (by kernel_rfl) (by kernel_rfl) (fun _ _ _ h => h) (row_yields (by rfl) 25 (.tmp 3) rfl w.heap.size rfl 25 _ (0, 0) _ Tryd.underlying25 rfl (by kernel_rfl) (fun _ h => row_kept E2.out h)) hHeld ?_
      simp only [List.setIfInBounds_toArray, List.set_cons_zero, List.set_cons_succ]
      refine wpAnyH_ready (rs := [1]) (by kernel_rfl) (by simp) ?_
      refine AllReadyH.cons rfl (fun K hK => ?_) AllReadyH.nil
      go_simp
      go_at_call 31
      refine (MY.out _).mono ?_
      rintro e w6 ⟨rfl, hb⟩
      dsimp only
      refine hK.out _ _ (below_next hHeld hb) (fun hHeld => ?_)
      clear hK K hb
      refine take_at (i := 2) 10 rfl rfl (by kernel_rfl) (by kernel_rfl) (by kernel_rfl) (fun _ _ _ h => h) (sure_yes (by rfl) (fun w => by go_simp; try with_reducible rfl)) hHeld ?_
      simp only [List.setIfInBounds_toArray, List.set_cons_zero, List.set_cons_succ]
      refine take_at (i := 3) 11 rfl rfl (by kernel_rfl) (by kernel_rfl) (by kernel_rfl) (fun _ _ _ h => h) (sure_yes (by rfl) (fun w => by go_simp; try with_reducible rfl)) hHeld ?_
      simp only [List.setIfInBounds_toArray, List.set_cons_zero, List.set_cons_succ]
      refine take_at (i := 5) 13 rfl rfl (by kernel_rfl) (by kernel_rfl) (by kernel_rfl) (fun _ _ _ h => h) (sure_yes (by rfl) (fun w => by go_simp; try with_reducible rfl)) hHeld ?_
      simp only [List.setIfInBounds_toArray, List.set_cons_zero, List.set_cons_succ]
      refine take_at (i := 4) 12 rfl rfl (by kernel_rfl) (by kernel_rfl) (by kernel_rfl) (fun _ _ _ h => h) (cell_yields (by rfl) 2 (.tmp 11) rfl w.heap.size 1 rfl .i64 q Tryd.underlying2 (fun w h => (World.cell?_of_block (h.block _ (World.block_lt_of_cell? _ _ C1.out))).trans C1.out)) hHeld ?_
      simp only [List.setIfInBounds_toArray, List.set_cons_zero, List.set_cons_succ]
      refine take_at (i := 6) 14 rfl rfl (by kernel_rfl) (by kernel_rfl) (by kernel_rfl) (fun _ _ _ h => h) (cell_yields (by rfl) 3 (.tmp 13) rfl w.heap.size 0 rfl .i64 (i : Int) Tryd.underlying3 (fun w h => (World.cell?_of_block (h.block _ (World.block_lt_of_cell? _ _ C0.out))).trans C0.out)) hHeld ?_
      simp only [List.setIfInBounds_toArray, List.set_cons_zero, List.set_cons_succ]
      refine take_at (i := 7) 15 rfl rfl (by kernel_rfl) (by kernel_rfl) (by kernel_rfl) (fun _ _ _ h => h) (sure_yes (by rfl) (fun w => by go_simp; try with_reducible rfl)) hHeld ?_
      simp only [List.setIfInBounds_toArray, List.set_cons_zero, List.set_cons_succ]
      refine take_at (i := 8) 16 rfl rfl (by kernel_rfl) (by kernel_rfl) (by kernel_rfl) (fun _ _ _ h => h) (cell_yields (by rfl) 2 (.tmp 15) rfl G i rfl .i64 m Tryd.underlying2 (fun w h => (World.cell?_of_block (h.block _ (World.block_lt_of_cell? _ _ CM.out))).trans CM.out)) hHeld ?_
      simp only [List.setIfInBounds_toArray, List.set_cons_zero, List.set_cons_succ]
      refine take_at (i := 9) 17 rfl rfl (by kernel_rfl) (by kernel_rfl) (by kernel_rfl) (fun _ _ _ h => h) (sure_yes (by rfl) (fun w => by go_simp; try with_reducible rfl)) hHeld ?_
      simp only [List.setIfInBounds_toArray, List.set_cons_zero, List.set_cons_succ]
      refine take_at (i := 10) 18 rfl rfl (by kernel_rfl) (by kernel_rfl) (by kernel_rfl) (fun _ _ _ h => h) (sure_yes (by rfl) (fun w => by go_simp; try with_reducible rfl)) hHeld ?_
      simp only [List.setIfInBounds_toArray, List.set_cons_zero, List.set_cons_succ]
      refine wpAnyH_done (by kernel_rfl) ?_ _
      have HG6 := Lib.hid (show w6.heap[G]? = some (.cells (nums 32 (withN l (i : Int) q)) 47 (0, 0)) by rw [← HS.out]; exact row_kept HG.out hHeld)
      have B6 := Lib.hid (below_next B2.out hHeld)
      go_wp2_with (first
        | (refine wpList_load_row rfl 47 (.tmp 5) rfl G rfl 47 _ (0, 0) _ HG6.out Tryd.underlying47 rfl (by rw [nums_size]; kernel_rfl) ?_)
        | (go_at_call 33; refine (O1.out _).mono ?_; rintro e w8 ⟨u, rfl, hu, hb⟩; have HU := Lib.hid hu; have B8 := Lib.hid (below_next B6.out hb); clear hu hb))
      go_ret
      exact ⟨_, rfl, HU.out, B8.out⟩
end Go.Proofs.YtoephjmjlhgjeaaDoor
namespace Go.Proofs.YtoephjmjlhgjeaaDoor
open Go.RowKit
/-- The first k numbers are the new ones. -/
def mixN (f g : Nat → Int) (k i : Nat) : Int := if i < k then g i else f i
theorem mixN_zero (n : Nat) (f g : Nat → Int) : nums n (mixN f g 0) = nums n f := nums_congr _ _ _ fun _ _ => if_neg (by omega)
theorem mixN_full (n : Nat) (f g : Nat → Int) : nums n (mixN f g n) = nums n g := nums_congr _ _ _ fun _ hi => if_pos hi
theorem mixN_set (n : Nat) (f g : Nat → Int) (k : Nat) : (nums n (mixN f g k)).setIfInBounds k (.int .i64 (g k)) = nums n (mixN f g (k + 1)) := nums_set _ _ _ _ _ fun j _ => by
  unfold mixN
  by_cases h : j = k
  · subst h; rw [if_pos rfl, if_pos (by omega)]
  · rw [if_neg h]
    by_cases h2 : j < k
    · rw [if_pos h2, if_pos (by omega)]
    · rw [if_neg h2, if_neg (by omega)]
theorem mixN_at (f g : Nat → Int) (k : Nat) : mixN f g k k = f k := if_neg (Nat.lt_irrefl _)
theorem max_if (x y : Int) : (if x < y then y else x) = max x y := by split <;> omega
theorem min_if (x y : Int) : (if y < x then y else x) = min x y := by split <;> omega
set_option maxRecDepth 100000 in
set_option maxHeartbeats 16000000 in
theorem refJoin_any10 (a b : List D2) (ha : a.length < 2000000) (hb : b.length < 2000000) (v u : Value) (w : World) (hv : HasDots w v a) (hu : HasDots w u b) : Calls Tryd.prog 24 #[v, u] w fun e w' => ∃ x, e = .returned x ∧ HasDots w' x (joinV a b) ∧ Below w.heap.size w w' := by
  have HV := Lib.hid hv
  have HU := Lib.hid hu
  have A1 := Lib.hid (fun w v hv => refAll_V a ha v w hv)
  have A2 := Lib.hid (fun w v hv => refAll_V b hb v w hv)
  have O1 := Lib.hid (fun w => refOf_V (joinN a b) w)
  obtain ⟨ao, cap, rfl⟩ := dots_shape hv a.length rfl
  obtain ⟨ao2, cap2, rfl⟩ := dots_shape hu b.length rfl
  obtain ⟨n, hn⟩ : ∃ n, n = a.length := ⟨_, rfl⟩
  obtain ⟨m, hm⟩ : ∃ m, m = b.length := ⟨_, rfl⟩
  rw [← hn] at HV ⊢
  rw [← hm] at HU ⊢
  clear hv hu ha hb hn hm
  go_enter Tryd.func24, Tryd.ntmps24
  go_upto_region 2 with (first
    | (go_at_call 34; refine (A1.out w _ HV.out).mono ?_; rintro e w1 ⟨rfl, hb⟩; have B1 := Lib.hid hb; clear hb)
    | (refine alloc_as rfl 47 rfl _ zero32 ?_)
    | (refine store_new rfl 47 (.tmp 5) (.tmp 9) rfl rfl w1 _ (nums 32 (allV a)) 47 rfl rfl rfl (by rw [nums_size]; kernel_rfl) (by rw [nums_size, nums_size]) (nums_one _ _) ?_; intro w2 hg2 hb2 hs2; have HG := Lib.hid hg2; have B2 := Lib.hid (below_next B1.out hb2); have LG := Lib.hid (And.intro B1.out.size hs2); clear hg2 hb2 hs2))
  generalize w1.heap.size = G at *
  go_upto_region 3 with (first
    | (go_at_call 34; refine (A2.out w2 _ (dots_below HU.out B2.out)).mono ?_; rintro e w3 ⟨rfl, hb⟩; have HG3 := Lib.hid (row_kept HG.out hb); have B3 := Lib.hid (below_next B2.out hb); have L3 := Lib.hid (show G < w3.heap.size from Nat.lt_of_lt_of_le LG.out.2 hb.size); clear hb)
    | (refine alloc_as rfl 47 rfl _ zero32 ?_)
    | (refine store_new rfl 47 (.tmp 6) (.tmp 11) rfl rfl w3 _ (nums 32 (allV b)) 47 rfl rfl rfl (by rw [nums_size]; kernel_rfl) (by rw [nums_size, nums_size]) (nums_one _ _) ?_; intro w4 hg4 hb4 hs4; have HH := Lib.hid hg4; have GG := Lib.hid (row_kept HG3.out hb4); have B4 := Lib.hid (below_next B3.out hb4); clear hg4 hb4 hs4))
  have HGH := Lib.hid (show G ≠ w3.heap.size ∧ w.heap.size ≤ G from ⟨Nat.ne_of_lt L3.out, LG.out.1⟩)
  generalize w3.heap.size = H at *
  go_wp2
  go_loopw [7] (fun c wr => ∃ k : Nat, k ≤ 32 ∧ c = .int .i64 (k : Int) ∧ wr.heap[G]? = some (.cells (nums 32 (mixN (allV a) (joinN a b) k)) 47 (0, 0)) ∧ wr.heap[H]? = some (.cells (nums 32 (allV b)) 47 (0, 0)) ∧ Below w.heap.size w wr) (fun c _ => 32 - (intOf c).toNat)
  case atStart => exact ⟨0, by omega, rfl, by rw [mixN_zero]; exact GG.out, HH.out, B4.out⟩
  case round =>
    clear GG HH B4
    obtain ⟨k, hk, rfl, hg, hh, hb⟩ := hrel
    by_cases hlt : k < 32
    · have q0 : (k : Int) < 32 := by omega
      have c0 := nums_cell hg k hlt
      have c1 := nums_cell hh k hlt
      rw [mixN_at] at c0
      have HG := Lib.hid hg
      have HH := Lib.hid hh
      have HB := Lib.hid hb
      have HK := Lib.hid hlt
      have KK := Lib.hid (show k + 1 ≤ 32 ∧ 32 - (k + 1) < 32 - k by omega)
      have HM := Lib.hid (mixN_set 32 (allV a) (joinN a b) k)
      obtain ⟨x, hx⟩ : ∃ x, x = allV a k := ⟨_, rfl⟩
      obtain ⟨y, hy⟩ : ∃ y, y = allV b k := ⟨_, rfl⟩
      have HXY := Lib.hid (show joinN a b k = max x y by rw [joinN, hx, hy])
      rw [← hx] at c0
      rw [← hy] at c1
      rw [HXY.out] at HM
      clear hg hh hb hlt hx hy
      go_wp2
      go_still_tail 9, (by kernel_rfl)
      try rw [max_if x y]
      change wpList _ _ _ _ _ wr.drew
      have hg : wr.drew.heap[G]? = _ := HG.out
      have hh : wr.drew.heap[H]? = _ := HH.out
      have hb := below_draws HB.out 1
      change Below _ _ wr.drew at hb
      clear HG HH HB c0 c1 HXY
      generalize wr.drew = w7 at *
      generalize max x y = z at *
      go_wp2_with (first
        | (refine store_cell rfl 2 (.tmp 24) (.tmp 23) rfl rfl .i64 G k _ z 47 hg rfl rfl (by rw [nums_size]; exact HK.out) (by kernel_rfl) ?_; intro w8 hg8 hs8; rw [HM.out] at hg8; have H8 := Lib.hid (And.intro hg8 (And.intro ((hs8.block H (Ne.symm HGH.out.1)).trans hh) (solo_below hb hs8 HGH.out.2))); clear hg8 hs8 hg hh hb))
      refine ⟨⟨k + 1, KK.out.1, by simp, H8.out.1, H8.out.2.1, H8.out.2.2⟩, ?_⟩
      have := KK.out.2; simp [intOf] <;> omega
    · have q0 : ¬ (k : Int) < 32 := by omega
      obtain rfl : k = 32 := by omega
      rw [mixN_full] at hg
      have HG := Lib.hid hg
      have HB := Lib.hid hb
      clear hg hh hb hlt
      go_wp2_with (first
        | (refine wpList_load_row rfl 47 (.tmp 5) rfl G rfl 47 _ (0, 0) _ HG.out Tryd.underlying47 rfl (by rw [nums_size]; kernel_rfl) ?_)
        | (go_at_call 33; refine (O1.out _).mono ?_; rintro e w8 ⟨x, rfl, hx, hb⟩; have HX := Lib.hid hx; have B8 := Lib.hid (below_next HB.out hb); clear hx hb))
      go_ret
      exact ⟨_, rfl, HX.out, B8.out⟩
set_option maxRecDepth 100000 in
set_option maxHeartbeats 16000000 in
theorem refMeet_any10 (a b : List D2) (ha : a.length < 2000000) (hb : b.length < 2000000) (v u : Value) (w : World) (hv : HasDots w v a) (hu : HasDots w u b) : Calls Tryd.prog 26 #[v, u] w fun e w' => ∃ x, e = .returned x ∧ HasDots w' x (meetV a b) ∧ Below w.heap.size w w' := by
  have HV := Lib.hid hv
  have HU := Lib.hid hu
  have A1 := Lib.hid (fun w v hv => refAll_V a ha v w hv)
  have A2 := Lib.hid (fun w v hv => refAll_V b hb v w hv)
  have O1 := Lib.hid (fun w => refOf_V (meetN a b) w)
  obtain ⟨ao, cap, rfl⟩ := dots_shape hv a.length rfl
  obtain ⟨ao2, cap2, rfl⟩ := dots_shape hu b.length rfl
  obtain ⟨n, hn⟩ : ∃ n, n = a.length := ⟨_, rfl⟩
  obtain ⟨m, hm⟩ : ∃ m, m = b.length := ⟨_, rfl⟩
  rw [← hn] at HV ⊢
  rw [← hm] at HU ⊢
  clear hv hu ha hb hn hm
  go_enter Tryd.func26, Tryd.ntmps26
  go_upto_region 2 with (first
    | (go_at_call 34; refine (A1.out w _ HV.out).mono ?_; rintro e w1 ⟨rfl, hb⟩; have B1 := Lib.hid hb; clear hb)
    | (refine alloc_as rfl 47 rfl _ zero32 ?_)
    | (refine store_new rfl 47 (.tmp 5) (.tmp 9) rfl rfl w1 _ (nums 32 (allV a)) 47 rfl rfl rfl (by rw [nums_size]; kernel_rfl) (by rw [nums_size, nums_size]) (nums_one _ _) ?_; intro w2 hg2 hb2 hs2; have HG := Lib.hid hg2; have B2 := Lib.hid (below_next B1.out hb2); have LG := Lib.hid (And.intro B1.out.size hs2); clear hg2 hb2 hs2))
  generalize w1.heap.size = G at *
  go_upto_region 3 with (first
    | (go_at_call 34; refine (A2.out w2 _ (dots_below HU.out B2.out)).mono ?_; rintro e w3 ⟨rfl, hb⟩; have HG3 := Lib.hid (row_kept HG.out hb); have B3 := Lib.hid (below_next B2.out hb); have L3 := Lib.hid (show G < w3.heap.size from Nat.lt_of_lt_of_le LG.out.2 hb.size); clear hb)
    | (refine alloc_as rfl 47 rfl _ zero32 ?_)
    | (refine store_new rfl 47 (.tmp 6) (.tmp 11) rfl rfl w3 _ (nums 32 (allV b)) 47 rfl rfl rfl (by rw [nums_size]; kernel_rfl) (by rw [nums_size, nums_size]) (nums_one _ _) ?_; intro w4 hg4 hb4 hs4; have HH := Lib.hid hg4; have GG := Lib.hid (row_kept HG3.out hb4); have B4 := Lib.hid (below_next B3.out hb4); clear hg4 hb4 hs4))
  have HGH := Lib.hid (show G ≠ w3.heap.size ∧ w.heap.size ≤ G from ⟨Nat.ne_of_lt L3.out, LG.out.1⟩)
  generalize w3.heap.size = H at *
  go_wp2
  go_loopw [7] (fun c wr => ∃ k : Nat, k ≤ 32 ∧ c = .int .i64 (k : Int) ∧ wr.heap[G]? = some (.cells (nums 32 (mixN (allV a) (meetN a b) k)) 47 (0, 0)) ∧ wr.heap[H]? = some (.cells (nums 32 (allV b)) 47 (0, 0)) ∧ Below w.heap.size w wr) (fun c _ => 32 - (intOf c).toNat)
  case atStart => exact ⟨0, by omega, rfl, by rw [mixN_zero]; exact GG.out, HH.out, B4.out⟩
  case round =>
    clear GG HH B4
    obtain ⟨k, hk, rfl, hg, hh, hb⟩ := hrel
    by_cases hlt : k < 32
    · have q0 : (k : Int) < 32 := by omega
      have c0 := nums_cell hg k hlt
      have c1 := nums_cell hh k hlt
      rw [mixN_at] at c0
      have HG := Lib.hid hg
      have HH := Lib.hid hh
      have HB := Lib.hid hb
      have HK := Lib.hid hlt
      have KK := Lib.hid (show k + 1 ≤ 32 ∧ 32 - (k + 1) < 32 - k by omega)
      have HM := Lib.hid (mixN_set 32 (allV a) (meetN a b) k)
      obtain ⟨x, hx⟩ : ∃ x, x = allV a k := ⟨_, rfl⟩
      obtain ⟨y, hy⟩ : ∃ y, y = allV b k := ⟨_, rfl⟩
      have HXY := Lib.hid (show meetN a b k = min x y by rw [meetN, hx, hy])
      rw [← hx] at c0
      rw [← hy] at c1
      rw [HXY.out] at HM
      clear hg hh hb hlt hx hy
      go_wp2
      go_still_tail 9, (by kernel_rfl)
      try rw [min_if x y]
      change wpList _ _ _ _ _ wr.drew
      have hg : wr.drew.heap[G]? = _ := HG.out
      have hh : wr.drew.heap[H]? = _ := HH.out
      have hb := below_draws HB.out 1
      change Below _ _ wr.drew at hb
      clear HG HH HB c0 c1 HXY
      generalize wr.drew = w7 at *
      generalize min x y = z at *
      go_wp2_with (first
        | (refine store_cell rfl 2 (.tmp 24) (.tmp 23) rfl rfl .i64 G k _ z 47 hg rfl rfl (by rw [nums_size]; exact HK.out) (by kernel_rfl) ?_; intro w8 hg8 hs8; rw [HM.out] at hg8; have H8 := Lib.hid (And.intro hg8 (And.intro ((hs8.block H (Ne.symm HGH.out.1)).trans hh) (solo_below hb hs8 HGH.out.2))); clear hg8 hs8 hg hh hb))
      refine ⟨⟨k + 1, KK.out.1, by simp, H8.out.1, H8.out.2.1, H8.out.2.2⟩, ?_⟩
      have := KK.out.2; simp [intOf] <;> omega
    · have q0 : ¬ (k : Int) < 32 := by omega
      obtain rfl : k = 32 := by omega
      rw [mixN_full] at hg
      have HG := Lib.hid hg
      have HB := Lib.hid hb
      clear hg hh hb hlt
      go_wp2_with (first
        | (refine wpList_load_row rfl 47 (.tmp 5) rfl G rfl 47 _ (0, 0) _ HG.out Tryd.underlying47 rfl (by rw [nums_size]; kernel_rfl) ?_)
        | (go_at_call 33; refine (O1.out _).mono ?_; rintro e w8 ⟨x, rfl, hx, hb⟩; have HX := Lib.hid hx; have B8 := Lib.hid (below_next HB.out hb); clear hx hb))
      go_ret
      exact ⟨_, rfl, HX.out, B8.out⟩
set_option maxRecDepth 100000 in
set_option maxHeartbeats 16000000 in
theorem refLeq_any10 (a b : List D2) (ha : a.length < 2000000) (hb : b.length < 2000000) (v u : Value) (w : World) (hv : HasDots w v a) (hu : HasDots w u b) : Calls Tryd.prog 28 #[v, u] w fun e w' => e = .returned (.bool (leqV a b)) ∧ Below w.heap.size w w' := by
  have HV := Lib.hid hv
  have HU := Lib.hid hu
  have A1 := Lib.hid (fun w v hv => refAll_V a ha v w hv)
  have A2 := Lib.hid (fun w v hv => refAll_V b hb v w hv)
  obtain ⟨ao, cap, rfl⟩ := dots_shape hv a.length rfl
  obtain ⟨ao2, cap2, rfl⟩ := dots_shape hu b.length rfl
  obtain ⟨n, hn⟩ : ∃ n, n = a.length := ⟨_, rfl⟩
  obtain ⟨m, hm⟩ : ∃ m, m = b.length := ⟨_, rfl⟩
  rw [← hn] at HV ⊢
  rw [← hm] at HU ⊢
  clear hv hu ha hb hn hm
  go_enter Tryd.func28, Tryd.ntmps28
  go_upto_region 2 with (first
    | (go_at_call 34; refine (A1.out w _ HV.out).mono ?_; rintro e w1 ⟨rfl, hb⟩; have B1 := Lib.hid hb; clear hb)
    | (refine alloc_as rfl 47 rfl _ zero32 ?_)
    | (refine store_new rfl 47 (.tmp 5) (.tmp 9) rfl rfl w1 _ (nums 32 (allV a)) 47 rfl rfl rfl (by rw [nums_size]; kernel_rfl) (by rw [nums_size, nums_size]) (nums_one _ _) ?_; intro w2 hg2 hb2 hs2; have HG := Lib.hid hg2; have B2 := Lib.hid (below_next B1.out hb2); have LG := Lib.hid (And.intro B1.out.size hs2); clear hg2 hb2 hs2))
  generalize w1.heap.size = G at *
  go_upto_region 3 with (first
    | (go_at_call 34; refine (A2.out w2 _ (dots_below HU.out B2.out)).mono ?_; rintro e w3 ⟨rfl, hb⟩; have HG3 := Lib.hid (row_kept HG.out hb); have B3 := Lib.hid (below_next B2.out hb); have L3 := Lib.hid (show G < w3.heap.size from Nat.lt_of_lt_of_le LG.out.2 hb.size); clear hb)
    | (refine alloc_as rfl 47 rfl _ zero32 ?_)
    | (refine store_new rfl 47 (.tmp 6) (.tmp 11) rfl rfl w3 _ (nums 32 (allV b)) 47 rfl rfl rfl (by rw [nums_size]; kernel_rfl) (by rw [nums_size, nums_size]) (nums_one _ _) ?_; intro w4 hg4 hb4 hs4; have HH := Lib.hid hg4; have GG := Lib.hid (row_kept HG3.out hb4); have B4 := Lib.hid (below_next B3.out hb4); clear hg4 hb4 hs4))
  have HGH := Lib.hid (show G ≠ w3.heap.size ∧ w.heap.size ≤ G from ⟨Nat.ne_of_lt L3.out, LG.out.1⟩)
  generalize w3.heap.size = H at *
  go_wp2
  go_loopw [7] (fun c wr => ∃ k : Nat, k ≤ 32 ∧ c = .int .i64 (k : Int) ∧ (∀ i, i < k → allV a i ≤ allV b i) ∧ wr.heap[G]? = some (.cells (nums 32 (allV a)) 47 (0, 0)) ∧ wr.heap[H]? = some (.cells (nums 32 (allV b)) 47 (0, 0)) ∧ Below w.heap.size w wr) (fun c _ => 32 - (intOf c).toNat)
  case atStart => exact ⟨0, by omega, rfl, (fun i hi => absurd hi (by omega)), GG.out, HH.out, B4.out⟩
  case round =>
    clear GG HH B4
    obtain ⟨k, hk, rfl, hall, hg, hh, hb⟩ := hrel
    by_cases hlt : k < 32
    · have q0 : (k : Int) < 32 := by omega
      have c0 := nums_cell hg k hlt
      have c1 := nums_cell hh k hlt
      have HG := Lib.hid hg
      have HH := Lib.hid hh
      have HB := Lib.hid hb
      have HA := Lib.hid hall
      have KK := Lib.hid (show k + 1 ≤ 32 ∧ 32 - (k + 1) < 32 - k by omega)
      have HL := Lib.hid (leqV_iff a b)
      obtain ⟨x, hx⟩ : ∃ x, x = allV a k := ⟨_, rfl⟩
      obtain ⟨y, hy⟩ : ∃ y, y = allV b k := ⟨_, rfl⟩
      rw [← hx] at c0
      rw [← hy] at c1
      by_cases hgt : x > y
      · have d1 : decide (x > y) = true := decide_eq_true hgt
        have HF := Lib.hid (show leqV a b = false by
          cases h : leqV a b with
          | false => rfl
          | true => have := HL.out.1 h k hlt; omega)
        clear hall hg hh hb hgt hx hy
        go_wp2
        go_quiet (fail)
        go_wp2
        go_ret
        exact ⟨by rw [HF.out]; rfl, below_draws HB.out _⟩
      · have d1 : decide (x > y) = false := decide_eq_false hgt
        have HN := Lib.hid (show ∀ i, i < k + 1 → allV a i ≤ allV b i from fun i hi => by
          by_cases e : i = k
          · subst e; omega
          · exact HA.out i (by omega))
        clear hall hg hh hb hgt hx hy
        go_wp2
        go_quiet (fail)
        go_wp2
        refine ⟨⟨k + 1, KK.out.1, by simp, HN.out, HG.out, HH.out, below_draws HB.out _⟩, ?_⟩
        have := KK.out.2; simp [intOf] <;> omega
    · have q0 : ¬ (k : Int) < 32 := by omega
      have HE := Lib.hid (show leqV a b = true from (leqV_iff a b).2 fun i hi => hall i (by omega))
      have HB := Lib.hid hb
      clear hall hg hh hb
      go_wp2
      go_ret
      exact ⟨by rw [HE.out]; rfl, HB.out⟩
end Go.Proofs.YtoephjmjlhgjeaaDoor
namespace Go.Proofs.YtoephjmjlhgjeaaDoor
open Go.RowKit
/-- The text of the first so many dots. -/
def preT (l : List D2) (k : Nat) : List UInt8 := joinB 44 ((l.take k).map dotT)
theorem preT_one {l : List D2} {d : D2} (h : l[0]? = some d) : preT l 1 = dotT d := by
  rw [preT, List.take_add_one, h]; simp [joinB]
theorem preT_next {l : List D2} {k : Nat} {d : D2} (h : l[k]? = some d) (hk : 0 < k) : preT l (k + 1) = preT l k ++ [44] ++ dotT d := by
  have hne : (l.take k).map dotT ≠ [] := fun e => by
    have h1 : k < l.length := (List.getElem?_eq_some_iff.1 h).1
    have := congrArg List.length e
    rw [List.length_map, List.length_take, List.length_nil] at this; omega
  rw [preT, List.take_add_one, h, List.map_append]
  show joinB 44 ((l.take k).map dotT ++ [dotT d]) = _
  rw [joinB_snoc _ _ _ hne, preT]; simp
theorem preT_all (l : List D2) : preT l l.length = joinB 44 (l.map dotT) := by rw [preT, List.take_length]
theorem preT_len {l : List D2} (h : ∀ d ∈ l, mayT d = true) (k : Nat) : (preT l k).length ≤ k * 42 := by
  have h1 := joinB_length 44 ((l.take k).map dotT) 41 (fun p hp => by obtain ⟨d, hd, rfl⟩ := List.mem_map.1 hp; exact dotT_length (h d (List.mem_of_mem_take hd)))
  rw [List.length_map, List.length_take] at h1
  rw [preT]; omega
set_option maxRecDepth 100000 in
set_option maxHeartbeats 16000000 in
theorem refText_any10 (l : List D2) (hl : l.length < 2000000) (v : Value) (w : World) (hv : HasDots w v l) : Calls Tryd.prog 30 #[v] w fun e w' => e = .returned (.string (str (textV l))) ∧ Below w.heap.size w w' := by
  have HV := Lib.hid hv
  have A1 := Lib.hid (fun w v hv => refAll_V l hl v w hv)
  have O1 := Lib.hid (fun w => refOf_V (allV l) w)
  obtain ⟨X, hX⟩ : ∃ X, X = vecOf l := ⟨_, rfl⟩
  have HX := Lib.hid (And.intro hX (show ∀ d ∈ X, mayT d = true by rw [hX]; exact vecOf_may l))
  obtain ⟨N, hN⟩ : ∃ N, N = X.length := ⟨_, rfl⟩
  have HN := Lib.hid (And.intro hN (show N ≤ 32 by rw [hN, hX]; exact ofN_length _ 32))
  have hN32 : N ≤ 32 := HN.out.2
  obtain ⟨ao, cap, rfl⟩ := dots_shape hv l.length rfl
  obtain ⟨n, hn⟩ : ∃ n, n = l.length := ⟨_, rfl⟩
  rw [← hn] at HV ⊢
  clear hv hl hn hX hN
  by_cases h0 : N = 0
  · have HE := Lib.hid (show str (textV l) = ⟨#[45]⟩ by rw [textV, ← HX.out.1, List.eq_nil_of_length_eq_zero (HN.out.1.symm.trans h0)]; rfl)
    clear hN32
    go_enter Tryd.func30, Tryd.ntmps30
    go_wp2_with (first
      | (go_at_call 34; refine (A1.out w _ HV.out).mono ?_; rintro e w1 ⟨rfl, hb⟩; have B1 := Lib.hid hb; clear hb)
      | (go_at_call 33; refine (O1.out _).mono ?_; rintro e w2 ⟨x, rfl, hx, hb⟩; have HD := Lib.hid (show HasDots w2 x X by rw [HX.out.1]; exact hx); obtain ⟨xo, xc, rfl⟩ := dots_shape HD.out N HN.out.1; subst h0; have B2 := Lib.hid (below_next B1.out hb); clear hx hb))
    go_ret
    exact ⟨by rw [HE.out]; rfl, B2.out⟩
  · have HE := Lib.hid (show joinB 44 (X.map dotT) = textV l by rw [textV, ← HX.out.1, textL, if_neg (fun e => h0 (by rw [HN.out.1, e]; rfl))])
    have e1 : ((N : Int) == 0) = false := by rw [beq_eq_false_iff_ne]; omega
    clear h0
    go_enter Tryd.func30, Tryd.ntmps30
    go_wp2_with (first
      | (go_at_call 34; refine (A1.out w _ HV.out).mono ?_; rintro e w1 ⟨rfl, hb⟩; have B1 := Lib.hid hb; clear hb)
      | (go_at_call 33; refine (O1.out _).mono ?_; rintro e w2 ⟨x, rfl, hx, hb⟩; have HD := Lib.hid (show HasDots w2 x X by rw [HX.out.1]; exact hx); obtain ⟨xo, xc, rfl⟩ := dots_shape HD.out N HN.out.1; have B2 := Lib.hid (below_next B1.out hb); clear hx hb))
    go_loopw [4, 5] (fun v c wr => ∃ k : Nat, k ≤ N ∧ c = .int .i64 (k : Int) ∧ v = .string (str (preT X k)) ∧ Below w2.heap.size w2 wr) (fun _ c _ => N - (intOf c).toNat)
    case atStart => exact ⟨0, by omega, rfl, rfl, Below.refl _ _⟩
    case round =>
      obtain ⟨k, hk, rfl, rfl, hb⟩ := hrel
      have HB := Lib.hid hb
      by_cases hlt : k < N
      · have q0 : (k : Int) < (N : Int) := by omega
        have KK := Lib.hid (show k + 1 ≤ N ∧ N - (k + 1) < N - k by omega)
        obtain ⟨d, hdk⟩ : ∃ d, X[k]? = some d := ⟨_, List.getElem?_eq_getElem (by rw [← HN.out.1]; exact hlt)⟩
        have hm := mayT_bd (HX.out.2 d (List.mem_of_getElem? hdk))
        have hdl := dotT_length (HX.out.2 d (List.mem_of_getElem? hdk))
        have hpl := preT_len HX.out.2 k
        obtain ⟨A, hA⟩ : ∃ A, A = preT X k := ⟨_, rfl⟩
        rw [← hA] at hpl ⊢
        obtain ⟨T, hT⟩ : ∃ T, T = dotT d := ⟨_, rfl⟩
        rw [← hT] at hdl
        have TX := Lib.hid (fun w => refText_any9 d.1 d.2 (by omega) (by omega) w)
        rw [show textD d.1 d.2 = T from hT.symm] at TX
        have NX := Lib.hid (fun (hk : 0 < k) => preT_next hdk hk)
        rw [← hA, ← hT] at NX
        have N1 := Lib.hid (fun (hk : k = 0) => show preT X (k + 1) = T by subst hk; rw [hT]; exact preT_one hdk)
        obtain ⟨r, q⟩ := d
        obtain ⟨ad, cap', e, c0, c1⟩ := dots_at (dots_below HD.out hb) N k HN.out.1.symm _ hdk
        cases e
        have C0 := Lib.hid (And.intro c0 c1)
        by_cases hk0 : 0 < k
        · have d1 : decide ((k : Int) > 0) = true := decide_eq_true (by omega)
          obtain ⟨A1', hA1⟩ : ∃ A1, A ++ [44] = A1 := ⟨_, rfl⟩
          obtain ⟨A2, hA2⟩ : ∃ A2, A1' ++ T = A2 := ⟨_, rfl⟩
          have ad1 : ∀ w, (Op.stringOp .add (str A) ⟨#[44]⟩).run Tryd.prog w = .ok (.string (str A1')) w := fun w => by rw [← hA1]; exact add_str A [44] (by simp; omega) w
          have ad2 : ∀ w, (Op.stringOp .add (str A1') (str T)).run Tryd.prog w = .ok (.string (str A2)) w := fun w => by rw [← hA2]; exact add_str A1' T (by rw [← hA1]; simp; omega) w
          have HN2 := Lib.hid (show preT X (k + 1) = A2 by rw [NX.out hk0, hA1, hA2])
          clear c0 c1 hdk hm hdl hpl hb hlt hA hT hA1 hA2
          go_wp2_with (first
            | (refine load_dot10 (by rfl) 25 (.tmp 25) rfl (ad.add (k * 2)) rfl r q Tryd.underlying25 (by kernel_rfl) C0.out ?_)
            | (go_at_call 46; refine (TX.out _).mono ?_; rintro e w4 ⟨rfl, hb⟩; have B4 := Lib.hid (below_next HB.out hb); clear hb))
          refine ⟨⟨k + 1, KK.out.1, by simp, by rw [HN2.out], B4.out⟩, ?_⟩
          have := KK.out.2; simp [intOf]; omega
        · have d1 : decide ((k : Int) > 0) = false := decide_eq_false (by omega)
          have hk00 : k = 0 := by omega
          have hAe : A = [] := by rw [hA, hk00]; rfl
          obtain ⟨A2, hA2⟩ : ∃ A2, A ++ T = A2 := ⟨_, rfl⟩
          have ad1 : ∀ w, (Op.stringOp .add (str A) (str T)).run Tryd.prog w = .ok (.string (str A2)) w := fun w => by rw [← hA2]; exact add_str A T (by omega) w
          have HN2 := Lib.hid (show preT X (k + 1) = A2 by rw [N1.out hk00, ← hA2, hAe, List.nil_append])
          clear c0 c1 hdk hm hdl hpl hb hlt hA hT hk00 hAe hA2
          go_wp2_with (first
            | (refine load_dot10 (by rfl) 25 (.tmp 25) rfl (ad.add (k * 2)) rfl r q Tryd.underlying25 (by kernel_rfl) C0.out ?_)
            | (go_at_call 46; refine (TX.out _).mono ?_; rintro e w4 ⟨rfl, hb⟩; have B4 := Lib.hid (below_next HB.out hb); clear hb))
          refine ⟨⟨k + 1, KK.out.1, by simp, by rw [HN2.out], B4.out⟩, ?_⟩
          have := KK.out.2; simp [intOf]; omega
      · have q0 : ¬ (k : Int) < (N : Int) := by omega
        obtain rfl : k = N := by omega
        have HL := Lib.hid (show preT X k = textV l by rw [← HE.out, ← preT_all, ← HN.out.1])
        clear hb hlt
        go_wp2
        go_ret
        exact ⟨by rw [← HL.out]; rfl, below_next B2.out HB.out⟩
end Go.Proofs.YtoephjmjlhgjeaaDoor
