/-
Texts that all claims of this seat share, part 5: MatParse, Ref10Text, MatLen, VecTell, MatTell, Ref11, Ref10Leq.
-/
import Derived.Lib.Join
import Derived.Deep.QuietTactic
import Derived.BigQuiet
import Derived.Test.YtcnjgdnokiindaaDoorPk4
namespace Go.Proofs.YtcnjgdnokiindaaDoor
open Go.RowKit Go.Shelf
attribute [local go_sem] Oper.semAt_some
/-- The two results' blocks. -/
def Res11 (g : Nat) (W : World) (x y : Value) : Prop := Boxed W g 22 x ∧ Boxed W (g + 1) 25 y
theorem res11_below {g n : Nat} {W W' : World} {x y : Value} (h : Res11 g W x y) (hb : Below n W W') (hn : g + 2 ≤ n) : Res11 g W' x y := ⟨(hb.block g (by omega)).trans h.1, (hb.block (g + 1) (by omega)).trans h.2⟩
theorem res11_set {g : Nat} {W : World} {x y : Value} (h : Res11 g W x y) (x' y' : Value) : Res11 g ((W.setCell ⟨g, 0, none⟩ x').setCell ⟨g + 1, 0, none⟩ y') x' y' := ⟨(h.1.set x').other (by omega) y', (h.2.other (by omega) x').set y'⟩
theorem res11_far {g k : Nat} {W : World} {x y : Value} (h : Res11 g W x y) (hk : g + 2 ≤ k) (u : Value) : Res11 g (W.setCell ⟨k, 0, none⟩ u) x y := ⟨h.1.other (by omega) u, h.2.other (by omega) u⟩
theorem boxed_own {A B : World} {b : Nat} {t : TypeId} {v : Value} {row : Option Nat} (h : Boxed A b t v) (hg : A.grownBy B row) (hr : ∀ r, row = some r → ∃ o : Obj, A.heap[r]? = some o ∧ o.isCells = false) : Boxed B b t v :=
  h.kept hg (fun e => by
    obtain ⟨o, ho, hc⟩ := hr _ e.symm
    rw [show A.heap[_]? = _ from h] at ho; cases ho; cases hc)
theorem res11_own {g : Nat} {A B : World} {x y : Value} {row : Option Nat} (h : Res11 g A x y) (hg : A.grownBy B row) (hr : ∀ r, row = some r → ∃ o : Obj, A.heap[r]? = some o ∧ o.isCells = false) : Res11 g B x y := ⟨boxed_own h.1 hg hr, boxed_own h.2 hg hr⟩
/-- A matrix of the call's own whose rows lie in blocks of dots. -/
def OwnTyp (B : Nat) (w : World) (v : Value) (us : List R2) : Prop := w.ownsRow B 37 1 v us.length (us.map (·.2)) ∧ ∀ x ∈ us, TypDots w x.2 x.1
theorem ownTyp_nil (B : Nat) (w : World) : OwnTyp B w (.slice none 0 0) [] := ⟨World.ownsRow_nil _ _ _ _, fun _ h => by cases h⟩
theorem ownTyp_mat {B : Nat} {w : World} {v : Value} {us : List R2} (h : OwnTyp B w v us) : HasMat w v (us.map (·.1)) := mat_of_own ⟨h.1, fun x hx => row_typ (h.2 x hx)⟩
theorem typ_grown {w w' : World} {v : Value} {l : List D2} {row : Option Nat} (h : TypDots w v l) (hg : w.grownBy w' row) (hne : ∀ k cs fr, row = some k → w.heap[k]? ≠ some (.cells cs 44 fr)) : TypDots w' v l := by
  rcases h.2 with h0 | ⟨k, cs, fr, h1, h2⟩
  · exact ⟨dots_grown h.1 hg (.inl h0), .inl h0⟩
  · have hk : v.ownBlock ≠ row := fun e => hne k cs fr (by rw [← e, h1]) h2
    exact ⟨dots_grown h.1 hg (.inr hk), .inr ⟨k, cs, fr, h1, (hg.block k (Array.getElem?_eq_some_iff.1 h2).1 (by rw [← h1]; exact hk)).trans h2⟩⟩
theorem ownTyp_grown {B : Nat} {w w' : World} {v : Value} {us : List R2} {row : Option Nat} (h : OwnTyp B w v us) (hg : w.grownBy w' row) (hne : ∀ k cs fr, row = some k → w.heap[k]? ≠ some (.cells cs 44 fr) ∧ w.heap[k]? ≠ some (.cells cs 37 fr)) : OwnTyp B w' v us := by
  refine ⟨h.1.kept hg ?_, fun x hx => typ_grown (h.2 x hx) hg fun k cs fr e => (hne k cs fr e).1⟩
  rcases h.1.2 with ⟨rfl, -⟩ | ⟨g, cap, cur, rfl, -, h2, -⟩
  · exact .inl rfl
  · exact .inr fun e => (hne g cur (0, 0) e.symm).2 h2
theorem ownTyp_own {B : Nat} {w w' : World} {v : Value} {us : List R2} {row : Option Nat} (h : OwnTyp B w v us) (hg : w.grownBy w' row) (hr : ∀ r, row = some r → ∃ o : Obj, w.heap[r]? = some o ∧ o.isCells = false) : OwnTyp B w' v us :=
  ownTyp_grown h hg fun k cs fr e => by
    obtain ⟨o, ho, hc⟩ := hr k e
    rw [ho]
    exact ⟨(fun e => by cases e; cases hc), (fun e => by cases e; cases hc)⟩
theorem ownTyp_set {B g : Nat} {w : World} {v : Value} {us : List R2} {t : TypeId} {cs : Array Value} {fr : Nat × Nat} (h : OwnTyp B w v us) (hb : w.heap[g]? = some (.cells cs t fr)) (h1 : t ≠ 44) (h2 : t ≠ 37) (u : Value) : OwnTyp B (w.setCell ⟨g, 0, none⟩ u) v us :=
  ownTyp_grown h (grownBy_setCell' w g u) fun k cs' fr' e => by
    cases e
    rw [hb]
    exact ⟨(fun e => by cases e; exact h1 rfl), (fun e => by cases e; exact h2 rfl)⟩
theorem ownTyp_below {B : Nat} {w w' : World} {v : Value} {us : List R2} (h : OwnTyp B w v us) (hb : Below w.heap.size w w') : OwnTyp B w' v us :=
  ⟨own_below h.1 hb, fun x hx => typ_below (h.2 x hx) hb⟩
theorem ownTyp_more {B : Nat} {w w' : World} {v v' : Value} {us : List R2} {x : R2} (h : OwnTyp B w v us) (hx : TypDots w x.2 x.1) (ho : w'.ownsRow B 37 1 v' (us ++ [x]).length ((us ++ [x]).map (·.2))) (hg : w.grownBy w' v.ownBlock) : OwnTyp B w' v' (us ++ [x]) := by
  have hne : ∀ k cs fr, v.ownBlock = some k → w.heap[k]? ≠ some (.cells cs 44 fr) := fun k cs fr e => by
    rcases h.1.2 with ⟨rfl, -⟩ | ⟨g, cap, cur, rfl, -, h2, -⟩
    · cases e
    · have : g = k := by simpa [Value.ownBlock] using e
      subst this
      rw [h2]
      exact fun e => by cases e
  refine ⟨ho, fun y hy => ?_⟩
  rcases List.mem_append.1 hy with hy | hy
  · exact typ_grown (h.2 y hy) hg hne
  · rw [List.mem_singleton] at hy; subst hy
    exact typ_grown hx hg hne
/-- A row appended to a slice of rows of the call's own, in a round. -/
theorem append_row_in {F : Fence} {n : Nat} {P : Program} {w : World} {ops : Array Oper} {rest : List Oper} {o : Oper} {a : Act} {Q : Exit → Act → World → Prop} (hgd : o.guard = none) (s x : Operand) (t : TypeId)
    (ho : o.op = .call { callee := .builtin .append, args := #[s, x], argTypes := #[t, t] })
    (B : Nat) (i : TypeInfo) (ht : P.underlying t = some (.slice 37)) (hi : P.info? 37 = some i) (hz : (i.zero.map (·.cells.size), i.size, i.bytes) = (some 1, 1, 24))
    (v : Value) (us : List R2) (y : R2) (hs : a.eval s = v) (hown : OwnTyp B w v us) (hy : TypDots w y.2 y.1) (g c : Nat) (hx : a.eval x = .slice (some ⟨g, 0, none⟩) 1 c)
    (u : TypeId) (hg : w.heap[g]? = some (.cells #[y.2] u (0, 0))) (hlen : us.length + 1 ≤ 2000000) (hbase : B ≤ w.heap.size)
    (h : ∀ v' w', OwnTyp B w' v' (us ++ [y]) → w.grownBy w' v.ownBlock → wpListIn F n P ops Q rest (a.put o.dst v') w') : wpListIn F n P ops Q (o :: rest) a w := by
  simp only [Prod.mk.injEq] at hz
  obtain ⟨hz1, hz2, hz3⟩ := hz
  cases hzz : i.zero with
  | none => rw [hzz] at hz1; cases hz1
  | some z =>
    rw [hzz] at hz1
    simp only [Option.map_some, Option.some.injEq] at hz1
    refine wpListIn_append_own w hgd s x t ho B 37 i z 1 24 ht hi hzz hz2 hz3 hz1 (by decide) v us.length (us.map (·.2)) hs hown.1 ⟨g, 0, none⟩ 1 c [y.2] hx rfl (fun j u hj => ?_) (fun u hu => ?_)
      (by unfold maxLen; omega) (by omega) hbase fun v' w' h1 h2 _ => h v' w' (ownTyp_more hown hy (by rw [List.map_append, List.length_append]; exact h1) h2) h2
    · match j, hj with
      | 0, hj => exact ((cell_of_row _ _ 0 _ _ _ hg).trans rfl).trans hj
    · rw [List.mem_singleton] at hu; subst hu
      exact dots_one_cell hy.1
/-- Whether the pieces so far are vectors, and not too many. -/
def goodQ (n : Int) (ps : List (List UInt8)) : Bool := ps.all isVecT && decide ((ps.length : Int) ≤ n)
theorem goodQ_snoc (n : Int) (ps : List (List UInt8)) (p : List UInt8) (h : goodQ n ps = true) : goodQ n (ps ++ [p]) = (isVecT p && decide ((ps.length : Int) + 1 ≤ n)) := by
  rw [goodQ, Bool.and_eq_true] at h
  rw [goodQ, List.all_append, h.1, Bool.true_and, List.length_append, List.length_singleton]
  simp
theorem goodQ_bad {s : List UInt8} {n : Int} {ps : List (List UInt8)} (hp : ps <+: piecesB 59 s) (hb : goodQ n ps = false) : parMErr s n = 2 ∧ parM s n = [] := by
  obtain ⟨r, hr⟩ := hp
  have h : isMatT s n = false := by
    rw [Bool.eq_false_iff]
    intro h
    simp only [isMatT, Bool.and_eq_true, decide_eq_true_eq] at h
    obtain ⟨h1, h2, -⟩ := h
    rw [← hr] at h1 h2
    rw [List.all_append, Bool.and_eq_true] at h1
    have : goodQ n ps = true := by
      rw [goodQ, h1.1, Bool.true_and, decide_eq_true_eq, ← h2, List.length_append]; omega
    rw [this] at hb; cases hb
  rw [parMErr, parM, h]; exact ⟨rfl, rfl⟩
theorem goodQ_end {s : List UInt8} {n : Int} (h1 : 1 ≤ n) (h2 : n ≤ 32) (hg : goodQ n (piecesB 59 s) = true) : (((piecesB 59 s).length : Int) = n ∧ parMErr s n = 0 ∧ parM s n = (piecesB 59 s).map parV) ∨ (((piecesB 59 s).length : Int) ≠ n ∧ parMErr s n = 2 ∧ parM s n = []) := by
  rw [goodQ, Bool.and_eq_true] at hg
  by_cases e : ((piecesB 59 s).length : Int) = n
  · have h : isMatT s n = true := by
      rw [isMatT, hg.1, decide_eq_true e, decide_eq_true h1, decide_eq_true h2]; rfl
    exact .inl ⟨e, by rw [parMErr, h]; rfl, by rw [parM, h]; rfl⟩
  · have h : isMatT s n = false := by rw [isMatT, decide_eq_false e, Bool.false_and, Bool.and_false]
    exact .inr ⟨e, by rw [parMErr, h]; rfl, by rw [parM, h]; rfl⟩
theorem goodQ_len {n : Int} {ps : List (List UInt8)} (h : goodQ n ps = true) : (ps.length : Int) ≤ n := by
  rw [goodQ, Bool.and_eq_true, decide_eq_true_eq] at h; exact h.2
theorem roster_no {s : List UInt8} {n : Int} (h : (decide (1 ≤ n) && decide (n ≤ 32)) = false) : parMErr s n = 2 ∧ parM s n = [] := by
  have h1 : isMatT s n = false := by rw [isMatT, h, Bool.and_false, Bool.and_false]
  rw [parMErr, parM, h1]; exact ⟨rfl, rfl⟩
theorem alloc4 (w : World) (a b c d : Obj) : ((((w.alloc a).alloc b).alloc c).alloc d).heap[w.heap.size]? = some a ∧ ((((w.alloc a).alloc b).alloc c).alloc d).heap[w.heap.size + 1]? = some b ∧ ((((w.alloc a).alloc b).alloc c).alloc d).heap[w.heap.size + 1 + 1]? = some c ∧ ((((w.alloc a).alloc b).alloc c).alloc d).heap[w.heap.size + 1 + 1 + 1]? = some d ∧ ((((w.alloc a).alloc b).alloc c).alloc d).heap.size = w.heap.size + 4 := by
  refine ⟨?_, ?_, ?_, ?_, by simp⟩
  · rw [heap_at_alloc, if_neg (by simp <;> omega)]; exact alloc3_0 w a b c
  · rw [heap_at_alloc, if_neg (by simp <;> omega)]; exact alloc3_1 w a b c
  · rw [heap_at_alloc, if_neg (by simp <;> omega)]; exact alloc3_2 w a b c
  · have h := heap_last (((w.alloc a).alloc b).alloc c) d
    simpa using h
def gotV {s : List UInt8} (pre : List (Pc s)) : M2 := (got pre).map parV
theorem gotV_snoc {s : List UInt8} (pre : List (Pc s)) (x : Pc s) : gotV (pre ++ [x]) = gotV pre ++ [parV x.1] := by rw [gotV, got_snoc, List.map_append]; rfl
/-- What stands while the pieces are gone through. -/
def InM {s : List UInt8} (w : World) (n : Int) (N0 : Nat) (pre : List (Pc s)) (W : World) : Prop :=
  ((∃ v us, Boxed W (w.heap.size + 1 + 1 + 1) 22 v ∧ OwnTyp N0 W v us ∧ us.map (·.1) = gotV pre) ∧ (Boxed W w.heap.size 3 (.int .i64 n) ∧ Res11 (w.heap.size + 1) W (.slice none 0 0) (.int .i64 0) ∧ goodQ n (got pre) = true ∧ N0 ≤ W.heap.size ∧ ∃ b, Boxed W (w.heap.size + 4) 9 b)) ∧ Below w.heap.size w W
/-- What stands when the function has been left. -/
def OutM {s : List UInt8} (w : World) (n : Int) (pre : List (Pc s)) (W : World) : Prop :=
  (Res11 (w.heap.size + 1) W (.slice none 0 0) (.int .i64 2) ∧ goodQ n (got pre) = false) ∧ Below w.heap.size w W
theorem unlike11 : 22 ≠ 37 ∧ 22 ≠ 44 ∧ 25 ≠ 37 ∧ 25 ≠ 44 ∧ 9 ≠ 37 ∧ 9 ≠ 44 := by decide
theorem inM_own {s : List UInt8} (w : World) (n : Int) (N0 D : Nat) (hD : w.heap.size ≤ D) : OwnFrom D (InM (s := s) w n N0) :=
  OwnFrom.and (OwnFrom.and (Own.from (fun _ _ _ _ hs hg hr => by
    obtain ⟨v, us, h1, h2, h3⟩ := hs
    exact ⟨v, us, boxed_own h1 hg hr, ownTyp_own h2 hg hr, h3⟩) _) (Own.from (fun _ _ _ _ hs hg hr => by
    obtain ⟨h1, h2, h3, h4, b, h5⟩ := hs
    exact ⟨boxed_own h1 hg hr, res11_own h2 hg hr, h3, Nat.le_trans h4 hg.size, b, boxed_own h5 hg hr⟩) _)) (ownFrom_below (Nat.le_refl _) hD)
theorem outM_own {s : List UInt8} (w : World) (n : Int) (D : Nat) (hD : w.heap.size ≤ D) : OwnFrom D (OutM (s := s) w n) :=
  OwnFrom.and (Own.from (fun _ _ _ _ hs hg hr => ⟨res11_own hs.1 hg hr, hs.2⟩) _) (ownFrom_below (Nat.le_refl _) hD)
theorem inM_set {s : List UInt8} (w : World) (n : Int) (N0 : Nat) : AbidesSet (w.heap.size + 4) (InM (s := s) w n N0) := fun pre W u h => by
  obtain ⟨⟨⟨v, us, hv, hr, hus⟩, hn, hR, hg, hz, b, hb⟩, hB⟩ := h
  exact ⟨⟨⟨v, us, hv.other (by omega) u, ownTyp_set hr hb unlike11.2.2.2.2.2 unlike11.2.2.2.2.1 u, hus⟩, hn.other (by omega) u, res11_far hR (by omega) u, hg, Nat.le_trans hz (KeepsOthers.setCell W _ _).size, u, hb.set u⟩, hB.setCell (p := ⟨w.heap.size + 4, 0, none⟩) (by show w.heap.size ≤ w.heap.size + 4; omega) u⟩
set_option maxRecDepth 100000 in
set_option maxHeartbeats 16000000 in
theorem matParse_any (s : List UInt8) (hs : s.length < 1152921504606846976) (n : Int) (w : World) : Calls Tryd.prog 10 #[.string (str s), .int .i64 n] w fun e w' => ∃ v, e = .returned (.tuple #[v, .int .i64 (parMErr s n)]) ∧ HasMat w' v (parM s n) ∧ Below w.heap.size w w' := by
  obtain ⟨i0, hi, hz0⟩ := infoVec
  have RO := Lib.hid (fun w => roster_any n w)
  have cn0 : (((w.alloc (.cells #[.int .i64 n] 3 (0, 0))).alloc (.cells #[.slice none 0 0] 22 (0, 0))).alloc (.cells #[.int .i64 0] 25 (0, 0))).cell? ⟨w.heap.size, 0, none⟩ = some (.int .i64 n) := cell_of_one (alloc3_0 w (.cells #[.int .i64 n] 3 (0, 0)) (.cells #[.slice none 0 0] 22 (0, 0)) (.cells #[.int .i64 0] 25 (0, 0)))
  obtain ⟨R, hR⟩ : ∃ R, R = (decide (1 ≤ n) && decide (n ≤ 32)) := ⟨_, rfl⟩
  rw [← hR] at RO
  cases R with
  | false =>
    have HP := Lib.hid (roster_no (s := s) hR.symm)
    have G0 := Lib.hid (show Res11 (w.heap.size + 1) (((w.alloc (.cells #[.int .i64 n] 3 (0, 0))).alloc (.cells #[.slice none 0 0] 22 (0, 0))).alloc (.cells #[.int .i64 0] 25 (0, 0))) (.slice none 0 0) (.int .i64 0) from ⟨alloc3_1 w (.cells #[.int .i64 n] 3 (0, 0)) (.cells #[.slice none 0 0] 22 (0, 0)) (.cells #[.int .i64 0] 25 (0, 0)), alloc3_2 w (.cells #[.int .i64 n] 3 (0, 0)) (.cells #[.slice none 0 0] 22 (0, 0)) (.cells #[.int .i64 0] 25 (0, 0))⟩)
    have B0 := Lib.hid ((((Below.refl w.heap.size w).alloc (Nat.le_refl _) (.cells #[.int .i64 n] 3 (0, 0))).alloc (by simp) (.cells #[.slice none 0 0] 22 (0, 0))).alloc (by simp; omega) (.cells #[.int .i64 0] 25 (0, 0)))
    have c1 := G0.out.1.cell
    have f1 := G0.out.1.frozen
    have c2 := G0.out.2.cell
    have f2 := G0.out.2.frozen
    clear hR hs
    go_enter Tryd.func10, Tryd.ntmps10
    go_wp2_with (first
      | (go_at_call 27; refine (RO.out _).mono ?_; rintro e w2 ⟨rfl, e2⟩; subst e2; generalize (((w.alloc (.cells #[.int .i64 n] 3 (0, 0))).alloc (.cells #[.slice none 0 0] 22 (0, 0))).alloc (.cells #[.int .i64 0] 25 (0, 0))) = W0 at *))
    have hC := res11_set G0.out (.slice none 0 0) (.int .i64 2)
    have r0 := hC.1.cell
    have r1 := hC.2.cell
    refine bodyPost_ret (v := .tuple #[.slice none 0 0, .int .i64 2]) (by simp [results, Tryd.f10, go_sem, r0, r1]) rfl ?_
    exact ⟨_, by rw [HP.out.1], by rw [HP.out.2]; exact mat_nil _, set2_below B0.out (by omega) _ _⟩
  | true =>
    have HRN := Lib.hid (show 1 ≤ n ∧ n ≤ 32 by simpa using hR.symm)
    have HS := Lib.hid hs
    have SQ := Lib.hid (fun w => splitSemi_any s w)
    have PX := Lib.hid (fun (x : Pc s) w => vecParse_typ x.1 (Nat.lt_of_le_of_lt x.2 hs) w)
    have H0 := Lib.hid (alloc4 w (.cells #[.int .i64 n] 3 (0, 0)) (.cells #[.slice none 0 0] 22 (0, 0)) (.cells #[.int .i64 0] 25 (0, 0)) (.cells #[.slice none 0 0] 22 (0, 0)))
    have B0 := Lib.hid (((((Below.refl w.heap.size w).alloc (Nat.le_refl _) (.cells #[.int .i64 n] 3 (0, 0))).alloc (by simp) (.cells #[.slice none 0 0] 22 (0, 0))).alloc (by simp; omega) (.cells #[.int .i64 0] 25 (0, 0))).alloc (by simp; omega) (.cells #[.slice none 0 0] 22 (0, 0)))
    clear hR hs
    refine (callsIn_wide (n := 6)).1 ?_
    refine callsIn_of_wp_marks Tryd.func10 rfl trivial ?_ rfl
    simp only [Tryd.ntmps10, List.size_toArray, List.length_cons, List.length_nil, Nat.reduceAdd, Nat.reduceSub, Array.replicate_succ, Array.replicate_zero, List.push_toArray, List.append_toArray, List.nil_append, List.cons_append]
    refine wpIn_wide.2 ?_
    go_wp2_with (first
      | (go_at_call 27; refine (RO.out _).mono ?_; rintro e w2 ⟨rfl, e2⟩; subst e2)
      | (go_at_call 28; clear cn0; generalize ((((w.alloc (.cells #[.int .i64 n] 3 (0, 0))).alloc (.cells #[.slice none 0 0] 22 (0, 0))).alloc (.cells #[.int .i64 0] 25 (0, 0))).alloc (.cells #[.slice none 0 0] 22 (0, 0))) = W0 at *; refine (SQ.out _).mono ?_; rintro e w1 ⟨rfl, hb⟩; have HQ := Lib.hid hb; clear hb))
    have Z0 := Lib.hid H0.out.2.2.2.2
    have b0 := HQ.out.2.2.1
    have b1 := HQ.out.2.2.2.1
    have b2 := HQ.out.2.2.2.2
    have hsz : w1.heap.size = w.heap.size + 4 + 3 := by rw [HQ.out.2.1, Z0.out]
    rw [Z0.out] at b0 b1 b2
    have N0 := Lib.hid (show Boxed w1 w.heap.size 3 (.int .i64 n) from (HQ.out.1.block _ (by rw [Z0.out]; omega)).trans H0.out.1)
    have R0 := Lib.hid (show Res11 (w.heap.size + 1) w1 (.slice none 0 0) (.int .i64 0) from ⟨(HQ.out.1.block _ (by rw [Z0.out]; omega)).trans H0.out.2.1, (HQ.out.1.block _ (by rw [Z0.out]; omega)).trans H0.out.2.2.1⟩)
    have V0 := Lib.hid (show Boxed w1 (w.heap.size + 1 + 1 + 1) 22 (.slice none 0 0) from (HQ.out.1.block _ (by rw [Z0.out]; omega)).trans H0.out.2.2.2.1)
    have B1 := Lib.hid (B0.out.trans (HQ.out.1.mono (by rw [Z0.out]; omega)))
    have S0 := Lib.hid (show Boxed w1 (w.heap.size + 4) 9 (.string (str s)) from b0)
    rw [Z0.out]
    refine (wpIn_wide (n := 6)).1 ?_
    refine range_cells (F := Fence.wide) rfl (by decide) (gf := 69) (lb := #[.pointer (some ⟨w.heap.size + 4 + 1, 0, none⟩), .pointer (some ⟨w.heap.size + 4, 0, none⟩), .pointer (some ⟨w.heap.size + 4 + 2, 0, none⟩)]) rfl trivial (enters_of Tryd.func69 (by kernel_rfl) rfl)
      (B := w.heap.size + 4) (by omega) (seq11 5 (by decide) (w.heap.size + 4) s HS.out w1 (by omega) b0 b1 b2) (fun _ => rfl)
      (InM w n w1.heap.size) (OutM w n) (inM_own w n _ _ (by omega)) (outM_own w n _ (by omega)) (inM_set w n _)
      ⟨⟨⟨.slice none 0 0, [], V0.out, ownTyp_nil _ _, rfl⟩, N0.out, R0.out, by simp [goodQ, got]; have := HRN.out; omega, Nat.le_refl _, _, S0.out⟩, B1.out⟩
      (fun x => { tmps := #[.string (str s), .int .i64 n, undef, .pointer (some ⟨w.heap.size, 0, none⟩), .pointer (some ⟨w.heap.size + 1, 0, none⟩), .pointer (some ⟨w.heap.size + 1 + 1, 0, none⟩), .pointer (some ⟨w.heap.size + 1 + 1 + 1, 0, none⟩), .string (str x.1), undef, undef, .int .i64 n, .bool true, .bool false, .string (str s),
        .func (.func 69) #[] #[.pointer (some ⟨w.heap.size + 4 + 1, 0, none⟩), .pointer (some ⟨w.heap.size + 4, 0, none⟩), .pointer (some ⟨w.heap.size + 4 + 2, 0, none⟩)], .string (str x.1), undef, undef, undef, undef, undef, undef, undef, undef, undef, undef, undef, undef, undef, undef, undef, undef, undef, undef, undef, undef, undef, undef], defers := [] }) ?assign ?body ?done ?stop
    case assign =>
      intro l x W K hK
      gi_wp2
      exact hK
    case body =>
      rintro l pre x W ⟨⟨⟨v, us, hv, ho, hus⟩, hn, hR, hg, hlow, sb, hsb⟩, hB⟩ hlen
      obtain ⟨vo, vcap, rfl⟩ := ownMat_shape (B := w1.heap.size) ⟨ho.1, fun x hx => row_typ (ho.2 x hx)⟩
      obtain ⟨k, hk⟩ : ∃ k, k = us.length := ⟨_, rfl⟩
      have hkp : (got pre).length = k := by rw [hk]; have e := congrArg List.length hus; rw [List.length_map, gotV, List.length_map] at e; exact e.symm
      have HKN := Lib.hid (show (k : Int) ≤ n by rw [← hkp]; exact goodQ_len hg)
      have HLL := Lib.hid (show us.length + 1 ≤ 2000000 by have h1 := HKN.out; have h2 := HRN.out; omega)
      rw [← hk] at hv ho
      have HV := Lib.hid hv
      have HO := Lib.hid ho
      have HR := Lib.hid hR
      have HNB := Lib.hid hn
      have HSB := Lib.hid hsb
      have HB := Lib.hid hB
      have HUS := Lib.hid hus
      have HSZ := Lib.hid (show w.heap.size + 1 + 2 ≤ W.heap.size by omega)
      have HSZ2 := Lib.hid (show w.heap.size + 1 + 1 + 1 < W.heap.size ∧ w.heap.size < W.heap.size ∧ w.heap.size + 4 < W.heap.size by omega)
      have HLOW := Lib.hid (And.intro hlow hsz)
      have PXx := Lib.hid (fun w => PX.out x w)
      obtain ⟨E, hE⟩ : ∃ E, E = parVErr x.1 := ⟨_, rfl⟩
      rw [← hE] at PXx
      have HGS := Lib.hid (goodQ_snoc n (got pre) x.1 hg)
      rw [← got_snoc, hkp] at HGS
      have HVE := Lib.hid (show isVecT x.1 = true ↔ E = 0 by rw [hE, parVErr]; cases isVecT x.1 <;> simp)
      clear hv hn hR hg hB hlen hlow hk hkp hus ho hsb b0 b1 b2 hsz
      by_cases hE0 : E = 0
      · subst hE0
        have HGE := Lib.hid (show goodQ n (got (pre ++ [x])) = decide ((k : Int) + 1 ≤ n) by rw [HGS.out, HVE.out.2 rfl, Bool.true_and])
        clear hE
        by_cases hkn : (k : Int) = n
        · have t1 : ((k : Int) == n) = true := beq_iff_eq.2 hkn
          have HF := Lib.hid (show goodQ n (got (pre ++ [x])) = false by rw [HGE.out, decide_eq_false (by omega)])
          clear hkn
          gi_wp2_with (first
            | (refine ⟨trivial, ?_⟩; gi_at_call 29; refine (CallsIn.inRound l (callsIn_wide.2 (PXx.out _))).mono ?_; rintro e w2 ⟨z, rfl, hz, hb⟩; obtain ⟨zo, zc, rfl⟩ := dots_shape hz.1 _ rfl; have HZ := Lib.hid hz; have K2 := Lib.hid hb; have R2 := Lib.hid (res11_below HR.out hb HSZ.out); have V2 := Lib.hid (show Boxed w2 (w.heap.size + 1 + 1 + 1) 22 (.slice vo k vcap) from (hb.block _ HSZ2.out.1).trans HV.out); have N2 := Lib.hid (show Boxed w2 w.heap.size 3 (.int .i64 n) from (hb.block _ HSZ2.out.2.1).trans HNB.out); have O2 := Lib.hid (ownTyp_below HO.out hb); have c1 := R2.out.1.cell; have f1 := R2.out.1.frozen; have c2 := R2.out.2.cell; have f2 := R2.out.2.frozen; have c3 := V2.out.cell; have f3 := V2.out.frozen; have cn := N2.out.cell; clear hb hz))
          exact ⟨(keeps_below K2.out rfl).trans ((KeepsOthers.setCell _ _ _).trans (KeepsOthers.setCell _ _ _)), ⟨res11_set R2.out _ _, HF.out⟩, set2_below (HB.out.trans (K2.out.mono HB.out.size)) (by omega) _ _⟩
        · have t1 : ((k : Int) == n) = false := beq_eq_false_iff_ne.2 hkn
          have HF := Lib.hid (show goodQ n (got (pre ++ [x])) = true by rw [HGE.out, decide_eq_true (by have := HKN.out; omega)])
          clear hkn
          gi_wp2_with (first
            | (refine ⟨trivial, ?_⟩; gi_at_call 29; refine (CallsIn.inRound l (callsIn_wide.2 (PXx.out _))).mono ?_; rintro e w2 ⟨z, rfl, hz, hb⟩; obtain ⟨zo, zc, rfl⟩ := dots_shape hz.1 _ rfl; have HZ := Lib.hid hz; have K2 := Lib.hid hb; have R2 := Lib.hid (res11_below HR.out hb HSZ.out); have V2 := Lib.hid (show Boxed w2 (w.heap.size + 1 + 1 + 1) 22 (.slice vo k vcap) from (hb.block _ HSZ2.out.1).trans HV.out); have N2 := Lib.hid (show Boxed w2 w.heap.size 3 (.int .i64 n) from (hb.block _ HSZ2.out.2.1).trans HNB.out); have O2 := Lib.hid (ownTyp_below HO.out hb); have c1 := R2.out.1.cell; have f1 := R2.out.1.frozen; have c2 := R2.out.2.cell; have f2 := R2.out.2.frozen; have c3 := V2.out.cell; have f3 := V2.out.frozen; have cn := N2.out.cell; clear hb hz)
            | (gi_at_builtin; refine append_row_in rfl (.tmp 29) (.tmp 31) 22 rfl w1.heap.size i0 Tryd.underlying22 hi (infoVec3 hz0) (.slice vo k vcap) us (parV x.1, _) rfl (ownTyp_below O2.out ((Below.refl _ _).alloc (Nat.le_refl _) _)) (typ_below HZ.out ((Below.refl _ _).alloc (Nat.le_refl _) _)) w2.heap.size 1 rfl 37 (heap_last w2 _) HLL.out (by have h1 := HLOW.out.1; have h2 := K2.out.size; simp <;> omega) ?_; intro v' w5 hown' hgrow; have HO5 := Lib.hid hown'; obtain ⟨g', cap', rfl⟩ := ownsRow_succ (by simpa using hown'.1); have HA := Lib.hid (appended10 V2.out unlike11.1 O2.out.1 (Nat.le_trans HLOW.out.1 K2.out.size) hown'.1 hgrow); have c3 := HA.out.1.cell; have f3 := HA.out.1.frozen; clear hown' hgrow))
          have h5 : Below w1.heap.size W w5 := (K2.out.mono HLOW.out.1).trans HA.out.2.2.2.2
          have hz2 := HLOW.out.2
          refine ⟨(keeps_below K2.out rfl).trans HA.out.2.2.2.1, keep3_trans (keep3_below h5 (by omega)) (keep3_low _ _ (by omega)), ⟨⟨_, _, HA.out.2.1, ownTyp_set HO5.out HA.out.1 unlike11.2.1 unlike11.1 _, ?_⟩, (show Boxed w5 w.heap.size 3 (.int .i64 n) from (h5.block _ (by omega)).trans HNB.out).other (by omega) _, res11_far (res11_below HR.out h5 (by omega)) (by omega) _, HF.out, Nat.le_trans HLOW.out.1 (Nat.le_trans h5.size (KeepsOthers.setCell _ _ _).size), _, (show Boxed w5 (w.heap.size + 4) 9 sb from (h5.block _ (by omega)).trans HSB.out).other (by omega) _⟩, (HB.out.trans (h5.mono (by omega))).setCell (p := ⟨w.heap.size + 1 + 1 + 1, 0, none⟩) (by show w.heap.size ≤ w.heap.size + 1 + 1 + 1; omega) _⟩
          rw [gotV_snoc, List.map_append, HUS.out]; rfl
      · have t1 : (E != 0) = true := bne_iff_ne.2 hE0
        have HF := Lib.hid (show goodQ n (got (pre ++ [x])) = false by
          rw [HGS.out, show isVecT x.1 = false from by rw [Bool.eq_false_iff]; exact fun h => hE0 (HVE.out.1 h), Bool.false_and])
        clear hE hE0
        gi_wp2_with (first
          | (refine ⟨trivial, ?_⟩; gi_at_call 29; refine (CallsIn.inRound l (callsIn_wide.2 (PXx.out _))).mono ?_; rintro e w2 ⟨z, rfl, hz, hb⟩; obtain ⟨zo, zc, rfl⟩ := dots_shape hz.1 _ rfl; have HZ := Lib.hid hz; have K2 := Lib.hid hb; have R2 := Lib.hid (res11_below HR.out hb HSZ.out); have V2 := Lib.hid (show Boxed w2 (w.heap.size + 1 + 1 + 1) 22 (.slice vo k vcap) from (hb.block _ HSZ2.out.1).trans HV.out); have N2 := Lib.hid (show Boxed w2 w.heap.size 3 (.int .i64 n) from (hb.block _ HSZ2.out.2.1).trans HNB.out); have O2 := Lib.hid (ownTyp_below HO.out hb); have c1 := R2.out.1.cell; have f1 := R2.out.1.frozen; have c2 := R2.out.2.cell; have f2 := R2.out.2.frozen; have c3 := V2.out.cell; have f3 := V2.out.frozen; have cn := N2.out.cell; clear hb hz))
        exact ⟨(keeps_below K2.out rfl).trans ((KeepsOthers.setCell _ _ _).trans (KeepsOthers.setCell _ _ _)), ⟨res11_set R2.out _ _, HF.out⟩, set2_below (HB.out.trans (K2.out.mono HB.out.size)) (by omega) _ _⟩
    case done =>
      rintro D ys W hD hys ⟨⟨⟨v, us, hv, ho, hus⟩, hn, hR, hg, -, -⟩, hB⟩ hK
      have hgot : got ys = piecesB 59 s := hys
      obtain ⟨vo, vcap, rfl⟩ := ownMat_shape (B := w1.heap.size) ⟨ho.1, fun x hx => row_typ (ho.2 x hx)⟩
      obtain ⟨k, hk⟩ : ∃ k, k = us.length := ⟨_, rfl⟩
      have hkp : (piecesB 59 s).length = k := by rw [hk]; have e := congrArg List.length hus; rw [List.length_map, gotV, List.length_map, hgot] at e; exact e.symm
      have HP := Lib.hid (goodQ_end (s := s) HRN.out.1 HRN.out.2 (by rw [← hgot]; exact hg))
      rw [hkp] at HP
      rw [← hk] at hv ho
      have HUS := Lib.hid (show us.map (·.1) = (piecesB 59 s).map parV by rw [hus, gotV, hgot])
      have HO := Lib.hid ho
      have HV := Lib.hid hv
      have HB := Lib.hid hB
      have HR := Lib.hid hR
      have HK := Lib.hid hK
      have HD := Lib.hid (show w1.heap.size ≤ D from hD)
      have HZ := Lib.hid hsz
      have c3 := hv.cell
      have cn := hn.cell
      have c1 := hR.1.cell
      have f1 := hR.1.frozen
      have c2 := hR.2.cell
      have f2 := hR.2.frozen
      clear hD hB hys hK hR hn hv hg hgot hk hkp ho hus b0 b1 b2 hsz
      rcases HP.out with ⟨hkn, h1, h2⟩ | ⟨hkn, h1, h2⟩
      · have t1 : ((k : Int) != n) = false := by rw [hkn]; simp
        have HE := Lib.hid (And.intro h1 h2)
        clear hkn h1 h2
        go_wp2
        have hK' := ((KeepsOthers.setCell W ⟨w.heap.size + 1, 0, none⟩ (.slice vo k vcap)).trans (KeepsOthers.setCell _ ⟨w.heap.size + 1 + 1, 0, none⟩ (.int .i64 0))).same D _ HK.out rfl
        have hC := res11_own (res11_set HR.out (.slice vo k vcap) (.int .i64 0)) (grownBy_putObj' _ D (.deferred none)) (fun r e => by cases e; exact ⟨_, hK', rfl⟩)
        have r0 := hC.1.cell
        have r1 := hC.2.cell
        have hO := ownTyp_own (ownTyp_set (ownTyp_set HO.out HR.out.1 unlike11.2.1 unlike11.1 (.slice vo k vcap)) (HR.out.2.other (B' := w.heap.size + 1) (by omega) _) unlike11.2.2.2.1 unlike11.2.2.1 (.int .i64 0)) (grownBy_putObj' _ D (.deferred none)) (fun r e => by cases e; exact ⟨_, hK', rfl⟩)
        refine ⟨by simp, .inl ⟨_, _, rfl, run_takeDeferred hK', ?_⟩⟩
        refine ⟨.tuple #[.slice vo k vcap, .int .i64 0], by simp [results, Tryd.f10, go_sem, r0, r1], _, by rw [HE.out.1], ?_, ?_⟩
        · rw [HE.out.2, ← HUS.out]; exact ownTyp_mat hO
        · exact (set2_below HB.out (by omega) _ _).trans (belowK_b (w := w) (Nat.le_refl _) _ D _ _ (by have h1 := HZ.out; have h2 := HD.out; omega) hK' rfl rfl)
      · have t1 : ((k : Int) != n) = true := bne_iff_ne.2 hkn
        have HE := Lib.hid (And.intro h1 h2)
        clear hkn h1 h2
        go_wp2
        have hK' := ((KeepsOthers.setCell W ⟨w.heap.size + 1, 0, none⟩ (.slice none 0 0)).trans (KeepsOthers.setCell _ ⟨w.heap.size + 1 + 1, 0, none⟩ (.int .i64 2))).same D _ HK.out rfl
        have hC := res11_own (res11_set HR.out (.slice none 0 0) (.int .i64 2)) (grownBy_putObj' _ D (.deferred none)) (fun r e => by cases e; exact ⟨_, hK', rfl⟩)
        have r0 := hC.1.cell
        have r1 := hC.2.cell
        refine ⟨by simp, .inl ⟨_, _, rfl, run_takeDeferred hK', ?_⟩⟩
        refine ⟨.tuple #[.slice none 0 0, .int .i64 2], by simp [results, Tryd.f10, go_sem, r0, r1], _, by rw [HE.out.1], by rw [HE.out.2]; exact mat_nil _, ?_⟩
        exact (set2_below HB.out (by omega) _ _).trans (belowK_b (w := w) (Nat.le_refl _) _ D _ _ (by have h1 := HZ.out; have h2 := HD.out; omega) hK' rfl rfl)
    case stop =>
      rintro D pre W hD hpre ⟨⟨hR, hg⟩, hB⟩ hK
      have HP := Lib.hid (goodQ_bad (n := n) (show got pre <+: piecesB 59 s from hpre) hg)
      have hC := res11_own hR (grownBy_putObj' W D (.deferred none)) (fun r e => by cases e; exact ⟨_, hK, rfl⟩)
      have r0 := hC.1.cell
      have r1 := hC.2.cell
      have HB := Lib.hid hB
      have HK := Lib.hid hK
      have HD := Lib.hid (show w.heap.size ≤ D by omega)
      clear hD hB hpre hK hR hg b0 b1 b2 hsz hC
      gi_wp2
      refine ⟨by simp, .inl ⟨_, _, rfl, run_takeDeferred HK.out, ?_⟩⟩
      refine ⟨.tuple #[.slice none 0 0, .int .i64 2], by simp [results, Tryd.f10, go_sem, r0, r1], _, by rw [HP.out.1], by rw [HP.out.2]; exact mat_nil _, ?_⟩
      exact HB.out.trans (belowK_b (w := w) (Nat.le_refl _) _ D _ _ HD.out HK.out rfl rfl)
end Go.Proofs.YtcnjgdnokiindaaDoor
namespace Go.Proofs.YtcnjgdnokiindaaDoor
open Go.RowKit
/-- The text of the first so many dots. -/
def preT (l : List D2) (k : Nat) : List UInt8 := joinB 44 ((l.take k).map dotT)
theorem preT_one {l : List D2} {d : D2} (h : l[0]? = some d) : preT l 1 = dotT d := by
  rw [preT, List.take_add_one, h]; simp [joinB]
theorem preT_next {l : List D2} {k : Nat} {d : D2} (h : l[k]? = some d) (hk : 0 < k) : preT l (k + 1) = preT l k ++ [44] ++ dotT d := by
  have hne : (l.take k).map dotT ≠ [] := fun e => by
    have h1 : k < l.length := (List.getElem?_eq_some_iff.1 h).1
    have := congrArg List.length e
    rw [List.length_map, List.length_take, List.length_nil] at this; omega
  rw [preT, List.take_add_one, h, List.map_append]
  show joinB 44 ((l.take k).map dotT ++ [dotT d]) = _
  rw [joinB_snoc _ _ _ hne, preT]; simp
theorem preT_all (l : List D2) : preT l l.length = joinB 44 (l.map dotT) := by rw [preT, List.take_length]
theorem preT_len {l : List D2} (h : ∀ d ∈ l, mayT d = true) (k : Nat) : (preT l k).length ≤ k * 42 := by
  have h1 := joinB_length 44 ((l.take k).map dotT) 41 (fun p hp => by obtain ⟨d, hd, rfl⟩ := List.mem_map.1 hp; exact dotT_length (h d (List.mem_of_mem_take hd)))
  rw [List.length_map, List.length_take] at h1
  rw [preT]; omega
set_option maxRecDepth 100000 in
set_option maxHeartbeats 16000000 in
theorem refText_any10 (l : List D2) (hl : l.length < 2000000) (v : Value) (w : World) (hv : HasDots w v l) : Calls Tryd.prog 38 #[v] w fun e w' => e = .returned (.string (str (textV l))) ∧ Below w.heap.size w w' := by
  have HV := Lib.hid hv
  have A1 := Lib.hid (fun w v hv => refAll_V l hl v w hv)
  have O1 := Lib.hid (fun w => refOf_V (allV l) w)
  obtain ⟨X, hX⟩ : ∃ X, X = vecOf l := ⟨_, rfl⟩
  have HX := Lib.hid (And.intro hX (show ∀ d ∈ X, mayT d = true by rw [hX]; exact vecOf_may l))
  obtain ⟨N, hN⟩ : ∃ N, N = X.length := ⟨_, rfl⟩
  have HN := Lib.hid (And.intro hN (show N ≤ 32 by rw [hN, hX]; exact ofN_length _ 32))
  have hN32 : N ≤ 32 := HN.out.2
  obtain ⟨ao, cap, rfl⟩ := dots_shape hv l.length rfl
  obtain ⟨n, hn⟩ : ∃ n, n = l.length := ⟨_, rfl⟩
  rw [← hn] at HV ⊢
  clear hv hl hn hX hN
  by_cases h0 : N = 0
  · have HE := Lib.hid (show str (textV l) = ⟨#[45]⟩ by rw [textV, ← HX.out.1, List.eq_nil_of_length_eq_zero (HN.out.1.symm.trans h0)]; rfl)
    clear hN32
    go_enter Tryd.func38, Tryd.ntmps38
    go_wp2_with (first
      | (go_at_call 60; refine (A1.out w _ HV.out).mono ?_; rintro e w1 ⟨rfl, hb⟩; have B1 := Lib.hid hb; clear hb)
      | (go_at_call 61; refine (O1.out _).mono ?_; rintro e w2 ⟨x, rfl, hx, hb⟩; have HD := Lib.hid (show HasDots w2 x X by rw [HX.out.1]; exact hx); obtain ⟨xo, xc, rfl⟩ := dots_shape HD.out N HN.out.1; subst h0; have B2 := Lib.hid (below_next B1.out hb); clear hx hb))
    go_ret
    exact ⟨by rw [HE.out]; rfl, B2.out⟩
  · have HE := Lib.hid (show joinB 44 (X.map dotT) = textV l by rw [textV, ← HX.out.1, textL, if_neg (fun e => h0 (by rw [HN.out.1, e]; rfl))])
    have e1 : ((N : Int) == 0) = false := by rw [beq_eq_false_iff_ne]; omega
    clear h0
    go_enter Tryd.func38, Tryd.ntmps38
    go_wp2_with (first
      | (go_at_call 60; refine (A1.out w _ HV.out).mono ?_; rintro e w1 ⟨rfl, hb⟩; have B1 := Lib.hid hb; clear hb)
      | (go_at_call 61; refine (O1.out _).mono ?_; rintro e w2 ⟨x, rfl, hx, hb⟩; have HD := Lib.hid (show HasDots w2 x X by rw [HX.out.1]; exact hx); obtain ⟨xo, xc, rfl⟩ := dots_shape HD.out N HN.out.1; have B2 := Lib.hid (below_next B1.out hb); clear hx hb))
    go_loopw [4, 5] (fun v c wr => ∃ k : Nat, k ≤ N ∧ c = .int .i64 (k : Int) ∧ v = .string (str (preT X k)) ∧ Below w2.heap.size w2 wr) (fun _ c _ => N - (intOf c).toNat)
    case atStart => exact ⟨0, by omega, rfl, rfl, Below.refl _ _⟩
    case round =>
      obtain ⟨k, hk, rfl, rfl, hb⟩ := hrel
      have HB := Lib.hid hb
      by_cases hlt : k < N
      · have q0 : (k : Int) < (N : Int) := by omega
        have KK := Lib.hid (show k + 1 ≤ N ∧ N - (k + 1) < N - k by omega)
        obtain ⟨d, hdk⟩ : ∃ d, X[k]? = some d := ⟨_, List.getElem?_eq_getElem (by rw [← HN.out.1]; exact hlt)⟩
        have hm := mayT_bd (HX.out.2 d (List.mem_of_getElem? hdk))
        have hdl := dotT_length (HX.out.2 d (List.mem_of_getElem? hdk))
        have hpl := preT_len HX.out.2 k
        obtain ⟨A, hA⟩ : ∃ A, A = preT X k := ⟨_, rfl⟩
        rw [← hA] at hpl ⊢
        obtain ⟨T, hT⟩ : ∃ T, T = dotT d := ⟨_, rfl⟩
        rw [← hT] at hdl
        have TX := Lib.hid (fun w => refText_any9 d.1 d.2 (by omega) (by omega) w)
        rw [show textD d.1 d.2 = T from hT.symm] at TX
        have NX := Lib.hid (fun (hk : 0 < k) => preT_next hdk hk)
        rw [← hA, ← hT] at NX
        have N1 := Lib.hid (fun (hk : k = 0) => show preT X (k + 1) = T by subst hk; rw [hT]; exact preT_one hdk)
        obtain ⟨r, q⟩ := d
        obtain ⟨ad, cap', e, c0, c1⟩ := dots_at (dots_below HD.out hb) N k HN.out.1.symm _ hdk
        cases e
        have C0 := Lib.hid (And.intro c0 c1)
        by_cases hk0 : 0 < k
        · have d1 : decide ((k : Int) > 0) = true := decide_eq_true (by omega)
          obtain ⟨A1', hA1⟩ : ∃ A1, A ++ [44] = A1 := ⟨_, rfl⟩
          obtain ⟨A2, hA2⟩ : ∃ A2, A1' ++ T = A2 := ⟨_, rfl⟩
          have ad1 : ∀ w, (Op.stringOp .add (str A) ⟨#[44]⟩).run Tryd.prog w = .ok (.string (str A1')) w := fun w => by rw [← hA1]; exact add_str A [44] (by simp; omega) w
          have ad2 : ∀ w, (Op.stringOp .add (str A1') (str T)).run Tryd.prog w = .ok (.string (str A2)) w := fun w => by rw [← hA2]; exact add_str A1' T (by rw [← hA1]; simp; omega) w
          have HN2 := Lib.hid (show preT X (k + 1) = A2 by rw [NX.out hk0, hA1, hA2])
          clear c0 c1 hdk hm hdl hpl hb hlt hA hT hA1 hA2
          go_wp2_with (first
            | (refine load_dot10 (by rfl) 44 (.tmp 25) rfl (ad.add (k * 2)) rfl r q Tryd.underlying44 (by kernel_rfl) C0.out ?_)
            | (go_at_call 65; refine (TX.out _).mono ?_; rintro e w4 ⟨rfl, hb⟩; have B4 := Lib.hid (below_next HB.out hb); clear hb))
          refine ⟨⟨k + 1, KK.out.1, by simp, by rw [HN2.out], B4.out⟩, ?_⟩
          have := KK.out.2; simp [intOf]; omega
        · have d1 : decide ((k : Int) > 0) = false := decide_eq_false (by omega)
          have hk00 : k = 0 := by omega
          have hAe : A = [] := by rw [hA, hk00]; rfl
          obtain ⟨A2, hA2⟩ : ∃ A2, A ++ T = A2 := ⟨_, rfl⟩
          have ad1 : ∀ w, (Op.stringOp .add (str A) (str T)).run Tryd.prog w = .ok (.string (str A2)) w := fun w => by rw [← hA2]; exact add_str A T (by omega) w
          have HN2 := Lib.hid (show preT X (k + 1) = A2 by rw [N1.out hk00, ← hA2, hAe, List.nil_append])
          clear c0 c1 hdk hm hdl hpl hb hlt hA hT hk00 hAe hA2
          go_wp2_with (first
            | (refine load_dot10 (by rfl) 44 (.tmp 25) rfl (ad.add (k * 2)) rfl r q Tryd.underlying44 (by kernel_rfl) C0.out ?_)
            | (go_at_call 65; refine (TX.out _).mono ?_; rintro e w4 ⟨rfl, hb⟩; have B4 := Lib.hid (below_next HB.out hb); clear hb))
          refine ⟨⟨k + 1, KK.out.1, by simp, by rw [HN2.out], B4.out⟩, ?_⟩
          have := KK.out.2; simp [intOf]; omega
      · have q0 : ¬ (k : Int) < (N : Int) := by omega
        obtain rfl : k = N := by omega
        have HL := Lib.hid (show preT X k = textV l by rw [← HE.out, ← preT_all, ← HN.out.1])
        clear hb hlt
        go_wp2
        go_ret
        exact ⟨by rw [← HL.out]; rfl, below_next B2.out HB.out⟩
end Go.Proofs.YtcnjgdnokiindaaDoor
namespace Go.Proofs.YtcnjgdnokiindaaDoor
open Go.RowKit
theorem textV_len (l : List D2) : (textV l).length ≤ 1344 := by
  rw [textV, textL]
  split
  · exact (by decide : [(45 : UInt8)].length ≤ 1344)
  · have h := preT_len (vecOf_may l) (vecOf l).length
    rw [preT_all] at h
    have h2 : (vecOf l).length ≤ 32 := ofN_length _ 32
    generalize (vecOf l).length = n at *
    omega
/-- The texts of the first so many rows. -/
def rowTs (m : M2) (k : Nat) : List (List UInt8) := (m.take k).map textV
theorem rowTs_next {m : M2} {k : Nat} {l : List D2} (h : m[k]? = some l) : rowTs m (k + 1) = rowTs m k ++ [textV l] := by
  rw [rowTs, List.take_add_one, h, List.map_append]; rfl
theorem rowTs_length (m : M2) (k : Nat) (h : k ≤ m.length) : (rowTs m k).length = k := by rw [rowTs, List.length_map, List.length_take]; omega
theorem rowTs_all (m : M2) : joinB 59 (rowTs m m.length) = textM m := by rw [rowTs, List.take_length, textM]
theorem rowTs_len (m : M2) (k : Nat) (h : k ≤ m.length) : (joinB 59 (rowTs m k)).length ≤ k * 1345 := by
  have h1 := joinB_length 59 (rowTs m k) 1344 (fun p hp => by obtain ⟨l, -, rfl⟩ := List.mem_map.1 hp; exact textV_len l)
  rw [rowTs_length m k h] at h1
  exact h1
theorem rowTs_one {m : M2} {l : List D2} (h : m[0]? = some l) : joinB 59 (rowTs m 1) = textV l := by
  rw [rowTs, List.take_add_one, h]
  simp [joinB]
theorem rowTs_more {m : M2} {k : Nat} {l : List D2} (h : m[k]? = some l) (hk : 0 < k) : joinB 59 (rowTs m (k + 1)) = joinB 59 (rowTs m k) ++ [59] ++ textV l := by
  have hne : rowTs m k ≠ [] := fun e => by
    have h1 : k < m.length := (List.getElem?_eq_some_iff.1 h).1
    have := congrArg List.length e
    rw [rowTs_length m k (by omega), List.length_nil] at this; omega
  rw [rowTs_next h, joinB_snoc _ _ _ hne]; simp
end Go.Proofs.YtcnjgdnokiindaaDoor
namespace Go.Proofs.YtcnjgdnokiindaaDoor
open Go.RowKit
theorem infoStr10 : ∃ i, Tryd.prog.info? 9 = some i ∧ i.zero = some (.string ByteArray.empty) ∧ i.size = 1 ∧ i.bytes = 16 := by
  have h : (Tryd.prog.info? 9).map (fun i => (i.zero, i.size, i.bytes)) = some (some (.string ByteArray.empty), 1, 16) := by kernel_rfl
  cases hi : Tryd.prog.info? 9 with
  | none => rw [hi] at h; cases h
  | some i =>
    rw [hi] at h
    simp only [Option.map_some, Option.some.injEq, Prod.mk.injEq] at h
    exact ⟨i, rfl, h⟩
theorem lib_joinB (c : UInt8) (ps : List (List UInt8)) : Lib.join ps [c] = joinB c ps := by
  cases ps with
  | nil => rfl
  | cons p t =>
    rw [Lib.join_cons, joinB, Lib.joinTail]
    congr 1
/-- The texts of the first so many dots. -/
def dotTs (l : List D2) (k : Nat) : List (List UInt8) := (l.take k).map dotT
theorem dotTs_next {l : List D2} {k : Nat} {d : D2} (h : l[k]? = some d) : dotTs l (k + 1) = dotTs l k ++ [dotT d] := by
  rw [dotTs, List.take_add_one, h, List.map_append]; rfl
theorem dotTs_length (l : List D2) (k : Nat) : (dotTs l k).length ≤ k := by rw [dotTs, List.length_map, List.length_take]; omega
theorem dotTs_all (l : List D2) : dotTs l l.length = l.map dotT := by rw [dotTs, List.take_length]
/-- Texts of a slice, joined with a byte. -/
theorem join_any (c : UInt8) (ls : List (List UInt8)) (w : World) (base : Nat) (e : TypeId) (v : Value) (h : w.ownsRow base e 1 v ls.length (textsL ls)) (h0 : 0 < ls.length) (hn : ls.length ≤ 1000) (hl : (joinB c ls).length ≤ 140737488355328) :
    Calls Tryd.prog 37 #[v, .string ⟨#[c]⟩] w fun e w' => e = .returned (.string (str (joinB c ls))) ∧ Below w.heap.size w w' := by
  obtain ⟨g, cap, cur, rfl, -, hg, hcap, -, -, -⟩ := own_shape h h0
  have hcells : ∀ (j : Nat) x, (ls.map str)[j]? = some x → w.cell? ⟨g, 0 + j, none⟩ = some (.string x) := fun j x hx => by
    have h1 := h.cells (g := g) rfl j (.string x) (by
      rw [textsL, List.getElem?_map]
      rw [List.getElem?_map] at hx
      cases hj : ls[j]? with
      | none => rw [hj] at hx; cases hx
      | some y => rw [hj] at hx; exact congrArg some (congrArg Value.string (Option.some.inj hx)))
    have e : ((⟨g, 0, none⟩ : Addr).add j) = ⟨g, 0 + j, none⟩ := Addr.add_lit ..
    rwa [e] at h1
  have hm : (ls.map str).map (·.data.toList) = ls := by
    rw [List.map_map]
    conv => rhs; rw [← List.map_id ls]
    exact List.map_congr_left fun p _ => by simp [str]
  have hj := Tryd.strings_Join g 0 cap (ls.map str) ⟨#[c]⟩ w hcells (Array.getElem?_eq_some_iff.1 hg).1 (by rw [List.length_map]; omega) (by rw [List.length_map]; exact hcap) (by rw [hm]; show (Lib.join ls [c]).length ≤ _; rw [lib_joinB]; exact hl)
  rw [hm, List.length_map] at hj
  refine hj.mono fun e w' => ?_
  rintro ⟨rfl, hb⟩
  exact ⟨by show Ending.returned (Value.string ⟨(Lib.join ls [c]).toArray⟩) = _; rw [lib_joinB]; rfl, hb⟩
set_option maxRecDepth 100000 in
set_option maxHeartbeats 16000000 in
theorem vecText_any (l : List D2) (hl : l.length < 2000000) (v : Value) (w : World) (hv : HasDots w v l) (hT : PowTab w) : Calls Tryd.prog 26 #[v] w fun e w' => e = .returned (.string (str (textV l))) ∧ Below w.heap.size w w' := by
  obtain ⟨i0, hi, hz0, hz1, hz2⟩ := infoStr10
  have HV := Lib.hid hv
  have HT := Lib.hid hT
  have A1 := Lib.hid (fun w v hv => counts_V l hl v w hv)
  have MT := Lib.hid (fun G w hG => madeText_any (allV l) G w hG)
  have hmf : ∀ (fn : Fn) (first cap : Array Value) (w : World), (Instr.makeFunc fn first cap).run Tryd.prog w = .ok (.func fn first cap) w := fun _ _ _ _ => rfl
  obtain ⟨X, hX⟩ : ∃ X, X = vecOf l := ⟨_, rfl⟩
  have HX := Lib.hid (And.intro hX (show ∀ d ∈ X, mayT d = true by rw [hX]; exact vecOf_may l))
  obtain ⟨N, hN⟩ : ∃ N, N = X.length := ⟨_, rfl⟩
  have HN := Lib.hid (And.intro hN (show N ≤ 32 by rw [hN, hX]; exact ofN_length _ 32))
  have hN32 : N ≤ 32 := HN.out.2
  obtain ⟨ao, cap, rfl⟩ := dots_shape hv l.length rfl
  obtain ⟨n, hn⟩ : ∃ n, n = l.length := ⟨_, rfl⟩
  rw [← hn] at HV ⊢
  clear hv hl hn hT hX hN
  go_enter Tryd.func26, Tryd.ntmps26
  go_wp2_with (first
    | (go_at_call 48; with_reducible refine (A1.out w _ HV.out).mono ?_; rintro e w1 ⟨rfl, hb⟩; have B1 := Lib.hid hb; clear hb)
    | (refine alloc_as rfl 75 rfl _ zero49 ?_)
    | (refine store_new rfl 75 (.tmp 3) (.tmp 8) rfl rfl w1 _ (nums 32 (allV l)) 75 rfl rfl rfl (by rw [nums_size]; kernel_rfl) (by rw [nums_size, nums_size]) (nums_one _ _) ?_; intro w2 hg2 hb2 hs2; have HG := Lib.hid hg2; have B2 := Lib.hid (below_next B1.out hb2); clear hg2 hb2 hs2)
    | (go_at_call 49; refine (MT.out _ _ HG.out).mono ?_; rintro e w3 ⟨x, rfl, hx, hb⟩; have HD := Lib.hid (show HasDots w3 x X by rw [HX.out.1]; exact hx); obtain ⟨xo, xc, rfl⟩ := dots_shape HD.out N HN.out.1; have B3 := Lib.hid (below_next B2.out hb); clear hx hb))
  generalize w1.heap.size = G1 at *
  clear HG B1 B2
  go_loopw [4, 12] (fun v c wr => ∃ k : Nat, k ≤ N ∧ c = .int .i64 (k : Int) ∧ wr.ownsRow w3.heap.size 9 1 v (dotTs X k).length (textsL (dotTs X k)) ∧ Below w3.heap.size w3 wr) (fun _ c _ => N - (intOf c).toNat)
  case atStart => exact ⟨0, by omega, rfl, ⟨rfl, .inl ⟨rfl, rfl⟩⟩, Below.refl _ _⟩
  case round =>
    obtain ⟨k, hk, rfl, ho, hb⟩ := hrel
    have HO := Lib.hid ho
    have hd := dots_below HD.out hb
    have HB := Lib.hid hb
    by_cases hlt : k < N
    · have q0 : (k : Int) < (N : Int) := by omega
      have KK := Lib.hid (show k + 1 ≤ N ∧ N - (k + 1) < N - k by omega)
      obtain ⟨d, hdk⟩ : ∃ d, X[k]? = some d := ⟨_, List.getElem?_eq_getElem (by rw [← HN.out.1]; exact hlt)⟩
      have hm := mayT_bd (HX.out.2 d (List.mem_of_getElem? hdk))
      have HTN := Lib.hid (dotTs_next hdk)
      obtain ⟨r, q⟩ := d
      obtain ⟨ad, cap', e, c0, c1⟩ := dots_at hd N k HN.out.1.symm _ hdk
      cases e
      have C0 := Lib.hid (And.intro c0 c1)
      have D0 := Lib.hid (heap_last wr (.cells #[.int .i64 r, .int .i64 q] 44 (0, 0)))
      have K0 := (Below.refl wr.heap.size wr).alloc (Nat.le_refl _) (.cells #[.int .i64 r, .int .i64 q] 44 (0, 0))
      have B0 := Lib.hid (below_next hb K0)
      have O0 := Lib.hid (own_below ho K0)
      have TX := Lib.hid (fun w hT => text_any9 r q (by unfold I64; simp only at hm; omega) (by unfold I64; simp only at hm; omega) w hT)
      have HTL := Lib.hid (dotTs_length X k)
      replace TX := Lib.hid (show ∀ w, PowTab w → Calls Tryd.prog 52 #[.agg #[.int .i64 r, .int .i64 q]] w fun e w' => e = .returned (.string (str (dotT (r, q)))) ∧ Below w.heap.size w w' from TX.out)
      obtain ⟨T, hTT⟩ : ∃ T, T = dotT (r, q) := ⟨_, rfl⟩
      rw [← hTT] at TX HTN
      clear c0 c1 hdk hm ho hd hb K0 hlt hTT
      go_wp2_with (first
        | (refine load_dot10 (by rfl) 44 (.tmp 14) rfl (ad.add (k * 2)) rfl r q Tryd.underlying44 (by kernel_rfl) C0.out ?_)
        | (refine load_row_on (by rfl) 44 (.tmp 6) rfl wr.heap.size rfl 44 _ (0, 0) _ D0.out Tryd.underlying44 rfl (by kernel_rfl) ?_)
        | (go_at_call 52; refine (TX.out _ (powTab_below HT.out (below_next B3.out B0.out))).mono ?_; rintro e w4 ⟨rfl, hb⟩; have B4 := Lib.hid (below_next B0.out hb); have O4 := Lib.hid (own_below O0.out hb); clear hb)
        | (at_builtin; refine append_text rfl (.tmp 16) (.tmp 19) 63 rfl w3.heap.size 9 i0 Tryd.underlying63 hi hz0 hz1 hz2 _ (dotTs X k) T rfl (O4.out.alloc _) ⟨w4.heap.size, 0, none⟩ 1 rfl ((cell_of_row _ _ 0 _ _ _ (heap_last w4 _)).trans rfl) (by have := HTL.out; have := KK.out.1; have := HN.out.2; omega) (by have := B4.out.size; simp <;> omega) ?_; intro v1 w5 ho hg; rw [← HTN.out] at ho; have HO1 := Lib.hid ho; have HB1 := Lib.hid (below_grown (B4.out.alloc B4.out.size _) hg (by have := B4.out.size; simp <;> omega) (fun j hj => by have := (O4.out.lt j hj).1; omega)); clear ho hg))
      refine ⟨⟨k + 1, KK.out.1, by simp, HO1.out, HB1.out⟩, ?_⟩
      have := KK.out.2; simp [intOf]; omega
    · have q0 : ¬ (k : Int) < (N : Int) := by omega
      obtain rfl : k = N := by omega
      have HL := Lib.hid (show (X.map dotT).length = k by rw [List.length_map]; exact HN.out.1.symm)
      have hts : dotTs X k = X.map dotT := by conv => lhs; rw [HN.out.1]
                                              exact dotTs_all X
      rw [hts, HL.out] at ho
      clear hts
      obtain ⟨ao2, cap2, rfl⟩ := own_slice ho
      by_cases h0 : k = 0
      · subst h0
        have HE := Lib.hid (show str (textV l) = ⟨#[45]⟩ by rw [textV, ← HX.out.1, List.eq_nil_of_length_eq_zero HN.out.1.symm]; rfl)
        clear ho hd hlt
        go_wp2
        go_ret
        exact ⟨by rw [HE.out]; rfl, below_next B3.out hb⟩
      · have HE := Lib.hid (show joinB 44 (X.map dotT) = textV l by rw [textV, ← HX.out.1, textL, if_neg (fun e => h0 (by rw [HN.out.1, e]; rfl))])
        have e1 : ((k : Int) == 0) = false := by rw [beq_eq_false_iff_ne]; omega
        have JN := Lib.hid (join_any 44 (X.map dotT) wr _ _ _ (by rw [HL.out]; exact ho) (by rw [HL.out]; omega) (by rw [HL.out]; omega) (by rw [HE.out]; have := textV_length l; omega))
        rw [HE.out] at JN
        clear ho hd hlt h0
        go_wp2_with (first
          | (go_at_call 37; refine JN.out.mono ?_; rintro e w6 ⟨rfl, hb6⟩; have B6 := Lib.hid (below_next (below_next B3.out hb) hb6); clear hb6))
        go_ret
        exact ⟨rfl, B6.out⟩
end Go.Proofs.YtcnjgdnokiindaaDoor
namespace Go.Proofs.YtcnjgdnokiindaaDoor
open Go.RowKit
set_option maxRecDepth 100000 in
set_option maxHeartbeats 4000000 in
theorem textStep_any (B : Nat) (ls : List (List UInt8)) (l : List D2) (hl : l.length < 2000000) (t u : Value) (w : World) (hT : PowTab w) (hB : B ≤ w.heap.size) (ht : w.ownsRow B 9 1 t ls.length (textsL ls)) (hn : ls.length + 1 ≤ 2000000) (hu : HasDots w u l) :
    Calls Tryd.prog 36 #[t, u] w fun e w' => ∃ t', e = .returned t' ∧ w'.ownsRow B 9 1 t' (ls ++ [textV l]).length (textsL (ls ++ [textV l])) ∧ Below B w w' := by
  obtain ⟨i0, hi, hz0, hz1, hz2⟩ := infoStr10
  have TX := Lib.hid (vecText_any l hl u w hu hT)
  have HO := Lib.hid ht
  have HBB := Lib.hid hB
  have HNN := Lib.hid hn
  obtain ⟨ao, cap, rfl⟩ := dots_shape hu l.length rfl
  obtain ⟨tao, tcap, rfl⟩ := own_slice ht
  obtain ⟨n, hn⟩ : ∃ n, n = l.length := ⟨_, rfl⟩
  obtain ⟨N, hN⟩ : ∃ N, N = ls.length := ⟨_, rfl⟩
  obtain ⟨T, hTT⟩ : ∃ T, T = textV l := ⟨_, rfl⟩
  rw [← hn, ← hTT] at TX
  rw [← hn, ← hTT]
  have HO2 := Lib.hid (show w.ownsRow B 9 1 (.slice tao N tcap) ls.length (textsL ls) by rw [hN]; exact ht)
  rw [← hN]
  clear HO hu hl ht hn hN hTT hB hT
  go_enter Tryd.func36, Tryd.ntmps36
  go_wp2_with (first
    | (go_at_call 26; refine TX.out.mono ?_; rintro e w1 ⟨rfl, hb⟩; have B1 := Lib.hid hb; have O1 := Lib.hid (own_below HO2.out hb); clear hb)
    | (at_builtin; refine append_text rfl (.tmp 5) (.tmp 8) 63 rfl B 9 i0 Tryd.underlying63 hi hz0 hz1 hz2 _ ls T rfl (O1.out.alloc _) ⟨w1.heap.size, 0, none⟩ 1 rfl ((cell_of_row _ _ 0 _ _ _ (heap_last w1 _)).trans rfl) (by have := HNN.out; omega) (by have := B1.out.size; have := HBB.out; simp <;> omega) ?_; intro v2 w2 ho hg; have HO3 := Lib.hid ho; have HB2 := Lib.hid (below_grown ((B1.out.mono HBB.out).alloc (by have := B1.out.size; have := HBB.out; omega) _) hg (by have := B1.out.size; have := HBB.out; simp <;> omega) (fun j hj => (O1.out.lt j hj).1)); clear ho hg))
  go_ret
  exact ⟨_, rfl, HO3.out, HB2.out⟩
set_option maxRecDepth 100000 in
set_option maxHeartbeats 4000000 in
theorem matText_any (m : M2) (hm : Fits m) (v : Value) (w : World) (hv : HasMat w v m) (hT : PowTab w) : Calls Tryd.prog 15 #[v] w fun e w' => e = .returned (.string (str (textM m))) ∧ Below w.heap.size w w' := by
  have FO := Lib.hid (foldText_any m (by have := hm.1; omega) v (.slice none 0 0) w hv (fun k t wr => (k ≤ m.length ∧ wr.ownsRow w.heap.size 9 1 t (rowTs m k).length (textsL (rowTs m k))) ∧ Below w.heap.size w wr) ⟨⟨Nat.zero_le _, rfl, .inl ⟨rfl, rfl⟩⟩, Below.refl _ _⟩ (fun _ _ _ h => h.2)
    (fun k l hl t u wr hI _ hu => by
      obtain ⟨⟨h0, h1⟩, hb⟩ := hI
      have hkl : k + 1 ≤ m.length := (List.getElem?_eq_some_iff.1 hl).1
      refine (textStep_any w.heap.size (rowTs m k) l (fits_at hm hl) t u wr (powTab_below hT hb) hb.size h1 (by rw [rowTs_length m k h0]; have := hm.1; omega) hu).mono fun e w' ⟨t', h3, h4, h5⟩ => ⟨t', h3, ⟨hkl, ?_⟩, hb.trans h5⟩
      rw [rowTs_next hl]; exact h4))
  have HT := Lib.hid (rowTs_all m)
  obtain ⟨ao, cap, rfl⟩ := mat_shape hv m.length rfl
  by_cases h0 : m.length = 0
  · have he : m = [] := List.eq_nil_of_length_eq_zero h0
    subst he
    have JN := Lib.hid (fun a c w => Tryd.strings_Join_none a c ⟨#[59]⟩ w)
    clear hv hm h0 hT
    go_enter Tryd.func15, Tryd.ntmps15
    go_wp2_with (first
      | (go_at_call 35; refine FO.out.mono ?_; rintro e w1 ⟨t', rfl, h1, hb⟩; have B1 := Lib.hid hb; obtain ⟨tao, tcap, rfl⟩ := (show ∃ tao tcap, t' = .slice tao 0 tcap from own_slice h1.2); clear hb h1)
      | (go_at_call 37; refine (JN.out _ _ _).mono ?_; rintro e w2 ⟨rfl, e2⟩; subst e2))
    go_ret
    exact ⟨rfl, B1.out⟩
  · have JN := Lib.hid (fun w b v h => join_any 59 (rowTs m m.length) w b 9 v h (by rw [rowTs_length m _ (Nat.le_refl _)]; omega) (by rw [rowTs_length m _ (Nat.le_refl _)]; exact hm.1) (by have h1 := rowTs_len m _ (Nat.le_refl _); have h2 := hm.1; omega))
    rw [HT.out] at JN
    have HLN := Lib.hid (rowTs_length m m.length (Nat.le_refl _))
    obtain ⟨N, hN⟩ : ∃ N, N = m.length := ⟨_, rfl⟩
    obtain ⟨T, hTT⟩ : ∃ T, T = textM m := ⟨_, rfl⟩
    rw [← hN] at FO JN HLN ⊢
    rw [← hTT] at JN ⊢
    clear hv hm hN h0 hTT HT hT
    go_enter Tryd.func15, Tryd.ntmps15
    go_wp2_with (first
      | (go_at_call 35; refine FO.out.mono ?_; rintro e w1 ⟨t', rfl, h1, hb⟩; have HO := Lib.hid h1.2; obtain ⟨tao, tcap, rfl⟩ := own_slice h1.2; have B1 := Lib.hid hb; clear hb h1)
      | (go_at_call 37; refine (JN.out _ _ _ HO.out).mono ?_; rintro e w2 ⟨rfl, hb⟩; have B2 := Lib.hid (below_next B1.out hb); clear hb))
    go_ret
    exact ⟨rfl, B2.out⟩
end Go.Proofs.YtcnjgdnokiindaaDoor
namespace Go.Proofs.YtcnjgdnokiindaaDoor
open Go.RowKit
/-- A slice loaded from an address that is known in every world at hand. -/
theorem slice_yields {P : Program} {ops : Array Oper} {S : World → Prop} {o : Oper} {a : Act} (hw : Region.wanted o (yielded ops a.tmps) = true) (ty : TypeId) (x : Operand) (ho : o.op = .load ty x)
    (A : Addr) (hx : a.eval x = .pointer (some A)) (ao : Option Addr) (n c : Nat) {e : TypeId} (hu : P.underlying ty = some (.slice e)) (hS : ∀ w, S w → w.cell? A = some (.slice ao n c)) : YieldsIf P ops S o (.slice ao n c) a :=
  .inl ⟨hw, fun w h => by
    have hc := hS w h
    unfold execOp
    simp [ho, hx, Instr.loadAt, Instr.sureAddr, loadVar, isAgg, run_underlying hu, hc]⟩
theorem cell_under {w w' : World} {A : Addr} {v : Value} (h : w.cell? A = some v) (hb : Below w.heap.size w w') : w'.cell? A = some v :=
  (World.cell?_of_block (hb.block A.block (World.block_lt_of_cell? w _ h))).trans h
theorem rows_take {a b : M2} {k : Nat} {x y : List D2} (ha : a[k]? = some x) (hb : b[k]? = some y) (h : a.take k = b.take k) : (a.take (k + 1) = b.take (k + 1)) ↔ x = y := by
  rw [List.take_add_one, List.take_add_one, ha, hb, h]
  simp
set_option maxRecDepth 100000 in
set_option maxHeartbeats 16000000 in
theorem refSame_any11 (a b : M2) (hl : a.length ≤ 2000000 ∧ ∀ l ∈ a, l.length < 2000000) (v u : Value) (w : World) (hv : HasMat w v a) (hu : HasMat w u b) : Calls Tryd.prog 12 #[v, u] w fun e w' => e = .returned (.bool (a == b)) ∧ Below w.heap.size w w' := by
  have HV := Lib.hid hv
  have HU := Lib.hid hu
  obtain ⟨ao, acap, rfl⟩ := mat_shape hv a.length rfl
  obtain ⟨bo, bcap, rfl⟩ := mat_shape hu b.length rfl
  obtain ⟨n, hn⟩ : ∃ n, n = a.length := ⟨_, rfl⟩
  obtain ⟨m, hm⟩ : ∃ m, m = b.length := ⟨_, rfl⟩
  have HN := Lib.hid hn
  have HM := Lib.hid hm
  rw [← hn] at HV ⊢
  rw [← hm] at HU ⊢
  have HLL := Lib.hid hl.2
  have hn4 : n ≤ 2000000 := by omega
  clear hv hu hl
  by_cases hnm : n = m
  · subst hnm
    have t1 : ((n : Int) != (n : Int)) = false := by simp
    clear hn hm
    go_enter Tryd.func12, Tryd.ntmps12
    go_wp2
    go_loopw [5] (fun c wr => ∃ k : Nat, k ≤ n ∧ c = .int .i64 (k : Int) ∧ a.take k = b.take k ∧ Below w.heap.size w wr) (fun c _ => n - (intOf c).toNat)
    case atStart => exact ⟨0, Nat.zero_le _, rfl, rfl, Below.refl _ _⟩
    case round =>
      obtain ⟨k, hk, rfl, heq, hb⟩ := hrel
      by_cases hlt : k < n
      · have q0 : (k : Int) < (n : Int) := by omega
        have KK := Lib.hid (show k + 1 ≤ n ∧ n - (k + 1) < n - k by omega)
        obtain ⟨x, hx⟩ : ∃ x, a[k]? = some x := ⟨_, List.getElem?_eq_getElem (by have := HN.out; omega)⟩
        obtain ⟨y, hy⟩ : ∃ y, b[k]? = some y := ⟨_, List.getElem?_eq_getElem (by have := HM.out; omega)⟩
        obtain ⟨ad, cap', x1, e1, d1, hd⟩ := mat_at HV.out n k HN.out.symm x hx
        obtain ⟨bd, cap2, y1, e2, d2, he⟩ := mat_at HU.out n k HM.out.symm y hy
        simp only [Value.slice.injEq] at e1 e2
        obtain ⟨rfl, -, rfl⟩ := e1
        obtain ⟨rfl, -, rfl⟩ := e2
        obtain ⟨ao1, c1, rfl⟩ := dots_shape hd x.length rfl
        obtain ⟨ao2, c2, rfl⟩ := dots_shape he y.length rfl
        obtain ⟨n1, hn1⟩ : ∃ n1, n1 = x.length := ⟨_, rfl⟩
        obtain ⟨n2, hn2⟩ : ∃ n2, n2 = y.length := ⟨_, rfl⟩
        have EQ := Lib.hid (fun w hv hu => refEqual_any x y (HLL.out x (List.mem_of_getElem? hx)) (.slice ao1 x.length c1) (.slice ao2 y.length c2) w hv hu)
        rw [← hn1] at d1 hd EQ
        rw [← hn2] at d2 he EQ
        have HB := Lib.hid hb
        have C0 := Lib.hid (cell_under d1 hb)
        have C1 := Lib.hid (cell_under d2 hb)
        have HD := Lib.hid (dots_below hd hb)
        have HE := Lib.hid (dots_below he hb)
        have HTK := Lib.hid (rows_take hx hy heq)
        obtain ⟨E, hE⟩ : ∃ E, E = (x == y) := ⟨_, rfl⟩
        rw [← hE] at EQ
        have HEE := Lib.hid (show E = true ↔ x = y by rw [hE]; exact beq_iff_eq)
        clear heq hb hx hy d1 d2 hd he hn1 hn2 hE hlt hk
        go_upto_region 6 with fail
        refine wp_region_held_drew (S := fun w' => Below wr.heap.size wr w') (by kernel_rfl) (drawS (Below.refl _ _)) (fun hHeld => ?_)
        generalize wr.drew = wd at hHeld ⊢
        refine take_at (i := 0) 17 rfl rfl (by kernel_rfl) (by kernel_rfl) (by kernel_rfl) (fun _ _ _ h => h) (sure_yes (by rfl) (fun w => by go_simp; try with_reducible rfl)) hHeld ?_
        simp only [List.setIfInBounds_toArray, List.set_cons_zero, List.set_cons_succ]
        refine take_at (i := 1) 18 rfl rfl (by kernel_rfl) (by kernel_rfl) (by kernel_rfl) (fun _ _ _ h => h) (sure_yes (by rfl) (fun w => by go_simp; try with_reducible rfl)) hHeld ?_
        simp only [List.setIfInBounds_toArray, List.set_cons_zero, List.set_cons_succ]
        refine take_at (i := 2) 19 rfl rfl (by kernel_rfl) (by kernel_rfl) (by kernel_rfl) (fun _ _ _ h => h) (sure_yes (by rfl) (fun w => by go_simp; try with_reducible rfl)) hHeld ?_
        simp only [List.setIfInBounds_toArray, List.set_cons_zero, List.set_cons_succ]
        refine take_at (i := 4) 21 rfl rfl (by kernel_rfl) (by kernel_rfl) (by kernel_rfl) (fun _ _ _ h => h) (sure_yes (by rfl) (fun w => by go_simp; try with_reducible rfl)) hHeld ?_
        simp only [List.setIfInBounds_toArray, List.set_cons_zero, List.set_cons_succ]
        refine take_at (i := 5) 22 rfl rfl (by kernel_rfl) (by kernel_rfl) (by kernel_rfl) (fun _ _ _ h => h) (sure_yes (by rfl) (fun w => by go_simp; try with_reducible rfl)) hHeld ?_
        simp only [List.setIfInBounds_toArray, List.set_cons_zero, List.set_cons_succ]
        refine take_at (i := 6) 23 rfl rfl (by kernel_rfl) (by kernel_rfl) (by kernel_rfl) (fun _ _ _ h => h) (sure_yes (by rfl) (fun w => by go_simp; try with_reducible rfl)) hHeld ?_
        simp only [List.setIfInBounds_toArray, List.set_cons_zero, List.set_cons_succ]
        refine take_at (i := 3) 20 rfl rfl (by kernel_rfl) (by kernel_rfl) (by kernel_rfl) (fun _ _ _ h => h) (slice_yields (by rfl) 37 (.tmp 19) rfl (ad.add k) rfl ao1 n1 c1 Tryd.underlying37 (fun w h => cell_under C0.out h)) hHeld ?_
        simp only [List.setIfInBounds_toArray, List.set_cons_zero, List.set_cons_succ]
        refine take_at (i := 7) 24 rfl rfl (by kernel_rfl) (by kernel_rfl) (by kernel_rfl) (fun _ _ _ h => h) (slice_yields (by rfl) 37 (.tmp 23) rfl (bd.add k) rfl ao2 n2 c2 Tryd.underlying37 (fun w h => cell_under C1.out h)) hHeld ?_
        simp only [List.setIfInBounds_toArray, List.set_cons_zero, List.set_cons_succ]
        refine wpAnyH_ready (rs := [8]) (by kernel_rfl) (by simp) ?_
        refine AllReadyH.cons rfl (fun K hK => ?_) AllReadyH.nil
        go_simp
        go_at_call 32
        refine (EQ.out _ (dots_below HD.out hHeld) (dots_below HE.out hHeld)).mono ?_
        rintro e w6 ⟨rfl, hb⟩
        dsimp only
        refine hK.out _ _ (below_next hHeld hb) (fun hHeld => ?_)
        clear hK K hb
        refine take_at (i := 9) 26 rfl rfl (by kernel_rfl) (by kernel_rfl) (by kernel_rfl) (fun _ _ _ h => h) (sure_yes (by rfl) (fun w => by go_simp; try with_reducible rfl)) hHeld ?_
        simp only [List.setIfInBounds_toArray, List.set_cons_zero, List.set_cons_succ]
        refine wpAnyH_done (by kernel_rfl) ?_ _
        have HB9 := Lib.hid (below_next HB.out hHeld)
        clear hHeld
        cases E with
        | true =>
          have HN2 := Lib.hid (HTK.out.2 (HEE.out.1 rfl))
          go_wp2
          refine ⟨⟨k + 1, KK.out.1, by simp, HN2.out, HB9.out⟩, ?_⟩
          have := KK.out.2; simp [intOf] <;> omega
        | false =>
          have HF := Lib.hid (show (a == b) = false by
            rw [beq_eq_false_iff_ne]
            intro e
            subst e
            exact Bool.noConfusion (HEE.out.2 (HTK.out.1 rfl)))
          go_wp2
          go_ret
          exact ⟨by rw [HF.out]; rfl, HB9.out⟩
      · have q0 : ¬ (k : Int) < (n : Int) := by omega
        obtain rfl : k = n := by omega
        have HF := Lib.hid (show (a == b) = true by
          rw [beq_iff_eq]
          rw [List.take_of_length_le (by rw [← HN.out]; exact Nat.le_refl _), List.take_of_length_le (by rw [← HM.out]; exact Nat.le_refl _)] at heq
          exact heq)
        have HB := Lib.hid hb
        clear heq hb hlt hk
        go_wp2
        go_ret
        exact ⟨by rw [HF.out]; rfl, HB.out⟩
  · have t1 : ((n : Int) != (m : Int)) = true := bne_iff_ne.2 (by omega)
    have HF := Lib.hid (show (a == b) = false by
      rw [beq_eq_false_iff_ne]
      intro e
      exact hnm (by rw [hn, hm, e]))
    clear hnm hn hm
    go_enter Tryd.func12, Tryd.ntmps12
    go_wp2
    go_ret
    exact ⟨by rw [HF.out]; rfl, Below.refl _ _⟩
set_option maxRecDepth 100000 in
set_option maxHeartbeats 16000000 in
theorem refMay_any11 (m : M2) (hl : m.length ≤ 2000000 ∧ ∀ l ∈ m, l.length < 2000000) (n : Int) (v : Value) (w : World) (hv : HasMat w v m) : Calls Tryd.prog 31 #[v, .int .i64 n] w fun e w' => e = .returned (.bool (mayM m n)) ∧ Below w.heap.size w w' := by
  have HV := Lib.hid hv
  obtain ⟨ao, cap, rfl⟩ := mat_shape hv m.length rfl
  obtain ⟨N, hN⟩ : ∃ N, N = m.length := ⟨_, rfl⟩
  have HN := Lib.hid hN
  rw [← hN] at HV ⊢
  have HLL := Lib.hid hl.2
  have hn4 : N ≤ 2000000 := by omega
  clear hv hl hN
  go_enter Tryd.func31, Tryd.ntmps31
  go_wp2
  go_loopw [5] (fun c wr => ∃ k : Nat, k ≤ N ∧ c = .int .i64 (k : Int) ∧ (m.take k).all mayV = true ∧ Below w.heap.size w wr) (fun c _ => N - (intOf c).toNat)
  case atStart => exact ⟨0, Nat.zero_le _, rfl, rfl, Below.refl _ _⟩
  case round =>
    obtain ⟨k, hk, rfl, hall, hb⟩ := hrel
    by_cases hlt : k < N
    · have q0 : (k : Int) < (N : Int) := by omega
      have KK := Lib.hid (show k + 1 ≤ N ∧ N - (k + 1) < N - k by omega)
      obtain ⟨l, hl⟩ : ∃ l, m[k]? = some l := ⟨_, List.getElem?_eq_getElem (by have := HN.out; omega)⟩
      obtain ⟨ad, cap', u, e1, d1, hd⟩ := mat_at HV.out N k HN.out.symm l hl
      simp only [Value.slice.injEq] at e1
      obtain ⟨rfl, -, rfl⟩ := e1
      obtain ⟨uo, uc, rfl⟩ := dots_shape hd l.length rfl
      have c0 := cell_under d1 hb
      have MM := Lib.hid (refMay_any10 l (HLL.out l (List.mem_of_getElem? hl)) (.slice uo l.length uc) wr (dots_below hd hb))
      have HT := Lib.hid (show (m.take (k + 1)).all mayV = mayV l by rw [List.take_add_one, hl, List.all_append, hall]; simp)
      have HF := Lib.hid (show mayV l = false → mayM m n = false from fun h => by
        have : m.all mayV = false := by
          rw [Bool.eq_false_iff]
          intro h2
          rw [List.all_eq_true.1 h2 l (List.mem_of_getElem? hl)] at h
          cases h
        rw [mayM, this, Bool.false_and])
      obtain ⟨E, hE⟩ : ∃ E, E = mayV l := ⟨_, rfl⟩
      rw [← hE] at MM HT HF
      obtain ⟨n1, hn1⟩ : ∃ n1, n1 = l.length := ⟨_, rfl⟩
      rw [← hn1] at MM c0
      have HB := Lib.hid hb
      clear hE hn1 hb hd d1 hl hall hlt hk
      cases E with
      | true =>
        go_wp2_with (first
          | (go_at_call 57; refine MM.out.mono ?_; rintro e w2 ⟨rfl, hb⟩; have B2 := Lib.hid (below_next HB.out hb); clear hb))
        refine ⟨⟨k + 1, KK.out.1, by simp, HT.out, B2.out⟩, ?_⟩
        have := KK.out.2; simp [intOf] <;> omega
      | false =>
        have HE := Lib.hid (HF.out rfl)
        go_wp2_with (first
          | (go_at_call 57; refine MM.out.mono ?_; rintro e w2 ⟨rfl, hb⟩; have B2 := Lib.hid (below_next HB.out hb); clear hb))
        go_ret
        exact ⟨by rw [HE.out]; rfl, B2.out⟩
    · have q0 : ¬ (k : Int) < (N : Int) := by omega
      obtain rfl : k = N := by omega
      have HALL := Lib.hid (show m.all mayV = true by rw [HN.out, List.take_length] at hall; exact hall)
      have HB := Lib.hid hb
      clear hb hall hlt hk
      by_cases e1 : (k : Int) = n
      · have t1 : ((k : Int) == n) = true := beq_iff_eq.2 e1
        by_cases e2 : 1 ≤ n
        · have t2 : decide (n ≥ 1) = true := decide_eq_true e2
          by_cases e3 : n ≤ 32
          · have t3 : decide (n ≤ 32) = true := decide_eq_true e3
            have HE := Lib.hid (show mayM m n = true by simp [mayM, HALL.out, ← HN.out, e1, e2, e3])
            clear e1 e2 e3
            go_wp2
            go_ret
            exact ⟨by rw [HE.out]; rfl, HB.out⟩
          · have t3 : decide (n ≤ 32) = false := decide_eq_false e3
            have HE := Lib.hid (show mayM m n = false by simp [mayM, HALL.out, ← HN.out, e1, e2, e3])
            clear e1 e2 e3
            go_wp2
            go_ret
            exact ⟨by rw [HE.out]; rfl, HB.out⟩
        · have t2 : decide (n ≥ 1) = false := decide_eq_false e2
          have HE := Lib.hid (show mayM m n = false by simp [mayM, HALL.out, ← HN.out, e1, e2])
          clear e1 e2
          go_wp2
          go_ret
          exact ⟨by rw [HE.out]; rfl, HB.out⟩
      · have t1 : ((k : Int) == n) = false := beq_eq_false_iff_ne.2 e1
        have HE := Lib.hid (show mayM m n = false by simp [mayM, HALL.out, ← HN.out, e1])
        clear e1
        go_wp2
        go_ret
        exact ⟨by rw [HE.out]; rfl, HB.out⟩
def smallM (m : M2) : Bool := decide (m.length ≤ 40) && m.all fun l => decide (l.length ≤ 60)
theorem smallM_iff {m : M2} : smallM m = true ↔ m.length ≤ 40 ∧ ∀ l ∈ m, l.length ≤ 60 := by
  rw [smallM, Bool.and_eq_true, decide_eq_true_eq, List.all_eq_true]
  simp
theorem small_fits {m : M2} (h : smallM m = true) : Fits m := by
  obtain ⟨h1, h2⟩ := smallM_iff.1 h
  exact ⟨by omega, fun l hl => by have := h2 l hl; omega⟩
set_option maxRecDepth 100000 in
set_option maxHeartbeats 16000000 in
theorem small_any (m : M2) (v : Value) (w : World) (hv : HasMat w v m) : Calls Tryd.prog 9 #[v] w fun e w' => e = .returned (.bool (smallM m)) ∧ w = w' := by
  have HV := Lib.hid hv
  obtain ⟨ao, cap, rfl⟩ := mat_shape hv m.length rfl
  obtain ⟨N, hN⟩ : ∃ N, N = m.length := ⟨_, rfl⟩
  have HN := Lib.hid hN
  rw [← hN] at HV ⊢
  clear hv hN
  go_enter Tryd.func9, Tryd.ntmps9
  go_wp2
  go_loopw [3] (fun c wr => ∃ k : Nat, k ≤ N ∧ k ≤ 41 ∧ c = .int .i64 (k : Int) ∧ (∀ l ∈ m.take k, l.length ≤ 60) ∧ w = wr) (fun c _ => 41 - (intOf c).toNat)
  case atStart => exact ⟨0, Nat.zero_le _, by omega, rfl, (fun _ h => by cases h), rfl⟩
  case round =>
    obtain ⟨k, hk, hk41, rfl, hall, rfl⟩ := hrel
    by_cases hlt : k < N
    · have q0 : (k : Int) < (N : Int) := by omega
      have d0 : decide ((k : Int) < (N : Int)) = true := decide_eq_true q0
      by_cases h41 : k < 41
      · have q1 : (k : Int) < 41 := by omega
        have d1 : decide ((k : Int) < 41) = true := decide_eq_true q1
        have KK := Lib.hid (show k + 1 ≤ N ∧ k + 1 ≤ 41 ∧ 41 - (k + 1) < 41 - k by omega)
        obtain ⟨l, hl⟩ : ∃ l, m[k]? = some l := ⟨_, List.getElem?_eq_getElem (by have := HN.out; omega)⟩
        obtain ⟨ad, cap', u, e1, c0, hd⟩ := mat_at HV.out N k HN.out.symm l hl
        simp only [Value.slice.injEq] at e1
        obtain ⟨rfl, -, rfl⟩ := e1
        obtain ⟨uo, uc, rfl⟩ := dots_shape hd l.length rfl
        obtain ⟨n1, hn1⟩ : ∃ n1, n1 = l.length := ⟨_, rfl⟩
        rw [← hn1] at c0
        by_cases hbig : n1 > 60
        · have q2 : (n1 : Int) > 60 := by omega
          have HE := Lib.hid (show smallM m = false by
            rw [Bool.eq_false_iff]
            intro h
            have := (smallM_iff.1 h).2 l (List.mem_of_getElem? hl)
            omega)
          clear hbig hn1 hd hl h41 hlt hk hall
          go_wp2
          go_ret
          exact ⟨by rw [HE.out]; rfl, rfl⟩
        · have q2 : ¬ (n1 : Int) > 60 := by omega
          have HT := Lib.hid (show ∀ x ∈ m.take (k + 1), x.length ≤ 60 from fun x hx => by
            rw [List.take_add_one, hl] at hx
            rcases List.mem_append.1 hx with hx | hx
            · exact hall x hx
            · have : x = l := by simpa using hx
              subst this; omega)
          clear hbig hn1 hd hl h41 hlt hk hall hk41
          go_wp2
          refine ⟨⟨k + 1, KK.out.1, KK.out.2.1, by simp, HT.out, trivial⟩, ?_⟩
          have := KK.out.2.2; simp [intOf] <;> omega
      · have q1 : ¬ (k : Int) < 41 := by omega
        have d1 : decide ((k : Int) < 41) = false := decide_eq_false q1
        have d2 : decide ((N : Int) ≤ 40) = false := decide_eq_false (by omega)
        have HE := Lib.hid (show smallM m = false by rw [smallM, decide_eq_false (by have := HN.out; omega), Bool.false_and])
        clear h41 hlt hk hall hk41
        go_wp2
        go_ret
        exact ⟨by rw [HE.out]; rfl, rfl⟩
    · have q0 : ¬ (k : Int) < (N : Int) := by omega
      have d0 : decide ((k : Int) < (N : Int)) = false := decide_eq_false q0
      obtain rfl : k = N := by omega
      rw [HN.out, List.take_length] at hall
      by_cases h40 : k ≤ 40
      · have d2 : decide ((k : Int) ≤ 40) = true := decide_eq_true (by omega)
        have HE := Lib.hid (show smallM m = true from smallM_iff.2 ⟨by have := HN.out; omega, hall⟩)
        clear h40 hlt hk hall hk41
        go_wp2
        go_ret
        exact ⟨by rw [HE.out]; rfl, rfl⟩
      · have d2 : decide ((k : Int) ≤ 40) = false := decide_eq_false (by omega)
        have HE := Lib.hid (show smallM m = false by rw [smallM, decide_eq_false (by have := HN.out; omega), Bool.false_and])
        clear h40 hlt hk hall hk41
        go_wp2
        go_ret
        exact ⟨by rw [HE.out]; rfl, rfl⟩
set_option maxRecDepth 100000 in
set_option maxHeartbeats 16000000 in
theorem refText_any11 (m : M2) (hm : Fits m) (v : Value) (w : World) (hv : HasMat w v m) : Calls Tryd.prog 16 #[v] w fun e w' => e = .returned (.string (str (textM m))) ∧ Below w.heap.size w w' := by
  have HV := Lib.hid hv
  obtain ⟨ao, cap, rfl⟩ := mat_shape hv m.length rfl
  obtain ⟨N, hN⟩ : ∃ N, N = m.length := ⟨_, rfl⟩
  have HN := Lib.hid hN
  rw [← hN] at HV ⊢
  have HFM := Lib.hid hm
  have hn4 : N ≤ 1000 := by have := hm.1; omega
  have HEND := Lib.hid (show joinB 59 (rowTs m N) = textM m by rw [hN]; exact rowTs_all m)
  clear hv hm hN
  go_enter Tryd.func16, Tryd.ntmps16
  go_wp2
  go_loopw [3, 4] (fun v c wr => ∃ k : Nat, k ≤ N ∧ c = .int .i64 (k : Int) ∧ v = .string (str (joinB 59 (rowTs m k))) ∧ Below w.heap.size w wr) (fun _ c _ => N - (intOf c).toNat)
  case atStart => exact ⟨0, by omega, rfl, rfl, Below.refl _ _⟩
  case round =>
    obtain ⟨k, hk, rfl, rfl, hb⟩ := hrel
    have HB := Lib.hid hb
    by_cases hlt : k < N
    · have q0 : (k : Int) < (N : Int) := by omega
      have KK := Lib.hid (show k + 1 ≤ N ∧ N - (k + 1) < N - k by omega)
      obtain ⟨l, hl⟩ : ∃ l, m[k]? = some l := ⟨_, List.getElem?_eq_getElem (by have := HN.out; omega)⟩
      obtain ⟨ad, cap', u, e1, d1, hd⟩ := mat_at HV.out N k HN.out.symm l hl
      simp only [Value.slice.injEq] at e1
      obtain ⟨rfl, -, rfl⟩ := e1
      obtain ⟨uo, uc, rfl⟩ := dots_shape hd l.length rfl
      have c0 := cell_under d1 hb
      have hpl := rowTs_len m k (by have := HN.out; omega)
      have hdl := textV_len l
      have NX := Lib.hid (fun (hk : 0 < k) => rowTs_more hl hk)
      have N1 := Lib.hid (fun (hk : k = 0) => show joinB 59 (rowTs m (k + 1)) = textV l by subst hk; exact rowTs_one hl)
      have TX := Lib.hid (refText_any10 l (fits_at HFM.out hl) (.slice uo l.length uc) wr (dots_below hd hb))
      obtain ⟨A, hA⟩ : ∃ A, A = joinB 59 (rowTs m k) := ⟨_, rfl⟩
      rw [← hA] at hpl NX ⊢
      obtain ⟨T, hT⟩ : ∃ T, T = textV l := ⟨_, rfl⟩
      rw [← hT] at hdl TX NX N1
      obtain ⟨n1, hn1⟩ : ∃ n1, n1 = l.length := ⟨_, rfl⟩
      rw [← hn1] at c0 TX
      by_cases hk0 : 0 < k
      · have d1 : decide ((k : Int) > 0) = true := decide_eq_true (by omega)
        have q3 : (k : Int) > 0 := by omega
        obtain ⟨A1', hA1⟩ : ∃ A1, A ++ [59] = A1 := ⟨_, rfl⟩
        obtain ⟨A2, hA2⟩ : ∃ A2, A1' ++ T = A2 := ⟨_, rfl⟩
        have ad1 : ∀ w, (Op.stringOp .add (str A) ⟨#[59]⟩).run Tryd.prog w = .ok (.string (str A1')) w := fun w => by rw [← hA1]; exact add_str A [59] (by simp; omega) w
        have ad2 : ∀ w, (Op.stringOp .add (str A1') (str T)).run Tryd.prog w = .ok (.string (str A2)) w := fun w => by rw [← hA2]; exact add_str A1' T (by rw [← hA1]; simp; omega) w
        have HN2 := Lib.hid (show joinB 59 (rowTs m (k + 1)) = A2 by rw [NX.out hk0, hA1, hA2])
        clear hpl hdl hb hlt hA hT hA1 hA2 hl hd hn1 hk0 hk
        go_wp2_with (first
          | (go_at_call 38; refine TX.out.mono ?_; rintro e w4 ⟨rfl, hb⟩; have B4 := Lib.hid (below_next HB.out hb); clear hb))
        refine ⟨⟨k + 1, KK.out.1, by simp, by rw [HN2.out], B4.out⟩, ?_⟩
        have := KK.out.2; simp [intOf]; omega
      · have d1 : decide ((k : Int) > 0) = false := decide_eq_false (by omega)
        have q3 : ¬ (k : Int) > 0 := by omega
        have hk00 : k = 0 := by omega
        have hAe : A = [] := by rw [hA, hk00]; rfl
        obtain ⟨A2, hA2⟩ : ∃ A2, A ++ T = A2 := ⟨_, rfl⟩
        have ad1 : ∀ w, (Op.stringOp .add (str A) (str T)).run Tryd.prog w = .ok (.string (str A2)) w := fun w => by rw [← hA2]; exact add_str A T (by omega) w
        have HN2 := Lib.hid (show joinB 59 (rowTs m (k + 1)) = A2 by rw [N1.out hk00, ← hA2, hAe, List.nil_append])
        clear hpl hdl hb hlt hA hT hA2 hl hd hn1 hk0 hk hk00 hAe
        go_wp2_with (first
          | (go_at_call 38; refine TX.out.mono ?_; rintro e w4 ⟨rfl, hb⟩; have B4 := Lib.hid (below_next HB.out hb); clear hb))
        refine ⟨⟨k + 1, KK.out.1, by simp, by rw [HN2.out], B4.out⟩, ?_⟩
        have := KK.out.2; simp [intOf]; omega
    · have q0 : ¬ (k : Int) < (N : Int) := by omega
      obtain rfl : k = N := by omega
      clear hb hlt hk
      go_wp2
      go_ret
      exact ⟨by rw [← HEND.out]; rfl, HB.out⟩
end Go.Proofs.YtcnjgdnokiindaaDoor
namespace Go.Proofs.YtcnjgdnokiindaaDoor
open Go.RowKit
/-- The first k numbers are the new ones. -/
def mixN (f g : Nat → Int) (k i : Nat) : Int := if i < k then g i else f i
theorem mixN_zero (n : Nat) (f g : Nat → Int) : nums n (mixN f g 0) = nums n f := nums_congr _ _ _ fun _ _ => if_neg (by omega)
theorem mixN_full (n : Nat) (f g : Nat → Int) : nums n (mixN f g n) = nums n g := nums_congr _ _ _ fun _ hi => if_pos hi
theorem mixN_set (n : Nat) (f g : Nat → Int) (k : Nat) : (nums n (mixN f g k)).setIfInBounds k (.int .i64 (g k)) = nums n (mixN f g (k + 1)) := nums_set _ _ _ _ _ fun j _ => by
  unfold mixN
  by_cases h : j = k
  · subst h; rw [if_pos rfl, if_pos (by omega)]
  · rw [if_neg h]
    by_cases h2 : j < k
    · rw [if_pos h2, if_pos (by omega)]
    · rw [if_neg h2, if_neg (by omega)]
theorem mixN_at (f g : Nat → Int) (k : Nat) : mixN f g k k = f k := if_neg (Nat.lt_irrefl _)
theorem max_if (x y : Int) : (if x < y then y else x) = max x y := by split <;> omega
set_option maxRecDepth 100000 in
set_option maxHeartbeats 16000000 in
theorem refJoin_typ10 (a b : List D2) (ha : a.length < 2000000) (hb : b.length < 2000000) (v u : Value) (w : World) (hv : HasDots w v a) (hu : HasDots w u b) : Calls Tryd.prog 34 #[v, u] w fun e w' => ∃ x, e = .returned x ∧ TypDots w' x (joinV a b) ∧ Below w.heap.size w w' := by
  have HV := Lib.hid hv
  have HU := Lib.hid hu
  have A1 := Lib.hid (fun w v hv => refAll_V a ha v w hv)
  have A2 := Lib.hid (fun w v hv => refAll_V b hb v w hv)
  have O1 := Lib.hid (fun w => refOf_typ (joinN a b) w)
  obtain ⟨ao, cap, rfl⟩ := dots_shape hv a.length rfl
  obtain ⟨ao2, cap2, rfl⟩ := dots_shape hu b.length rfl
  obtain ⟨n, hn⟩ : ∃ n, n = a.length := ⟨_, rfl⟩
  obtain ⟨m, hm⟩ : ∃ m, m = b.length := ⟨_, rfl⟩
  rw [← hn] at HV ⊢
  rw [← hm] at HU ⊢
  clear hv hu ha hb hn hm
  go_enter Tryd.func34, Tryd.ntmps34
  go_upto_region 2 with (first
    | (go_at_call 60; refine (A1.out w _ HV.out).mono ?_; rintro e w1 ⟨rfl, hb⟩; have B1 := Lib.hid hb; clear hb)
    | (refine alloc_as rfl 74 rfl _ zero32 ?_)
    | (refine store_new rfl 74 (.tmp 5) (.tmp 9) rfl rfl w1 _ (nums 32 (allV a)) 74 rfl rfl rfl (by rw [nums_size]; kernel_rfl) (by rw [nums_size, nums_size]) (nums_one _ _) ?_; intro w2 hg2 hb2 hs2; have HG := Lib.hid hg2; have B2 := Lib.hid (below_next B1.out hb2); have LG := Lib.hid (And.intro B1.out.size hs2); clear hg2 hb2 hs2))
  generalize w1.heap.size = G at *
  go_upto_region 3 with (first
    | (go_at_call 60; refine (A2.out w2 _ (dots_below HU.out B2.out)).mono ?_; rintro e w3 ⟨rfl, hb⟩; have HG3 := Lib.hid (row_kept HG.out hb); have B3 := Lib.hid (below_next B2.out hb); have L3 := Lib.hid (show G < w3.heap.size from Nat.lt_of_lt_of_le LG.out.2 hb.size); clear hb)
    | (refine alloc_as rfl 74 rfl _ zero32 ?_)
    | (refine store_new rfl 74 (.tmp 6) (.tmp 11) rfl rfl w3 _ (nums 32 (allV b)) 74 rfl rfl rfl (by rw [nums_size]; kernel_rfl) (by rw [nums_size, nums_size]) (nums_one _ _) ?_; intro w4 hg4 hb4 hs4; have HH := Lib.hid hg4; have GG := Lib.hid (row_kept HG3.out hb4); have B4 := Lib.hid (below_next B3.out hb4); clear hg4 hb4 hs4))
  have HGH := Lib.hid (show G ≠ w3.heap.size ∧ w.heap.size ≤ G from ⟨Nat.ne_of_lt L3.out, LG.out.1⟩)
  generalize w3.heap.size = H at *
  go_wp2
  go_loopw [7] (fun c wr => ∃ k : Nat, k ≤ 32 ∧ c = .int .i64 (k : Int) ∧ wr.heap[G]? = some (.cells (nums 32 (mixN (allV a) (joinN a b) k)) 74 (0, 0)) ∧ wr.heap[H]? = some (.cells (nums 32 (allV b)) 74 (0, 0)) ∧ Below w.heap.size w wr) (fun c _ => 32 - (intOf c).toNat)
  case atStart => exact ⟨0, by omega, rfl, by rw [mixN_zero]; exact GG.out, HH.out, B4.out⟩
  case round =>
    clear GG HH B4
    obtain ⟨k, hk, rfl, hg, hh, hb⟩ := hrel
    by_cases hlt : k < 32
    · have q0 : (k : Int) < 32 := by omega
      have c0 := nums_cell hg k hlt
      have c1 := nums_cell hh k hlt
      rw [mixN_at] at c0
      have HG := Lib.hid hg
      have HH := Lib.hid hh
      have HB := Lib.hid hb
      have HK := Lib.hid hlt
      have KK := Lib.hid (show k + 1 ≤ 32 ∧ 32 - (k + 1) < 32 - k by omega)
      have HM := Lib.hid (mixN_set 32 (allV a) (joinN a b) k)
      obtain ⟨x, hx⟩ : ∃ x, x = allV a k := ⟨_, rfl⟩
      obtain ⟨y, hy⟩ : ∃ y, y = allV b k := ⟨_, rfl⟩
      have HXY := Lib.hid (show joinN a b k = max x y by rw [joinN, hx, hy])
      rw [← hx] at c0
      rw [← hy] at c1
      rw [HXY.out] at HM
      clear hg hh hb hlt hx hy
      go_wp2
      go_still_tail 9, (by kernel_rfl)
      try rw [max_if x y]
      change wpList _ _ _ _ _ wr.drew
      have hg : wr.drew.heap[G]? = _ := HG.out
      have hh : wr.drew.heap[H]? = _ := HH.out
      have hb := below_draws HB.out 1
      change Below _ _ wr.drew at hb
      clear HG HH HB c0 c1 HXY
      generalize wr.drew = w7 at *
      generalize max x y = z at *
      go_wp2_with (first
        | (refine store_cell rfl 2 (.tmp 24) (.tmp 23) rfl rfl .i64 G k _ z 74 hg rfl rfl (by rw [nums_size]; exact HK.out) (by kernel_rfl) ?_; intro w8 hg8 hs8; rw [HM.out] at hg8; have H8 := Lib.hid (And.intro hg8 (And.intro ((hs8.block H (Ne.symm HGH.out.1)).trans hh) (solo_below hb hs8 HGH.out.2))); clear hg8 hs8 hg hh hb))
      refine ⟨⟨k + 1, KK.out.1, by simp, H8.out.1, H8.out.2.1, H8.out.2.2⟩, ?_⟩
      have := KK.out.2; simp [intOf] <;> omega
    · have q0 : ¬ (k : Int) < 32 := by omega
      obtain rfl : k = 32 := by omega
      rw [mixN_full] at hg
      have HG := Lib.hid hg
      have HB := Lib.hid hb
      clear hg hh hb hlt
      go_wp2_with (first
        | (refine wpList_load_row rfl 74 (.tmp 5) rfl G rfl 74 _ (0, 0) _ HG.out Tryd.underlying74 rfl (by rw [nums_size]; kernel_rfl) ?_)
        | (go_at_call 61; refine (O1.out _).mono ?_; rintro e w8 ⟨x, rfl, hx, hb⟩; have HX := Lib.hid hx; have B8 := Lib.hid (below_next HB.out hb); clear hx hb))
      go_ret
      exact ⟨_, rfl, HX.out, B8.out⟩
end Go.Proofs.YtcnjgdnokiindaaDoor
