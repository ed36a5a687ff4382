/-
Texts that all claims of this seat share, part 4: HeadsMay, HexaCode, Marks, PathSeq, PathPart, PathAll.
-/
import Derived.Maps.OwnSet
import Derived.DeepKeys4
import Derived.LaidMore
import Derived.Test.YtcdjkjadbhejpaaDoorShelf
import Derived.Shelf.Strings.SplitCore
import Derived.Laws.CopyOwn
import Derived.WalkMore
import Derived.ScopeJumps
import Derived.Lib.Join
import Derived.RangeFuncNested
import Derived.RangeFuncBound
import Derived.RangeFuncCalls
import Derived.RangeFuncLeaves
import Derived.RangeFuncFrom
import Derived.Shelf.Abstract
import Derived.Shelf.RegionOpen
import Derived.WalkKit
import Derived.OwnWalkIn
import Derived.TacticsInMore
import Derived.LoopNIn
import Derived.LoopIn
import Derived.Lib.IndexLaws
import Derived.OneCell
import Derived.BigQuiet
import Derived.Deep.QuietTactic
import Derived.Test.YtcdjkjadbhejpaaDoorPk3
namespace Go.Proofs.YtcdjkjadbhejpaaDoor
open Go.RowKit
theorem cell_under12 {w w' : World} {A : Addr} {u : Value} (hc : w.cell? A = some u) (hb : Below w.heap.size w w') : w'.cell? A = some u :=
  (World.cell?_of_block (hb.block A.block (World.block_lt_of_cell? w _ hc))).trans hc
theorem ev_fieldM {w : World} {A : Addr} {e : Ev} {v : Value} (hc : ∀ j u, (evC e v)[j]? = some u → w.cell? (A.add j) = some u) (j : Nat) (hj : j ≠ 0) (u : Value) (hu : (evC e v)[j]? = some u) : w.cell? ⟨A.block, A.off + j, none⟩ = some u := by
  have h := hc j u hu
  unfold Addr.add at h
  rw [if_neg hj] at h
  exact h
noncomputable def folB (a : List Ev) (e : Ev) : Bool := @decide (Follows a e) (Classical.propDecidable _)
theorem folB_iff (a : List Ev) (e : Ev) : folB a e = true ↔ Follows a e := by unfold folB; exact @decide_eq_true_iff (Follows a e) (Classical.propDecidable _)
theorem folB_not {a : List Ev} {e : Ev} (h : ¬ Follows a e) : folB a e = false := by
  cases hm : folB a e with
  | false => rfl
  | true => exact absurd ((folB_iff a e).1 hm) h
theorem fst_atM {us : List (Ev × Value)} {k : Nat} {x : Ev × Value} (h : us[k]? = some x) : (us.map (·.1))[k]? = some x.1 := by rw [List.getElem?_map, h]; rfl
theorem rises_at {l : List Ev} (h : Rises l) {i j : Nat} {e f : Ev} (he : l[i]? = some e) (hf : l[j]? = some f) (hij : i < j) : cmpE e f < 0 := by
  obtain ⟨hi, rfl⟩ := List.getElem?_eq_some_iff.1 he
  obtain ⟨hj, rfl⟩ := List.getElem?_eq_some_iff.1 hf
  exact (List.pairwise_iff_getElem.1 h) i j hi hj hij
/-- All have been looked at from behind as far as m. -/
def Seen (l : List Ev) (e : Ev) (m : Nat) : Prop := ∀ j f, m ≤ j → l[j]? = some f → f.path = e.path ∧ knE f e = false ∧ knE e f = false
theorem fol_end {l : List Ev} {e : Ev} {m n : Nat} (hr : Rises l) (hn : l.length = n) (hc : ∀ f, l[n - 1]? = some f → cmpE f e < 0) (hs : Seen l e m) (hm : m = 0 ∨ ∃ f, l[m - 1]? = some f ∧ f.path ≠ e.path) (hmn : m ≤ n) : Follows l e := by
  intro f hf
  obtain ⟨j, hj, rfl⟩ := List.mem_iff_getElem.1 hf
  have hle : ∀ i, i < n → ∀ g, l[i]? = some g → cmpE g e < 0 := fun i hi g hg => by
    obtain ⟨z, hz⟩ : ∃ z, l[n - 1]? = some z := ⟨_, List.getElem?_eq_getElem (by omega)⟩
    have hz1 := hc z hz
    rcases Nat.lt_or_ge i (n - 1) with h | h
    · exact (cmpE_trans g z e).2 (rises_at hr hg hz h) hz1
    · obtain rfl : i = n - 1 := by omega
      rw [hz] at hg; cases hg; exact hz1
  have hg := List.getElem?_eq_getElem hj
  refine ⟨hle j (by omega) _ hg, fun hp => ?_⟩
  rcases Nat.lt_or_ge j m with h | h
  · exfalso
    rcases hm with rfl | ⟨z, hz, hzp⟩
    · omega
    · rcases Nat.lt_or_ge j (m - 1) with h1 | h1
      · exact hzp (rises_path hr (rises_at hr hg hz h1) (hle (m - 1) (by omega) z hz) hp)
      · obtain rfl : j = m - 1 := by omega
        rw [hg] at hz; cases hz; exact hzp hp
  · have := hs j _ h hg
    exact ⟨this.2.1, this.2.2⟩
theorem heads_twice {l : List Ev} {i : Nat} {e f : Ev} (H : Heads l) (he : l[i]? = some e) (hf : f ∈ l.take i) (h1 : f.r = e.r) (h2 : f.q = e.q) : False := by
  obtain ⟨j, hj, rfl⟩ := List.mem_iff_getElem.1 hf
  have hji : j < i := by rw [List.length_take] at hj; omega
  obtain ⟨hi, rfl⟩ := List.getElem?_eq_some_iff.1 he
  have hjl : j < l.length := by omega
  have := (List.pairwise_iff_getElem.1 H.2) j i hjl hi hji
  rw [List.getElem_take] at h1 h2
  have hd := (dotE_iff l[j] l[i]).2 ⟨h1, h2⟩
  rw [hd] at this; exact absurd this.2.1 (by simp)
theorem heads_at {l : List Ev} {i : Nat} {e : Ev} (H : Heads l) (he : l[i]? = some e) : mayE e = true ∧ Follows (l.take i) e := by
  have h1 := heads_take H (i + 1)
  rw [List.take_add_one, he] at h1
  have h2 := (heads_snoc (l.take i) e).1 h1
  exact ⟨h2.2.2.1, h2.2.2.2⟩
set_option maxRecDepth 100000 in
theorem dot_law : Go.Maps.Keyed Tryd.prog 24 := Go.Maps.Keyed.of_law (deep_law_laid (show laidOutB Tryd.prog = true by kernel_rfl) (m := 2) (by decide) (of_decide_eq_true (by kernel_rfl)) (by kernel_rfl) (by kernel_rfl))
theorem dot_key (r q : Int) (hr : I64 r) (hq : I64 q) : ∃ kl, keyOf Tryd.prog 24 (.agg #[.int .i64 r, .int .i64 q]) = some kl := by
  have hwr : (Lit.int .i64 r).wf = true := by simp [Lit.wf, IntKind.min, IntKind.max, IntKind.signed, IntKind.bits]; unfold I64 at hr; omega
  have hwq : (Lit.int .i64 q).wf = true := by simp [Lit.wf, IntKind.min, IntKind.max, IntKind.signed, IntKind.bits]; unfold I64 at hq; omega
  have hk : Tryd.prog.keyType 24 = true := by kernel_rfl
  have hf : (Value.agg #[.int .i64 r, .int .i64 q]).formed Tryd.prog 24 = true := by kernel_rfl
  unfold keyOf
  rw [Tryd.underlying24]
  simp only [hk, hf, Bool.and_self, if_true]
  have h1 : 1 ≤ Tryd.prog.types.size := of_decide_eq_true (by kernel_rfl)
  obtain ⟨m, hm⟩ : ∃ m, Tryd.prog.types.size + 1 = m + 2 := ⟨Tryd.prog.types.size - 1, by omega⟩
  rw [hm]
  have c0 : Tryd.prog.cellsOf 24 = 2 := by kernel_rfl
  have c1 : Tryd.prog.cellsOf 3 = 1 := by kernel_rfl
  have c2 : Tryd.prog.cellsOf 2 = 1 := by kernel_rfl
  simp [Program.keyLits, Tryd.underlying24, Tryd.underlying3, Tryd.underlying2, c0, c1, c2, Value.cells, hwr, hwq]
/-- A set of dots: those of some events. -/
def DotSet (w : World) (b n : Nat) (l : List Ev) : Prop := ∃ D : DataW Unit, w.ownsMap Tryd.prog 24 unitElem b n D ∧ ∀ r q kl, keyOf Tryd.prog 24 (.agg #[.int .i64 r, .int .i64 q]) = some kl → (Maps.has D kl = true ↔ ∃ f ∈ l, f.r = r ∧ f.q = q)
theorem dotSet_put {w : World} {b n : Nat} {D : DataW Unit} {l : List Ev} {e : Ev} {kl : Lit} (hm : Go.Maps.IsMap D) (hD : ∀ r q kl, keyOf Tryd.prog 24 (.agg #[.int .i64 r, .int .i64 q]) = some kl → (Maps.has D kl = true ↔ ∃ f ∈ l, f.r = r ∧ f.q = q))
    (hk : keyOf Tryd.prog 24 (.agg #[.int .i64 e.r, .int .i64 e.q]) = some kl) (ho : w.ownsMap Tryd.prog 24 unitElem b n (D.put kl (.agg []))) : DotSet w b n (l ++ [e]) := by
  refine ⟨_, ho, fun r q kl' hk' => ?_⟩
  by_cases hkl : kl' = kl
  · subst hkl
    have := dot_law.inj hk' hk
    simp only [Value.agg.injEq, Array.mk.injEq, List.cons.injEq, Value.int.injEq, true_and, and_true] at this
    rw [Maps.has_put_same hm (dot_law.key hk)]
    simp only [true_iff]
    exact ⟨e, by simp, this.1.symm, this.2.symm⟩
  · rw [Maps.has_put_other hkl, hD r q kl' hk']
    constructor
    · rintro ⟨f, hf, h⟩; exact ⟨f, by simp [hf], h⟩
    · rintro ⟨f, hf, h1, h2⟩
      rcases List.mem_append.1 hf with hf | hf
      · exact ⟨f, hf, h1, h2⟩
      · rw [List.mem_singleton.1 hf] at h1 h2
        rw [← h1, ← h2, hk] at hk'
        exact absurd (Option.some.inj hk').symm hkl
theorem dotSet_made (w : World) : DotSet (w.alloc (.map #[] 0)) w.heap.size 0 [] := by
  refine ⟨.map [], World.ownsMap_made w _ _ _, fun r q kl _ => ?_⟩
  simp [Maps.has]
theorem holdsU_take {w : World} {ao : Option Addr} {n cap : Nat} {us : List (Ev × Value)} (h : HoldsU w (.slice ao n cap) us) (i : Nat) (hi : i ≤ n) : HoldsU w (.slice ao i cap) (us.take i) := by
  obtain ⟨ao', cap', e, hnil, hc⟩ := h
  simp only [Value.slice.injEq] at e
  obtain ⟨rfl, hn, rfl⟩ := e
  have hl : (us.take i).length = i := by rw [List.length_take]; omega
  refine ⟨ao, cap, by rw [hl], fun h => ?_, fun ad had => ?_⟩
  · obtain ⟨h1, h2⟩ := hnil h
    exact ⟨by rw [h1]; simp, h2⟩
  · obtain ⟨h1, h2⟩ := hc ad had
    refine ⟨by omega, fun j u hu => h2 j u ?_⟩
    have e1 : evsC us = evsC (us.take i) ++ evsC (us.drop i) := by rw [← evsC_append, List.take_append_drop]
    rw [e1, List.getElem?_append_left (List.getElem?_eq_some_iff.1 hu).1]
    exact hu
set_option maxRecDepth 100000 in
set_option maxHeartbeats 16000000 in
theorem follow_any13 (us : List (Ev × Value)) (hl : us.length ≤ 50000) (hf : FitU us) (e : Ev) (hfe : FitE e) (v u : Value) (w : World) (hv : HoldsU w v us) (hd : DepsU w us) (hu : HasDots w u e.deps) (hr : Rises (us.map (·.1))) : Calls Tryd.prog 13 #[v, .agg (evC e u)] w fun x w' => x = .returned (.bool (folB (us.map (·.1)) e)) ∧ Below w.heap.size w w' := by
  have h0 := (Below.refl w.heap.size w).alloc (Nat.le_refl _) (.cells (evC e u) 30 (0, 0))
  have E0 := Lib.hid (box_ev w 30 e u)
  have B0 := Lib.hid h0
  have HV := Lib.hid (holdsU_below hv h0)
  have HD := Lib.hid (depsU_below hd h0)
  have HU := Lib.hid (dots_below hu h0)
  have HF := Lib.hid hf
  have HFE := Lib.hid hfe
  have HR := Lib.hid hr
  obtain ⟨n, hn⟩ : ∃ n, n = us.length := ⟨_, rfl⟩
  have hn5 : n ≤ 50000 := by omega
  have HN := Lib.hid hn
  obtain ⟨ao, cap, hvs⟩ := holdsU_shape hv n hn
  subst hvs
  clear hl hf hfe hv hd hu hr h0 hn
  by_cases hn0 : n = 0
  · subst hn0
    have HX := Lib.hid (show folB (us.map (·.1)) e = true by
      rw [List.eq_nil_of_length_eq_zero HN.out.symm]
      exact (folB_iff _ _).2 (fun f hf => by cases hf))
    go_enter Tryd.func13, Tryd.ntmps13
    go_upto_region 2 with fail
    generalize w.alloc (.cells (evC e u) 30 (0, 0)) = W0 at *
    refine wp_region_held_drew (S := fun w' => Below W0.heap.size W0 w') (by kernel_rfl) (drawS (Below.refl _ _)) (fun hHeld => ?_)
    generalize W0.drew = wd at hHeld ⊢
    refine take_at (i := 0) 9 rfl rfl (by kernel_rfl) (by kernel_rfl) (by kernel_rfl) (fun _ _ _ h => h) (sure_yes (by rfl) (fun w => by go_simp; try with_reducible rfl)) hHeld ?_
    simp only [List.setIfInBounds_toArray, List.set_cons_zero, List.set_cons_succ]
    refine take_at (i := 1) 10 rfl rfl (by kernel_rfl) (by kernel_rfl) (by kernel_rfl) (fun _ _ _ h => h) (sure_yes (by rfl) (fun w => by go_simp; try with_reducible rfl)) hHeld ?_
    simp only [List.setIfInBounds_toArray, List.set_cons_zero, List.set_cons_succ]
    refine take_at (i := 2) 11 rfl rfl (by kernel_rfl) (by kernel_rfl) (by kernel_rfl) (fun _ _ _ h => h) (sure_yes (by rfl) (fun w => by go_simp; try with_reducible rfl)) hHeld ?_
    simp only [List.setIfInBounds_toArray, List.set_cons_zero, List.set_cons_succ]
    refine take_at (i := 3) 12 rfl rfl (by kernel_rfl) (by kernel_rfl) (by kernel_rfl) (fun _ _ _ h => h) (.inr ⟨by rfl, rfl⟩) hHeld ?_
    simp only [List.setIfInBounds_toArray, List.set_cons_zero, List.set_cons_succ]
    refine take_at (i := 4) 13 rfl rfl (by kernel_rfl) (by kernel_rfl) (by kernel_rfl) (fun _ _ _ h => h) (.inr ⟨by rfl, rfl⟩) hHeld ?_
    simp only [List.setIfInBounds_toArray, List.set_cons_zero, List.set_cons_succ]
    refine take_at (i := 5) 14 rfl rfl (by kernel_rfl) (by kernel_rfl) (by kernel_rfl) (fun _ _ _ h => h) (.inr ⟨by rfl, rfl⟩) hHeld ?_
    simp only [List.setIfInBounds_toArray, List.set_cons_zero, List.set_cons_succ]
    refine take_at (i := 6) 15 rfl rfl (by kernel_rfl) (by kernel_rfl) (by kernel_rfl) (fun _ _ _ h => h) (.inr ⟨by rfl, rfl⟩) hHeld ?_
    simp only [List.setIfInBounds_toArray, List.set_cons_zero, List.set_cons_succ]
    refine take_at (i := 7) 16 rfl rfl (by kernel_rfl) (by kernel_rfl) (by kernel_rfl) (fun _ _ _ h => h) (.inr ⟨by rfl, rfl⟩) hHeld ?_
    simp only [List.setIfInBounds_toArray, List.set_cons_zero, List.set_cons_succ]
    refine take_at (i := 8) 17 rfl rfl (by kernel_rfl) (by kernel_rfl) (by kernel_rfl) (fun _ _ _ h => h) (.inr ⟨by rfl, rfl⟩) hHeld ?_
    simp only [List.setIfInBounds_toArray, List.set_cons_zero, List.set_cons_succ]
    refine take_at (i := 9) 18 rfl rfl (by kernel_rfl) (by kernel_rfl) (by kernel_rfl) (fun _ _ _ h => h) (.inr ⟨by rfl, rfl⟩) hHeld ?_
    simp only [List.setIfInBounds_toArray, List.set_cons_zero, List.set_cons_succ]
    refine take_at (i := 10) 19 rfl rfl (by kernel_rfl) (by kernel_rfl) (by kernel_rfl) (fun _ _ _ h => h) (sure_yes (by rfl) (fun w => by go_simp; try with_reducible rfl)) hHeld ?_
    simp only [List.setIfInBounds_toArray, List.set_cons_zero, List.set_cons_succ]
    refine wpAnyH_done (by kernel_rfl) ?_ _
    have HY := Lib.hid hHeld
    clear hHeld
    go_wp2
    go_loopw [5] (fun c wr => c = .int .i64 (-1) ∧ Below W0.heap.size W0 wr) (fun _ _ => 0)
    case atStart => exact ⟨rfl, HY.out⟩
    case round =>
      obtain ⟨rfl, hb⟩ := hrel
      have HB := Lib.hid hb
      clear hb
      go_upto_region 4 with fail
      refine wp_region_held_drew (S := fun w' => Below W0.heap.size W0 w') (by kernel_rfl) (drawS HB.out) (fun hHeld => ?_)
      generalize wr.drew = wd at hHeld ⊢
      refine take_at (i := 0) 20 rfl rfl (by kernel_rfl) (by kernel_rfl) (by kernel_rfl) (fun _ _ _ h => h) (sure_yes (by rfl) (fun w => by go_simp; try with_reducible rfl)) hHeld ?_
      simp only [List.setIfInBounds_toArray, List.set_cons_zero, List.set_cons_succ]
      refine take_at (i := 1) 21 rfl rfl (by kernel_rfl) (by kernel_rfl) (by kernel_rfl) (fun _ _ _ h => h) (sure_yes (by rfl) (fun w => by go_simp; try with_reducible rfl)) hHeld ?_
      simp only [List.setIfInBounds_toArray, List.set_cons_zero, List.set_cons_succ]
      refine take_at (i := 2) 22 rfl rfl (by kernel_rfl) (by kernel_rfl) (by kernel_rfl) (fun _ _ _ h => h) (sure_yes (by rfl) (fun w => by go_simp; try with_reducible rfl)) hHeld ?_
      simp only [List.setIfInBounds_toArray, List.set_cons_zero, List.set_cons_succ]
      refine take_at (i := 3) 23 rfl rfl (by kernel_rfl) (by kernel_rfl) (by kernel_rfl) (fun _ _ _ h => h) (.inr ⟨by rfl, rfl⟩) hHeld ?_
      simp only [List.setIfInBounds_toArray, List.set_cons_zero, List.set_cons_succ]
      refine take_at (i := 4) 24 rfl rfl (by kernel_rfl) (by kernel_rfl) (by kernel_rfl) (fun _ _ _ h => h) (.inr ⟨by rfl, rfl⟩) hHeld ?_
      simp only [List.setIfInBounds_toArray, List.set_cons_zero, List.set_cons_succ]
      refine take_at (i := 5) 25 rfl rfl (by kernel_rfl) (by kernel_rfl) (by kernel_rfl) (fun _ _ _ h => h) (.inr ⟨by rfl, rfl⟩) hHeld ?_
      simp only [List.setIfInBounds_toArray, List.set_cons_zero, List.set_cons_succ]
      refine take_at (i := 6) 26 rfl rfl (by kernel_rfl) (by kernel_rfl) (by kernel_rfl) (fun _ _ _ h => h) (.inr ⟨by rfl, rfl⟩) hHeld ?_
      simp only [List.setIfInBounds_toArray, List.set_cons_zero, List.set_cons_succ]
      refine take_at (i := 7) 27 rfl rfl (by kernel_rfl) (by kernel_rfl) (by kernel_rfl) (fun _ _ _ h => h) (.inr ⟨by rfl, rfl⟩) hHeld ?_
      simp only [List.setIfInBounds_toArray, List.set_cons_zero, List.set_cons_succ]
      refine take_at (i := 8) 28 rfl rfl (by kernel_rfl) (by kernel_rfl) (by kernel_rfl) (fun _ _ _ h => h) (.inr ⟨by rfl, rfl⟩) hHeld ?_
      simp only [List.setIfInBounds_toArray, List.set_cons_zero, List.set_cons_succ]
      refine take_at (i := 9) 29 rfl rfl (by kernel_rfl) (by kernel_rfl) (by kernel_rfl) (fun _ _ _ h => h) (.inr ⟨by rfl, rfl⟩) hHeld ?_
      simp only [List.setIfInBounds_toArray, List.set_cons_zero, List.set_cons_succ]
      refine take_at (i := 10) 30 rfl rfl (by kernel_rfl) (by kernel_rfl) (by kernel_rfl) (fun _ _ _ h => h) (.inr ⟨by rfl, rfl⟩) hHeld ?_
      simp only [List.setIfInBounds_toArray, List.set_cons_zero, List.set_cons_succ]
      refine take_at (i := 11) 31 rfl rfl (by kernel_rfl) (by kernel_rfl) (by kernel_rfl) (fun _ _ _ h => h) (sure_yes (by rfl) (fun w => by go_simp; try with_reducible rfl)) hHeld ?_
      simp only [List.setIfInBounds_toArray, List.set_cons_zero, List.set_cons_succ]
      refine wpAnyH_done (by kernel_rfl) ?_ _
      have HZ := Lib.hid hHeld
      clear hHeld
      go_wp2
      go_ret
      exact ⟨by rw [HX.out]; rfl, below_next B0.out HZ.out⟩
  · obtain ⟨z, hz⟩ : ∃ z, us[n - 1]? = some z := ⟨_, List.getElem?_eq_getElem (by have := HN.out; omega)⟩
    obtain ⟨ad, cap', e1, hcz⟩ := holdsU_at HV.out n (n - 1) HN.out.symm z hz
    cases e1
    have CZ := Lib.hid hcz
    have HZ := Lib.hid hz
    have HFZ := Lib.hid (HF.out z (List.mem_of_getElem? hz))
    obtain ⟨ze, zv⟩ := z
    dsimp only at CZ HFZ
    have CM := Lib.hid (fun w => cmp_any12 ze e HFZ.out.1 HFZ.out.2.1 HFE.out.1 HFE.out.2.1 zv u w)
    obtain ⟨c, hc⟩ : ∃ c, c = cmpE ze e := ⟨_, rfl⟩
    rw [← hc] at CM
    have HC := Lib.hid hc
    have q1 : ((n : Int) - 1) = ((n - 1 : Nat) : Int) := by omega
    obtain ⟨n1, hn1⟩ : ∃ k, k = n - 1 := ⟨_, rfl⟩
    rw [← hn1] at q1 CZ HZ
    have hw1 : IntKind.i64.wrap ((n : Int) - 1) = (n1 : Int) := by rw [q1, IntKind.wrap_i64]; omega
    have hw2 : wrap64 ((n : Int) - 1) = (n1 : Int) := by rw [q1, wrap64]; omega
    have hlt : n1 < n := by omega
    have hlt2 : (n1 : Int) < (n : Int) := by omega
    have HN1 := Lib.hid hn1
    clear hcz hz hc hn0 hn1 q1
    by_cases hc0 : 0 ≤ c
    · have hd0 : decide (0 ≤ c) = true := decide_eq_true hc0
      have HX := Lib.hid (show folB (us.map (·.1)) e = false from folB_not (fun h => by
        have := (h ze (List.mem_of_getElem? (fst_atM HZ.out))).1
        have := HC.out; omega))
      clear hc0
      go_enter Tryd.func13, Tryd.ntmps13
      go_upto_region 2 with fail
      generalize w.alloc (.cells (evC e u) 30 (0, 0)) = W0 at *
      refine wp_region_held_drew (S := fun w' => Below W0.heap.size W0 w') (by kernel_rfl) (drawS (Below.refl _ _)) (fun hHeld => ?_)
      generalize W0.drew = wd at hHeld ⊢
      refine take_at (i := 0) 9 rfl rfl (by kernel_rfl) (by kernel_rfl) (by kernel_rfl) (fun _ _ _ h => h) (sure_yes (by rfl) (fun w => by go_simp; try with_reducible rfl)) hHeld ?_
      simp only [List.setIfInBounds_toArray, List.set_cons_zero, List.set_cons_succ]
      refine take_at (i := 1) 10 rfl rfl (by kernel_rfl) (by kernel_rfl) (by kernel_rfl) (fun _ _ _ h => h) (sure_yes (by rfl) (fun w => by go_simp; try with_reducible rfl)) hHeld ?_
      simp only [List.setIfInBounds_toArray, List.set_cons_zero, List.set_cons_succ]
      refine take_at (i := 2) 11 rfl rfl (by kernel_rfl) (by kernel_rfl) (by kernel_rfl) (fun _ _ _ h => h) (sure_yes (by rfl) (fun w => by go_simp; try with_reducible rfl)) hHeld ?_
      simp only [List.setIfInBounds_toArray, List.set_cons_zero, List.set_cons_succ]
      refine take_at (i := 3) 12 rfl rfl (by kernel_rfl) (by kernel_rfl) (by kernel_rfl) (fun _ _ _ h => h) (sure_yes (by rfl) (fun w => by go_simp; try with_reducible rfl)) hHeld ?_
      simp only [List.setIfInBounds_toArray, List.set_cons_zero, List.set_cons_succ]
      refine take_at (i := 4) 13 rfl rfl (by kernel_rfl) (by kernel_rfl) (by kernel_rfl) (fun _ _ _ h => h) (sure_yes (by rfl) (fun w => by go_simp; try with_reducible rfl)) hHeld ?_
      simp only [List.setIfInBounds_toArray, List.set_cons_zero, List.set_cons_succ]
      refine take_at (i := 5) 14 rfl rfl (by kernel_rfl) (by kernel_rfl) (by kernel_rfl) (fun _ _ _ h => h) (sure_yes (by rfl) (fun w => by go_simp; try with_reducible rfl)) hHeld ?_
      simp only [List.setIfInBounds_toArray, List.set_cons_zero, List.set_cons_succ]
      refine take_at (i := 6) 15 rfl rfl (by kernel_rfl) (by kernel_rfl) (by kernel_rfl) (fun _ _ _ h => h) (evA_yields (by rfl) 30 (.tmp 14) rfl (ad.add (n1 * 38)) rfl Tryd.underlying30 evSize (fun w h j u hu => cell_under12 (CZ.out j u hu) h)) hHeld ?_
      simp only [List.setIfInBounds_toArray, List.set_cons_zero, List.set_cons_succ]
      refine take_at (i := 7) 16 rfl rfl (by kernel_rfl) (by kernel_rfl) (by kernel_rfl) (fun _ _ _ h => h) (evA_yields (by rfl) 30 (.tmp 3) rfl ⟨w.heap.size, 0, none⟩ rfl Tryd.underlying30 evSize (fun w h j u hu => cell_under12 (by rw [Addr.add_lit, Nat.zero_add]; exact evAt_cell E0.out j u hu) h)) hHeld ?_
      simp only [List.setIfInBounds_toArray, List.set_cons_zero, List.set_cons_succ]
      refine ready_call2 8 17 (by kernel_rfl) rfl rfl (by rfl) 27 (.tmp 15) (.tmp 16) 30 30 rfl (.agg (evC ze zv)) (.agg (evC e u)) rfl rfl (enters_of Tryd.func27 (by kernel_rfl) rfl) _ (CM.out _) (fun x wz hp => ?_)
      obtain ⟨rfl, hb⟩ := hp
      refine ⟨_, rfl, below_next hHeld hb, ?_⟩
      replace hHeld := below_next hHeld hb
      clear hb
      simp only [List.setIfInBounds_toArray, List.set_cons_zero, List.set_cons_succ]
      refine take_at (i := 9) 18 rfl rfl (by kernel_rfl) (by kernel_rfl) (by kernel_rfl) (fun _ _ _ h => h) (sure_yes (by rfl) (fun w => by go_simp; try with_reducible rfl)) hHeld ?_
      simp only [List.setIfInBounds_toArray, List.set_cons_zero, List.set_cons_succ]
      refine take_at (i := 10) 19 rfl rfl (by kernel_rfl) (by kernel_rfl) (by kernel_rfl) (fun _ _ _ h => h) (sure_yes (by rfl) (fun w => by go_simp; try with_reducible rfl)) hHeld ?_
      simp only [List.setIfInBounds_toArray, List.set_cons_zero, List.set_cons_succ]
      refine wpAnyH_done (by kernel_rfl) ?_ _
      have HY := Lib.hid hHeld
      clear hHeld
      go_wp2
      go_ret
      exact ⟨by rw [HX.out]; rfl, below_next B0.out HY.out⟩
    · have hd0 : decide (0 ≤ c) = false := decide_eq_false hc0
      have HCZ := Lib.hid (show ∀ f, (us.map (·.1))[n - 1]? = some f → cmpE f e < 0 from fun f hf => by
        rw [← HN1.out, fst_atM HZ.out] at hf; cases hf; have := HC.out; show cmpE ze e < 0; omega)
      clear hc0
      go_enter Tryd.func13, Tryd.ntmps13
      go_upto_region 2 with fail
      generalize w.alloc (.cells (evC e u) 30 (0, 0)) = W0 at *
      refine wp_region_held_drew (S := fun w' => Below W0.heap.size W0 w') (by kernel_rfl) (drawS (Below.refl _ _)) (fun hHeld => ?_)
      generalize W0.drew = wd at hHeld ⊢
      refine take_at (i := 0) 9 rfl rfl (by kernel_rfl) (by kernel_rfl) (by kernel_rfl) (fun _ _ _ h => h) (sure_yes (by rfl) (fun w => by go_simp; try with_reducible rfl)) hHeld ?_
      simp only [List.setIfInBounds_toArray, List.set_cons_zero, List.set_cons_succ]
      refine take_at (i := 1) 10 rfl rfl (by kernel_rfl) (by kernel_rfl) (by kernel_rfl) (fun _ _ _ h => h) (sure_yes (by rfl) (fun w => by go_simp; try with_reducible rfl)) hHeld ?_
      simp only [List.setIfInBounds_toArray, List.set_cons_zero, List.set_cons_succ]
      refine take_at (i := 2) 11 rfl rfl (by kernel_rfl) (by kernel_rfl) (by kernel_rfl) (fun _ _ _ h => h) (sure_yes (by rfl) (fun w => by go_simp; try with_reducible rfl)) hHeld ?_
      simp only [List.setIfInBounds_toArray, List.set_cons_zero, List.set_cons_succ]
      refine take_at (i := 3) 12 rfl rfl (by kernel_rfl) (by kernel_rfl) (by kernel_rfl) (fun _ _ _ h => h) (sure_yes (by rfl) (fun w => by go_simp; try with_reducible rfl)) hHeld ?_
      simp only [List.setIfInBounds_toArray, List.set_cons_zero, List.set_cons_succ]
      refine take_at (i := 4) 13 rfl rfl (by kernel_rfl) (by kernel_rfl) (by kernel_rfl) (fun _ _ _ h => h) (sure_yes (by rfl) (fun w => by go_simp; try with_reducible rfl)) hHeld ?_
      simp only [List.setIfInBounds_toArray, List.set_cons_zero, List.set_cons_succ]
      refine take_at (i := 5) 14 rfl rfl (by kernel_rfl) (by kernel_rfl) (by kernel_rfl) (fun _ _ _ h => h) (sure_yes (by rfl) (fun w => by go_simp; try with_reducible rfl)) hHeld ?_
      simp only [List.setIfInBounds_toArray, List.set_cons_zero, List.set_cons_succ]
      refine take_at (i := 6) 15 rfl rfl (by kernel_rfl) (by kernel_rfl) (by kernel_rfl) (fun _ _ _ h => h) (evA_yields (by rfl) 30 (.tmp 14) rfl (ad.add (n1 * 38)) rfl Tryd.underlying30 evSize (fun w h j u hu => cell_under12 (CZ.out j u hu) h)) hHeld ?_
      simp only [List.setIfInBounds_toArray, List.set_cons_zero, List.set_cons_succ]
      refine take_at (i := 7) 16 rfl rfl (by kernel_rfl) (by kernel_rfl) (by kernel_rfl) (fun _ _ _ h => h) (evA_yields (by rfl) 30 (.tmp 3) rfl ⟨w.heap.size, 0, none⟩ rfl Tryd.underlying30 evSize (fun w h j u hu => cell_under12 (by rw [Addr.add_lit, Nat.zero_add]; exact evAt_cell E0.out j u hu) h)) hHeld ?_
      simp only [List.setIfInBounds_toArray, List.set_cons_zero, List.set_cons_succ]
      refine ready_call2 8 17 (by kernel_rfl) rfl rfl (by rfl) 27 (.tmp 15) (.tmp 16) 30 30 rfl (.agg (evC ze zv)) (.agg (evC e u)) rfl rfl (enters_of Tryd.func27 (by kernel_rfl) rfl) _ (CM.out _) (fun x wz hp => ?_)
      obtain ⟨rfl, hb⟩ := hp
      refine ⟨_, rfl, below_next hHeld hb, ?_⟩
      replace hHeld := below_next hHeld hb
      clear hb
      simp only [List.setIfInBounds_toArray, List.set_cons_zero, List.set_cons_succ]
      refine take_at (i := 9) 18 rfl rfl (by kernel_rfl) (by kernel_rfl) (by kernel_rfl) (fun _ _ _ h => h) (sure_yes (by rfl) (fun w => by go_simp; try with_reducible rfl)) hHeld ?_
      simp only [List.setIfInBounds_toArray, List.set_cons_zero, List.set_cons_succ]
      refine take_at (i := 10) 19 rfl rfl (by kernel_rfl) (by kernel_rfl) (by kernel_rfl) (fun _ _ _ h => h) (sure_yes (by rfl) (fun w => by go_simp; try with_reducible rfl)) hHeld ?_
      simp only [List.setIfInBounds_toArray, List.set_cons_zero, List.set_cons_succ]
      refine wpAnyH_done (by kernel_rfl) ?_ _
      have HY := Lib.hid hHeld
      clear hHeld
      go_wp2
      go_loopw [5] (fun c wr => ∃ m : Nat, m ≤ n ∧ c = .int .i64 ((m : Int) - 1) ∧ Seen (us.map (·.1)) e m ∧ Below W0.heap.size W0 wr) (fun c _ => (intOf c + 1).toNat)
      case atStart => exact ⟨n, Nat.le_refl _, by have := HN1.out; congr 1; omega, fun j f hj hf => by
        have := (List.getElem?_eq_some_iff.1 hf).1
        rw [List.length_map, ← HN.out] at this; omega, HY.out⟩
      case round =>
        obtain ⟨m', hm', rfl, hseen, hb⟩ := hrel
        have HS := Lib.hid hseen
        have HB := Lib.hid hb
        clear hseen hb
        by_cases hm0 : m' = 0
        · subst hm0
          have HX := Lib.hid (show folB (us.map (·.1)) e = true from (folB_iff _ _).2 (fol_end HR.out (by rw [List.length_map, HN.out]) HCZ.out HS.out (.inl rfl) (Nat.zero_le _)))
          have q3 : ((0 : Nat) : Int) - 1 = -1 := by decide
          rw [q3]
          go_upto_region 4 with fail
          refine wp_region_held_drew (S := fun w' => Below W0.heap.size W0 w') (by kernel_rfl) (drawS HB.out) (fun hHeld => ?_)
          generalize wr.drew = wd at hHeld ⊢
          refine take_at (i := 0) 20 rfl rfl (by kernel_rfl) (by kernel_rfl) (by kernel_rfl) (fun _ _ _ h => h) (sure_yes (by rfl) (fun w => by go_simp; try with_reducible rfl)) hHeld ?_
          simp only [List.setIfInBounds_toArray, List.set_cons_zero, List.set_cons_succ]
          refine take_at (i := 1) 21 rfl rfl (by kernel_rfl) (by kernel_rfl) (by kernel_rfl) (fun _ _ _ h => h) (sure_yes (by rfl) (fun w => by go_simp; try with_reducible rfl)) hHeld ?_
          simp only [List.setIfInBounds_toArray, List.set_cons_zero, List.set_cons_succ]
          refine take_at (i := 2) 22 rfl rfl (by kernel_rfl) (by kernel_rfl) (by kernel_rfl) (fun _ _ _ h => h) (sure_yes (by rfl) (fun w => by go_simp; try with_reducible rfl)) hHeld ?_
          simp only [List.setIfInBounds_toArray, List.set_cons_zero, List.set_cons_succ]
          refine take_at (i := 3) 23 rfl rfl (by kernel_rfl) (by kernel_rfl) (by kernel_rfl) (fun _ _ _ h => h) (.inr ⟨by rfl, rfl⟩) hHeld ?_
          simp only [List.setIfInBounds_toArray, List.set_cons_zero, List.set_cons_succ]
          refine take_at (i := 4) 24 rfl rfl (by kernel_rfl) (by kernel_rfl) (by kernel_rfl) (fun _ _ _ h => h) (.inr ⟨by rfl, rfl⟩) hHeld ?_
          simp only [List.setIfInBounds_toArray, List.set_cons_zero, List.set_cons_succ]
          refine take_at (i := 5) 25 rfl rfl (by kernel_rfl) (by kernel_rfl) (by kernel_rfl) (fun _ _ _ h => h) (.inr ⟨by rfl, rfl⟩) hHeld ?_
          simp only [List.setIfInBounds_toArray, List.set_cons_zero, List.set_cons_succ]
          refine take_at (i := 6) 26 rfl rfl (by kernel_rfl) (by kernel_rfl) (by kernel_rfl) (fun _ _ _ h => h) (.inr ⟨by rfl, rfl⟩) hHeld ?_
          simp only [List.setIfInBounds_toArray, List.set_cons_zero, List.set_cons_succ]
          refine take_at (i := 7) 27 rfl rfl (by kernel_rfl) (by kernel_rfl) (by kernel_rfl) (fun _ _ _ h => h) (.inr ⟨by rfl, rfl⟩) hHeld ?_
          simp only [List.setIfInBounds_toArray, List.set_cons_zero, List.set_cons_succ]
          refine take_at (i := 8) 28 rfl rfl (by kernel_rfl) (by kernel_rfl) (by kernel_rfl) (fun _ _ _ h => h) (.inr ⟨by rfl, rfl⟩) hHeld ?_
          simp only [List.setIfInBounds_toArray, List.set_cons_zero, List.set_cons_succ]
          refine take_at (i := 9) 29 rfl rfl (by kernel_rfl) (by kernel_rfl) (by kernel_rfl) (fun _ _ _ h => h) (.inr ⟨by rfl, rfl⟩) hHeld ?_
          simp only [List.setIfInBounds_toArray, List.set_cons_zero, List.set_cons_succ]
          refine take_at (i := 10) 30 rfl rfl (by kernel_rfl) (by kernel_rfl) (by kernel_rfl) (fun _ _ _ h => h) (.inr ⟨by rfl, rfl⟩) hHeld ?_
          simp only [List.setIfInBounds_toArray, List.set_cons_zero, List.set_cons_succ]
          refine take_at (i := 11) 31 rfl rfl (by kernel_rfl) (by kernel_rfl) (by kernel_rfl) (fun _ _ _ h => h) (sure_yes (by rfl) (fun w => by go_simp; try with_reducible rfl)) hHeld ?_
          simp only [List.setIfInBounds_toArray, List.set_cons_zero, List.set_cons_succ]
          refine wpAnyH_done (by kernel_rfl) ?_ _
          have HZ2 := Lib.hid hHeld
          clear hHeld
          go_wp2
          go_ret
          exact ⟨by rw [HX.out]; rfl, below_next B0.out HZ2.out⟩
        · obtain ⟨m, hm⟩ : ∃ m, m' = m + 1 := ⟨m' - 1, by omega⟩
          subst hm
          have q3 : ((m + 1 : Nat) : Int) - 1 = (m : Int) := by omega
          rw [q3]
          have hmn : m < n := by omega
          have hmn2 : (m : Int) < (n : Int) := by omega
          have hm5 : (m : Int) < 50000 := by omega
          obtain ⟨f, hf⟩ : ∃ f, us[m]? = some f := ⟨_, List.getElem?_eq_getElem (by have := HN.out; omega)⟩
          obtain ⟨ad2, cap2, e2, hcf⟩ := holdsU_at HV.out n m HN.out.symm f hf
          cases e2
          have CF := Lib.hid hcf
          have HFM := Lib.hid hf
          have HDF := Lib.hid (HD.out f (List.mem_of_getElem? hf))
          have HFF := Lib.hid (HF.out f (List.mem_of_getElem? hf))
          obtain ⟨fe, fv⟩ := f
          dsimp only at CF HDF HFF
          have s1 : (str fe.path).toList = fe.path := str_toList _
          have s2 : (str e.path).toList = e.path := str_toList _
          clear hcf hf hm0 hm' q3
          cases hp : (fe.path == e.path) with
          | false =>
            have HX := Lib.hid (show folB (us.map (·.1)) e = true from (folB_iff _ _).2 (fol_end HR.out (by rw [List.length_map, HN.out]) HCZ.out HS.out (.inr ⟨fe, by rw [Nat.add_sub_cancel]; exact fst_atM HFM.out, by simpa using hp⟩) (by omega)))
            go_upto_region 4 with fail
            refine wp_region_held_drew (S := fun w' => Below W0.heap.size W0 w') (by kernel_rfl) (drawS HB.out) (fun hHeld => ?_)
            generalize wr.drew = wd at hHeld ⊢
            refine take_at (i := 0) 20 rfl rfl (by kernel_rfl) (by kernel_rfl) (by kernel_rfl) (fun _ _ _ h => h) (sure_yes (by rfl) (fun w => by go_simp; try with_reducible rfl)) hHeld ?_
            simp only [List.setIfInBounds_toArray, List.set_cons_zero, List.set_cons_succ]
            refine take_at (i := 1) 21 rfl rfl (by kernel_rfl) (by kernel_rfl) (by kernel_rfl) (fun _ _ _ h => h) (sure_yes (by rfl) (fun w => by go_simp; try with_reducible rfl)) hHeld ?_
            simp only [List.setIfInBounds_toArray, List.set_cons_zero, List.set_cons_succ]
            refine take_at (i := 2) 22 rfl rfl (by kernel_rfl) (by kernel_rfl) (by kernel_rfl) (fun _ _ _ h => h) (sure_yes (by rfl) (fun w => by go_simp; try with_reducible rfl)) hHeld ?_
            simp only [List.setIfInBounds_toArray, List.set_cons_zero, List.set_cons_succ]
            refine take_at (i := 3) 23 rfl rfl (by kernel_rfl) (by kernel_rfl) (by kernel_rfl) (fun _ _ _ h => h) (sure_yes (by rfl) (fun w => by go_simp; try with_reducible rfl)) hHeld ?_
            simp only [List.setIfInBounds_toArray, List.set_cons_zero, List.set_cons_succ]
            refine take_at (i := 4) 24 rfl rfl (by kernel_rfl) (by kernel_rfl) (by kernel_rfl) (fun _ _ _ h => h) (sure_yes (by rfl) (fun w => by go_simp; try with_reducible rfl)) hHeld ?_
            simp only [List.setIfInBounds_toArray, List.set_cons_zero, List.set_cons_succ]
            refine take_at (i := 5) 25 rfl rfl (by kernel_rfl) (by kernel_rfl) (by kernel_rfl) (fun _ _ _ h => h) (sure_yes (by rfl) (fun w => by go_simp; try with_reducible rfl)) hHeld ?_
            simp only [List.setIfInBounds_toArray, List.set_cons_zero, List.set_cons_succ]
            refine take_at (i := 6) 26 rfl rfl (by kernel_rfl) (by kernel_rfl) (by kernel_rfl) (fun _ _ _ h => h) (sure_yes (by rfl) (fun w => by go_simp; try with_reducible rfl)) hHeld ?_
            simp only [List.setIfInBounds_toArray, List.set_cons_zero, List.set_cons_succ]
            refine take_at (i := 8) 28 rfl rfl (by kernel_rfl) (by kernel_rfl) (by kernel_rfl) (fun _ _ _ h => h) (sure_yes (by rfl) (fun w => by go_simp; try with_reducible rfl)) hHeld ?_
            simp only [List.setIfInBounds_toArray, List.set_cons_zero, List.set_cons_succ]
            refine take_at (i := 7) 27 rfl rfl (by kernel_rfl) (by kernel_rfl) (by kernel_rfl) (fun _ _ _ h => h) (str_yields12 (by rfl) 9 (.tmp 26) rfl ⟨(ad.add (m * 38)).block, (ad.add (m * 38)).off + 4, none⟩ rfl (str fe.path) Tryd.underlying9 (fun w h => cell_under12 (ev_fieldM CF.out 4 (by decide) _ (evC_at _ _).2.2.2.2.1) h)) hHeld ?_
            simp only [List.setIfInBounds_toArray, List.set_cons_zero, List.set_cons_succ]
            refine take_at (i := 9) 29 rfl rfl (by kernel_rfl) (by kernel_rfl) (by kernel_rfl) (fun _ _ _ h => h) (str_yields12 (by rfl) 9 (.tmp 28) rfl ⟨w.heap.size, 4, none⟩ rfl (str e.path) Tryd.underlying9 (fun w h => cell_under12 (evAt_cells E0.out).2.2.2.2.1 h)) hHeld ?_
            simp only [List.setIfInBounds_toArray, List.set_cons_zero, List.set_cons_succ]
            refine take_at (i := 10) 30 rfl rfl (by kernel_rfl) (by kernel_rfl) (by kernel_rfl) (fun _ _ _ h => h) (sure_yes (by rfl) (fun w => by go_simp; try with_reducible rfl)) hHeld ?_
            simp only [List.setIfInBounds_toArray, List.set_cons_zero, List.set_cons_succ]
            refine take_at (i := 11) 31 rfl rfl (by kernel_rfl) (by kernel_rfl) (by kernel_rfl) (fun _ _ _ h => h) (sure_yes (by rfl) (fun w => by go_simp; try with_reducible rfl)) hHeld ?_
            simp only [List.setIfInBounds_toArray, List.set_cons_zero, List.set_cons_succ]
            refine wpAnyH_done (by kernel_rfl) ?_ _
            have HZ2 := Lib.hid hHeld
            clear hHeld
            go_wp2
            go_ret
            exact ⟨by rw [HX.out]; rfl, below_next B0.out HZ2.out⟩
          | true =>
            have K1 := Lib.hid (fun w hv => knows_any12 fe e HFF.out.2.2.1 fv u w hv)
            have K2 := Lib.hid (fun w hv => knows_any12 e fe HFE.out.2.2.1 u fv w hv)
            have HPE := Lib.hid (show fe.path = e.path by simpa using hp)
            go_upto_region 4 with fail
            refine wp_region_held_drew (S := fun w' => Below W0.heap.size W0 w') (by kernel_rfl) (drawS HB.out) (fun hHeld => ?_)
            generalize wr.drew = wd at hHeld ⊢
            refine take_at (i := 0) 20 rfl rfl (by kernel_rfl) (by kernel_rfl) (by kernel_rfl) (fun _ _ _ h => h) (sure_yes (by rfl) (fun w => by go_simp; try with_reducible rfl)) hHeld ?_
            simp only [List.setIfInBounds_toArray, List.set_cons_zero, List.set_cons_succ]
            refine take_at (i := 1) 21 rfl rfl (by kernel_rfl) (by kernel_rfl) (by kernel_rfl) (fun _ _ _ h => h) (sure_yes (by rfl) (fun w => by go_simp; try with_reducible rfl)) hHeld ?_
            simp only [List.setIfInBounds_toArray, List.set_cons_zero, List.set_cons_succ]
            refine take_at (i := 2) 22 rfl rfl (by kernel_rfl) (by kernel_rfl) (by kernel_rfl) (fun _ _ _ h => h) (sure_yes (by rfl) (fun w => by go_simp; try with_reducible rfl)) hHeld ?_
            simp only [List.setIfInBounds_toArray, List.set_cons_zero, List.set_cons_succ]
            refine take_at (i := 3) 23 rfl rfl (by kernel_rfl) (by kernel_rfl) (by kernel_rfl) (fun _ _ _ h => h) (sure_yes (by rfl) (fun w => by go_simp; try with_reducible rfl)) hHeld ?_
            simp only [List.setIfInBounds_toArray, List.set_cons_zero, List.set_cons_succ]
            refine take_at (i := 4) 24 rfl rfl (by kernel_rfl) (by kernel_rfl) (by kernel_rfl) (fun _ _ _ h => h) (sure_yes (by rfl) (fun w => by go_simp; try with_reducible rfl)) hHeld ?_
            simp only [List.setIfInBounds_toArray, List.set_cons_zero, List.set_cons_succ]
            refine take_at (i := 5) 25 rfl rfl (by kernel_rfl) (by kernel_rfl) (by kernel_rfl) (fun _ _ _ h => h) (sure_yes (by rfl) (fun w => by go_simp; try with_reducible rfl)) hHeld ?_
            simp only [List.setIfInBounds_toArray, List.set_cons_zero, List.set_cons_succ]
            refine take_at (i := 6) 26 rfl rfl (by kernel_rfl) (by kernel_rfl) (by kernel_rfl) (fun _ _ _ h => h) (sure_yes (by rfl) (fun w => by go_simp; try with_reducible rfl)) hHeld ?_
            simp only [List.setIfInBounds_toArray, List.set_cons_zero, List.set_cons_succ]
            refine take_at (i := 8) 28 rfl rfl (by kernel_rfl) (by kernel_rfl) (by kernel_rfl) (fun _ _ _ h => h) (sure_yes (by rfl) (fun w => by go_simp; try with_reducible rfl)) hHeld ?_
            simp only [List.setIfInBounds_toArray, List.set_cons_zero, List.set_cons_succ]
            refine take_at (i := 7) 27 rfl rfl (by kernel_rfl) (by kernel_rfl) (by kernel_rfl) (fun _ _ _ h => h) (str_yields12 (by rfl) 9 (.tmp 26) rfl ⟨(ad.add (m * 38)).block, (ad.add (m * 38)).off + 4, none⟩ rfl (str fe.path) Tryd.underlying9 (fun w h => cell_under12 (ev_fieldM CF.out 4 (by decide) _ (evC_at _ _).2.2.2.2.1) h)) hHeld ?_
            simp only [List.setIfInBounds_toArray, List.set_cons_zero, List.set_cons_succ]
            refine take_at (i := 9) 29 rfl rfl (by kernel_rfl) (by kernel_rfl) (by kernel_rfl) (fun _ _ _ h => h) (str_yields12 (by rfl) 9 (.tmp 28) rfl ⟨w.heap.size, 4, none⟩ rfl (str e.path) Tryd.underlying9 (fun w h => cell_under12 (evAt_cells E0.out).2.2.2.2.1 h)) hHeld ?_
            simp only [List.setIfInBounds_toArray, List.set_cons_zero, List.set_cons_succ]
            refine take_at (i := 10) 30 rfl rfl (by kernel_rfl) (by kernel_rfl) (by kernel_rfl) (fun _ _ _ h => h) (sure_yes (by rfl) (fun w => by go_simp; try with_reducible rfl)) hHeld ?_
            simp only [List.setIfInBounds_toArray, List.set_cons_zero, List.set_cons_succ]
            refine take_at (i := 11) 31 rfl rfl (by kernel_rfl) (by kernel_rfl) (by kernel_rfl) (fun _ _ _ h => h) (sure_yes (by rfl) (fun w => by go_simp; try with_reducible rfl)) hHeld ?_
            simp only [List.setIfInBounds_toArray, List.set_cons_zero, List.set_cons_succ]
            refine wpAnyH_done (by kernel_rfl) ?_ _
            have HZ2 := Lib.hid hHeld
            clear hHeld
            go_upto_region 6 with fail
            cases hk : hasV fe.deps e.r e.q with
            | true =>
              have HX := Lib.hid (show folB (us.map (·.1)) e = false from folB_not (fun h => by
                have h1 := ((h fe (List.mem_of_getElem? (fst_atM HFM.out))).2 HPE.out).1
                unfold knE at h1; rw [hk] at h1; cases h1))
              rw [hk] at K1
              clear hk
              refine wp_region_held_drew (S := fun w' => Below W0.heap.size W0 w') (by kernel_rfl) (drawS HZ2.out) (fun hHeld => ?_)
              generalize wd.drew = wd2 at hHeld ⊢
              refine take_at (i := 0) 34 rfl rfl (by kernel_rfl) (by kernel_rfl) (by kernel_rfl) (fun _ _ _ h => h) (sure_yes (by rfl) (fun w => by go_simp; try with_reducible rfl)) hHeld ?_
              simp only [List.setIfInBounds_toArray, List.set_cons_zero, List.set_cons_succ]
              refine take_at (i := 1) 35 rfl rfl (by kernel_rfl) (by kernel_rfl) (by kernel_rfl) (fun _ _ _ h => h) (sure_yes (by rfl) (fun w => by go_simp; try with_reducible rfl)) hHeld ?_
              simp only [List.setIfInBounds_toArray, List.set_cons_zero, List.set_cons_succ]
              refine take_at (i := 2) 36 rfl rfl (by kernel_rfl) (by kernel_rfl) (by kernel_rfl) (fun _ _ _ h => h) (sure_yes (by rfl) (fun w => by go_simp; try with_reducible rfl)) hHeld ?_
              simp only [List.setIfInBounds_toArray, List.set_cons_zero, List.set_cons_succ]
              refine take_at (i := 3) 37 rfl rfl (by kernel_rfl) (by kernel_rfl) (by kernel_rfl) (fun _ _ _ h => h) (evA_yields (by rfl) 30 (.tmp 36) rfl (ad.add (m * 38)) rfl Tryd.underlying30 evSize (fun w h j u hu => cell_under12 (CF.out j u hu) h)) hHeld ?_
              simp only [List.setIfInBounds_toArray, List.set_cons_zero, List.set_cons_succ]
              refine take_at (i := 4) 38 rfl rfl (by kernel_rfl) (by kernel_rfl) (by kernel_rfl) (fun _ _ _ h => h) (evA_yields (by rfl) 30 (.tmp 3) rfl ⟨w.heap.size, 0, none⟩ rfl Tryd.underlying30 evSize (fun w h j u hu => cell_under12 (by rw [Addr.add_lit, Nat.zero_add]; exact evAt_cell E0.out j u hu) h)) hHeld ?_
              simp only [List.setIfInBounds_toArray, List.set_cons_zero, List.set_cons_succ]
              refine ready_call2 5 39 (by kernel_rfl) rfl rfl (by rfl) 28 (.tmp 37) (.tmp 38) 30 30 rfl (.agg (evC fe fv)) (.agg (evC e u)) rfl rfl (enters_of Tryd.func28 (by kernel_rfl) rfl) _ (K1.out _ (dots_below HDF.out hHeld)) (fun x wz hp => ?_)
              obtain ⟨rfl, hb⟩ := hp
              refine ⟨_, rfl, below_next hHeld hb, ?_⟩
              replace hHeld := below_next hHeld hb
              clear hb
              simp only [List.setIfInBounds_toArray, List.set_cons_zero, List.set_cons_succ]
              refine take_at (i := 6) 40 rfl rfl (by kernel_rfl) (by kernel_rfl) (by kernel_rfl) (fun _ _ _ h => h) (sure_yes (by rfl) (fun w => by go_simp; try with_reducible rfl)) hHeld ?_
              simp only [List.setIfInBounds_toArray, List.set_cons_zero, List.set_cons_succ]
              refine take_at (i := 7) 41 rfl rfl (by kernel_rfl) (by kernel_rfl) (by kernel_rfl) (fun _ _ _ h => h) (.inr ⟨by rfl, rfl⟩) hHeld ?_
              simp only [List.setIfInBounds_toArray, List.set_cons_zero, List.set_cons_succ]
              refine take_at (i := 8) 42 rfl rfl (by kernel_rfl) (by kernel_rfl) (by kernel_rfl) (fun _ _ _ h => h) (.inr ⟨by rfl, rfl⟩) hHeld ?_
              simp only [List.setIfInBounds_toArray, List.set_cons_zero, List.set_cons_succ]
              refine take_at (i := 9) 43 rfl rfl (by kernel_rfl) (by kernel_rfl) (by kernel_rfl) (fun _ _ _ h => h) (.inr ⟨by rfl, rfl⟩) hHeld ?_
              simp only [List.setIfInBounds_toArray, List.set_cons_zero, List.set_cons_succ]
              refine take_at (i := 10) 44 rfl rfl (by kernel_rfl) (by kernel_rfl) (by kernel_rfl) (fun _ _ _ h => h) (.inr ⟨by rfl, rfl⟩) hHeld ?_
              simp only [List.setIfInBounds_toArray, List.set_cons_zero, List.set_cons_succ]
              refine take_at (i := 11) 45 rfl rfl (by kernel_rfl) (by kernel_rfl) (by kernel_rfl) (fun _ _ _ h => h) (.inr ⟨by rfl, rfl⟩) hHeld ?_
              simp only [List.setIfInBounds_toArray, List.set_cons_zero, List.set_cons_succ]
              refine take_at (i := 12) 46 rfl rfl (by kernel_rfl) (by kernel_rfl) (by kernel_rfl) (fun _ _ _ h => h) (.inr ⟨by rfl, rfl⟩) hHeld ?_
              simp only [List.setIfInBounds_toArray, List.set_cons_zero, List.set_cons_succ]
              refine take_at (i := 13) 47 rfl rfl (by kernel_rfl) (by kernel_rfl) (by kernel_rfl) (fun _ _ _ h => h) (sure_yes (by rfl) (fun w => by go_simp; try with_reducible rfl)) hHeld ?_
              simp only [List.setIfInBounds_toArray, List.set_cons_zero, List.set_cons_succ]
              refine wpAnyH_done (by kernel_rfl) ?_ _
              have HZ3 := Lib.hid hHeld
              clear hHeld
              go_wp2
              go_ret
              exact ⟨by rw [HX.out]; rfl, below_next B0.out HZ3.out⟩
            | false =>
              cases hk2 : hasV e.deps fe.r fe.q with
              | true =>
                have HX := Lib.hid (show folB (us.map (·.1)) e = false from folB_not (fun h => by
                  have h1 := ((h fe (List.mem_of_getElem? (fst_atM HFM.out))).2 HPE.out).2
                  unfold knE at h1; rw [hk2] at h1; cases h1))
                rw [hk] at K1
                rw [hk2] at K2
                clear hk hk2
                refine wp_region_held_drew (S := fun w' => Below W0.heap.size W0 w') (by kernel_rfl) (drawS HZ2.out) (fun hHeld => ?_)
                generalize wd.drew = wd2 at hHeld ⊢
                refine take_at (i := 0) 34 rfl rfl (by kernel_rfl) (by kernel_rfl) (by kernel_rfl) (fun _ _ _ h => h) (sure_yes (by rfl) (fun w => by go_simp; try with_reducible rfl)) hHeld ?_
                simp only [List.setIfInBounds_toArray, List.set_cons_zero, List.set_cons_succ]
                refine take_at (i := 1) 35 rfl rfl (by kernel_rfl) (by kernel_rfl) (by kernel_rfl) (fun _ _ _ h => h) (sure_yes (by rfl) (fun w => by go_simp; try with_reducible rfl)) hHeld ?_
                simp only [List.setIfInBounds_toArray, List.set_cons_zero, List.set_cons_succ]
                refine take_at (i := 2) 36 rfl rfl (by kernel_rfl) (by kernel_rfl) (by kernel_rfl) (fun _ _ _ h => h) (sure_yes (by rfl) (fun w => by go_simp; try with_reducible rfl)) hHeld ?_
                simp only [List.setIfInBounds_toArray, List.set_cons_zero, List.set_cons_succ]
                refine take_at (i := 3) 37 rfl rfl (by kernel_rfl) (by kernel_rfl) (by kernel_rfl) (fun _ _ _ h => h) (evA_yields (by rfl) 30 (.tmp 36) rfl (ad.add (m * 38)) rfl Tryd.underlying30 evSize (fun w h j u hu => cell_under12 (CF.out j u hu) h)) hHeld ?_
                simp only [List.setIfInBounds_toArray, List.set_cons_zero, List.set_cons_succ]
                refine take_at (i := 4) 38 rfl rfl (by kernel_rfl) (by kernel_rfl) (by kernel_rfl) (fun _ _ _ h => h) (evA_yields (by rfl) 30 (.tmp 3) rfl ⟨w.heap.size, 0, none⟩ rfl Tryd.underlying30 evSize (fun w h j u hu => cell_under12 (by rw [Addr.add_lit, Nat.zero_add]; exact evAt_cell E0.out j u hu) h)) hHeld ?_
                simp only [List.setIfInBounds_toArray, List.set_cons_zero, List.set_cons_succ]
                refine ready_call2 5 39 (by kernel_rfl) rfl rfl (by rfl) 28 (.tmp 37) (.tmp 38) 30 30 rfl (.agg (evC fe fv)) (.agg (evC e u)) rfl rfl (enters_of Tryd.func28 (by kernel_rfl) rfl) _ (K1.out _ (dots_below HDF.out hHeld)) (fun x wz hp => ?_)
                obtain ⟨rfl, hb⟩ := hp
                refine ⟨_, rfl, below_next hHeld hb, ?_⟩
                replace hHeld := below_next hHeld hb
                clear hb
                simp only [List.setIfInBounds_toArray, List.set_cons_zero, List.set_cons_succ]
                refine take_at (i := 6) 40 rfl rfl (by kernel_rfl) (by kernel_rfl) (by kernel_rfl) (fun _ _ _ h => h) (sure_yes (by rfl) (fun w => by go_simp; try with_reducible rfl)) hHeld ?_
                simp only [List.setIfInBounds_toArray, List.set_cons_zero, List.set_cons_succ]
                refine take_at (i := 8) 42 rfl rfl (by kernel_rfl) (by kernel_rfl) (by kernel_rfl) (fun _ _ _ h => h) (sure_yes (by rfl) (fun w => by go_simp; try with_reducible rfl)) hHeld ?_
                simp only [List.setIfInBounds_toArray, List.set_cons_zero, List.set_cons_succ]
                refine take_at (i := 9) 43 rfl rfl (by kernel_rfl) (by kernel_rfl) (by kernel_rfl) (fun _ _ _ h => h) (sure_yes (by rfl) (fun w => by go_simp; try with_reducible rfl)) hHeld ?_
                simp only [List.setIfInBounds_toArray, List.set_cons_zero, List.set_cons_succ]
                refine take_at (i := 10) 44 rfl rfl (by kernel_rfl) (by kernel_rfl) (by kernel_rfl) (fun _ _ _ h => h) (sure_yes (by rfl) (fun w => by go_simp; try with_reducible rfl)) hHeld ?_
                simp only [List.setIfInBounds_toArray, List.set_cons_zero, List.set_cons_succ]
                refine take_at (i := 7) 41 rfl rfl (by kernel_rfl) (by kernel_rfl) (by kernel_rfl) (fun _ _ _ h => h) (evA_yields (by rfl) 30 (.tmp 3) rfl ⟨w.heap.size, 0, none⟩ rfl Tryd.underlying30 evSize (fun w h j u hu => cell_under12 (by rw [Addr.add_lit, Nat.zero_add]; exact evAt_cell E0.out j u hu) h)) hHeld ?_
                simp only [List.setIfInBounds_toArray, List.set_cons_zero, List.set_cons_succ]
                refine take_at (i := 11) 45 rfl rfl (by kernel_rfl) (by kernel_rfl) (by kernel_rfl) (fun _ _ _ h => h) (evA_yields (by rfl) 30 (.tmp 44) rfl (ad.add (m * 38)) rfl Tryd.underlying30 evSize (fun w h j u hu => cell_under12 (CF.out j u hu) h)) hHeld ?_
                simp only [List.setIfInBounds_toArray, List.set_cons_zero, List.set_cons_succ]
                refine ready_call2 12 46 (by kernel_rfl) rfl rfl (by rfl) 28 (.tmp 41) (.tmp 45) 30 30 rfl (.agg (evC e u)) (.agg (evC fe fv)) rfl rfl (enters_of Tryd.func28 (by kernel_rfl) rfl) _ (K2.out _ (dots_below HU.out hHeld)) (fun x wz hp => ?_)
                obtain ⟨rfl, hb⟩ := hp
                refine ⟨_, rfl, below_next hHeld hb, ?_⟩
                replace hHeld := below_next hHeld hb
                clear hb
                simp only [List.setIfInBounds_toArray, List.set_cons_zero, List.set_cons_succ]
                refine take_at (i := 13) 47 rfl rfl (by kernel_rfl) (by kernel_rfl) (by kernel_rfl) (fun _ _ _ h => h) (sure_yes (by rfl) (fun w => by go_simp; try with_reducible rfl)) hHeld ?_
                simp only [List.setIfInBounds_toArray, List.set_cons_zero, List.set_cons_succ]
                refine wpAnyH_done (by kernel_rfl) ?_ _
                have HZ3 := Lib.hid hHeld
                clear hHeld
                go_wp2
                go_ret
                exact ⟨by rw [HX.out]; rfl, below_next B0.out HZ3.out⟩
              | false =>
                have HS2 := Lib.hid (show Seen (us.map (·.1)) e m from fun j g hj hg => by
                  rcases Nat.lt_or_ge m j with h | h
                  · exact HS.out j g h hg
                  · obtain rfl : j = m := by omega
                    rw [fst_atM HFM.out] at hg; cases hg
                    exact ⟨HPE.out, hk, hk2⟩)
                rw [hk] at K1
                rw [hk2] at K2
                clear hk hk2
                refine wp_region_held_drew (S := fun w' => Below W0.heap.size W0 w') (by kernel_rfl) (drawS HZ2.out) (fun hHeld => ?_)
                generalize wd.drew = wd2 at hHeld ⊢
                refine take_at (i := 0) 34 rfl rfl (by kernel_rfl) (by kernel_rfl) (by kernel_rfl) (fun _ _ _ h => h) (sure_yes (by rfl) (fun w => by go_simp; try with_reducible rfl)) hHeld ?_
                simp only [List.setIfInBounds_toArray, List.set_cons_zero, List.set_cons_succ]
                refine take_at (i := 1) 35 rfl rfl (by kernel_rfl) (by kernel_rfl) (by kernel_rfl) (fun _ _ _ h => h) (sure_yes (by rfl) (fun w => by go_simp; try with_reducible rfl)) hHeld ?_
                simp only [List.setIfInBounds_toArray, List.set_cons_zero, List.set_cons_succ]
                refine take_at (i := 2) 36 rfl rfl (by kernel_rfl) (by kernel_rfl) (by kernel_rfl) (fun _ _ _ h => h) (sure_yes (by rfl) (fun w => by go_simp; try with_reducible rfl)) hHeld ?_
                simp only [List.setIfInBounds_toArray, List.set_cons_zero, List.set_cons_succ]
                refine take_at (i := 3) 37 rfl rfl (by kernel_rfl) (by kernel_rfl) (by kernel_rfl) (fun _ _ _ h => h) (evA_yields (by rfl) 30 (.tmp 36) rfl (ad.add (m * 38)) rfl Tryd.underlying30 evSize (fun w h j u hu => cell_under12 (CF.out j u hu) h)) hHeld ?_
                simp only [List.setIfInBounds_toArray, List.set_cons_zero, List.set_cons_succ]
                refine take_at (i := 4) 38 rfl rfl (by kernel_rfl) (by kernel_rfl) (by kernel_rfl) (fun _ _ _ h => h) (evA_yields (by rfl) 30 (.tmp 3) rfl ⟨w.heap.size, 0, none⟩ rfl Tryd.underlying30 evSize (fun w h j u hu => cell_under12 (by rw [Addr.add_lit, Nat.zero_add]; exact evAt_cell E0.out j u hu) h)) hHeld ?_
                simp only [List.setIfInBounds_toArray, List.set_cons_zero, List.set_cons_succ]
                refine ready_call2 5 39 (by kernel_rfl) rfl rfl (by rfl) 28 (.tmp 37) (.tmp 38) 30 30 rfl (.agg (evC fe fv)) (.agg (evC e u)) rfl rfl (enters_of Tryd.func28 (by kernel_rfl) rfl) _ (K1.out _ (dots_below HDF.out hHeld)) (fun x wz hp => ?_)
                obtain ⟨rfl, hb⟩ := hp
                refine ⟨_, rfl, below_next hHeld hb, ?_⟩
                replace hHeld := below_next hHeld hb
                clear hb
                simp only [List.setIfInBounds_toArray, List.set_cons_zero, List.set_cons_succ]
                refine take_at (i := 6) 40 rfl rfl (by kernel_rfl) (by kernel_rfl) (by kernel_rfl) (fun _ _ _ h => h) (sure_yes (by rfl) (fun w => by go_simp; try with_reducible rfl)) hHeld ?_
                simp only [List.setIfInBounds_toArray, List.set_cons_zero, List.set_cons_succ]
                refine take_at (i := 8) 42 rfl rfl (by kernel_rfl) (by kernel_rfl) (by kernel_rfl) (fun _ _ _ h => h) (sure_yes (by rfl) (fun w => by go_simp; try with_reducible rfl)) hHeld ?_
                simp only [List.setIfInBounds_toArray, List.set_cons_zero, List.set_cons_succ]
                refine take_at (i := 9) 43 rfl rfl (by kernel_rfl) (by kernel_rfl) (by kernel_rfl) (fun _ _ _ h => h) (sure_yes (by rfl) (fun w => by go_simp; try with_reducible rfl)) hHeld ?_
                simp only [List.setIfInBounds_toArray, List.set_cons_zero, List.set_cons_succ]
                refine take_at (i := 10) 44 rfl rfl (by kernel_rfl) (by kernel_rfl) (by kernel_rfl) (fun _ _ _ h => h) (sure_yes (by rfl) (fun w => by go_simp; try with_reducible rfl)) hHeld ?_
                simp only [List.setIfInBounds_toArray, List.set_cons_zero, List.set_cons_succ]
                refine take_at (i := 7) 41 rfl rfl (by kernel_rfl) (by kernel_rfl) (by kernel_rfl) (fun _ _ _ h => h) (evA_yields (by rfl) 30 (.tmp 3) rfl ⟨w.heap.size, 0, none⟩ rfl Tryd.underlying30 evSize (fun w h j u hu => cell_under12 (by rw [Addr.add_lit, Nat.zero_add]; exact evAt_cell E0.out j u hu) h)) hHeld ?_
                simp only [List.setIfInBounds_toArray, List.set_cons_zero, List.set_cons_succ]
                refine take_at (i := 11) 45 rfl rfl (by kernel_rfl) (by kernel_rfl) (by kernel_rfl) (fun _ _ _ h => h) (evA_yields (by rfl) 30 (.tmp 44) rfl (ad.add (m * 38)) rfl Tryd.underlying30 evSize (fun w h j u hu => cell_under12 (CF.out j u hu) h)) hHeld ?_
                simp only [List.setIfInBounds_toArray, List.set_cons_zero, List.set_cons_succ]
                refine ready_call2 12 46 (by kernel_rfl) rfl rfl (by rfl) 28 (.tmp 41) (.tmp 45) 30 30 rfl (.agg (evC e u)) (.agg (evC fe fv)) rfl rfl (enters_of Tryd.func28 (by kernel_rfl) rfl) _ (K2.out _ (dots_below HU.out hHeld)) (fun x wz hp => ?_)
                obtain ⟨rfl, hb⟩ := hp
                refine ⟨_, rfl, below_next hHeld hb, ?_⟩
                replace hHeld := below_next hHeld hb
                clear hb
                simp only [List.setIfInBounds_toArray, List.set_cons_zero, List.set_cons_succ]
                refine take_at (i := 13) 47 rfl rfl (by kernel_rfl) (by kernel_rfl) (by kernel_rfl) (fun _ _ _ h => h) (sure_yes (by rfl) (fun w => by go_simp; try with_reducible rfl)) hHeld ?_
                simp only [List.setIfInBounds_toArray, List.set_cons_zero, List.set_cons_succ]
                refine wpAnyH_done (by kernel_rfl) ?_ _
                have HZ3 := Lib.hid hHeld
                clear hHeld
                have hw3 : IntKind.i64.wrap ((m : Int) - 1) = (m : Int) - 1 := by rw [IntKind.wrap_i64]; omega
                have hw4 : wrap64 ((m : Int) - 1) = (m : Int) - 1 := by rw [wrap64]; omega
                go_wp2
                refine ⟨⟨m, by omega, rfl, HS2.out, HZ3.out⟩, ?_⟩
                simp [intOf] <;> omega
end Go.Proofs.YtcdjkjadbhejpaaDoor
namespace Go.Proofs.YtcdjkjadbhejpaaDoor
open Go.RowKit
theorem dec_digs (m : Nat) : Lib.decDigits m = digs m := by
  induction m using Nat.strongRecOn with
  | _ m ih =>
    by_cases h : m < 10
    · rw [digs_lo m h, Lib.decDigits, dif_pos h]
    · rw [digs_hi m (by omega), Lib.decDigits, dif_neg h, ih _ (by omega)]
theorem itoa_num (n : Int) : Lib.itoa n = numL n := by
  unfold Lib.itoa numL
  by_cases h : n < 0
  · rw [if_pos h, if_pos h, dec_digs]
  · rw [if_neg h, if_neg h, dec_digs]; congr 1; omega
theorem number_any (w : World) (n : Int) (h0 : -9223372036854775808 ≤ n) (h1 : n < 9223372036854775808) (hT : PowTab w) :
    Calls Tryd.prog 56 #[.int .i64 n] w fun e w' => e = .returned (.string (str (numL n))) ∧ Below w.heap.size w w' := by
  have HC := Lib.hid (Tryd.strconv_FormatInt_10 n h0 (by omega) w hT)
  go_enter Tryd.func56, Tryd.ntmps56
  go_wp2_with (first | (go_at_call 64; refine HC.out.mono ?_; rintro e w' ⟨rfl, k, os, rfl⟩))
  go_ret
  exact ⟨by rw [itoa_num]; rfl, ⟨rfl, rfl, rfl, by simp [Sort.grow, World.drewN], fun i hi => Array.getElem?_append_left hi⟩⟩
end Go.Proofs.YtcdjkjadbhejpaaDoor
namespace Go.Proofs.YtcdjkjadbhejpaaDoor
open Go.RowKit
/-- Pieces, each with the place where it begins. -/
def marksAt (f : Nat) : List (List UInt8) → List (Nat × List UInt8)
  | [] => []
  | p :: ps => (f, p) :: marksAt (f + p.length + 1) ps
def marks (s : List UInt8) : List (Nat × List UInt8) := marksAt 0 (pieces s)
theorem marksAt_snd (f : Nat) (ps : List (List UInt8)) : (marksAt f ps).map (·.2) = ps := by
  induction ps generalizing f with
  | nil => rfl
  | cons p ps ih => rw [marksAt, List.map_cons, ih]
theorem marks_snd (s : List UInt8) : (marks s).map (·.2) = pieces s := marksAt_snd 0 _
/-- The places of the bytes /. -/
def slashes (f : Nat) : List UInt8 → List Nat
  | [] => []
  | c :: t => if c = 47 then f :: slashes (f + 1) t else slashes (f + 1) t
theorem marksAt_fst (f : Nat) (s : List UInt8) : (marksAt f (pieces s)).map (·.1) = f :: (slashes f s).map (· + 1) := by
  induction s generalizing f with
  | nil => rfl
  | cons c t ih =>
    rw [pieces, slashes]
    by_cases h : c = 47
    · rw [if_pos h, if_pos h, marksAt, List.map_cons, List.length_nil, Nat.add_zero, ih (f + 1), List.map_cons]
    · rw [if_neg h, if_neg h]
      have ih := ih (f + 1)
      cases hp : pieces t with
      | nil => exact absurd hp (pieces_ne t)
      | cons p ps =>
        rw [hp, marksAt, List.map_cons, List.cons.injEq] at ih
        simp only [marksAt, List.map_cons, List.length_cons, List.cons.injEq, true_and]
        rw [show f + (p.length + 1) + 1 = f + 1 + p.length + 1 from by omega, ih.2]
theorem marks_fst (s : List UInt8) : (marks s).map (·.1) = 0 :: (slashes 0 s).map (· + 1) := marksAt_fst 0 s
theorem slashes_ge (s : List UInt8) : ∀ f, ∀ j ∈ slashes f s, f ≤ j := by
  induction s with
  | nil => intro f j hj; cases hj
  | cons c t ih =>
    intro f j hj
    rw [slashes] at hj
    by_cases h : c = 47
    · rw [if_pos h] at hj
      rcases List.mem_cons.1 hj with rfl | hj
      · exact Nat.le_refl _
      · have := ih _ _ hj; omega
    · rw [if_neg h] at hj; have := ih _ _ hj; omega
theorem slashes_sorted (s : List UInt8) : ∀ f, (slashes f s).Pairwise (· < ·) := by
  induction s with
  | nil => intro f; exact List.Pairwise.nil
  | cons c t ih =>
    intro f
    rw [slashes]
    by_cases h : c = 47
    · rw [if_pos h]; exact List.Pairwise.cons (fun j hj => by have := slashes_ge t _ _ hj; omega) (ih _)
    · rw [if_neg h]; exact ih _
theorem slashes_mem (s : List UInt8) : ∀ f j, j < s.length → s.getD j 0 = 47 → f + j ∈ slashes f s := by
  induction s with
  | nil => intro f j hj; simp at hj
  | cons c t ih =>
    intro f j hj hs
    rw [slashes]
    cases j with
    | zero => rw [if_pos (by simpa using hs)]; simp
    | succ j =>
      have := ih (f + 1) j (by simpa using hj) (by simpa using hs)
      rw [show f + 1 + j = f + (j + 1) from by omega] at this
      by_cases h : c = 47
      · rw [if_pos h]; exact List.mem_cons.2 (.inr this)
      · rw [if_neg h]; exact this
/-- A place ahead of which all are too far from the end: the first that isn't. -/
theorem cut_at {s : List UInt8} {pre rest : List Nat} {x : Nat} (h : (marks s).map (·.1) = pre ++ x :: rest) (hx : 0 < x) (hxs : x ≤ s.length) (hsl : s.getD (x - 1) 0 = 47) (hall : ∀ y ∈ pre, 100 < s.length - y) (hn : s.length - x ≤ 100) : cutI s = some (x - 1) := by
  refine cut_of (by omega) hsl (by omega) fun j hj h47 => ?_
  have hm : j + 1 ∈ pre ++ x :: rest := by
    rw [← h, marks_fst]
    exact List.mem_cons.2 (.inr (List.mem_map.2 ⟨j, by have := slashes_mem s 0 j (by omega) h47; rwa [Nat.zero_add] at this, rfl⟩))
  have hp : (pre ++ x :: rest).Pairwise (· < ·) := by
    rw [← h, marks_fst]
    refine List.Pairwise.cons (fun j hj => ?_) ?_
    · obtain ⟨i, _, rfl⟩ := List.mem_map.1 hj; omega
    · exact List.pairwise_map.2 ((slashes_sorted s 0).imp fun h => by omega)
  rcases List.mem_append.1 hm with h1 | h1
  · have := hall _ h1; omega
  · rcases List.mem_cons.1 h1 with h1 | h1
    · omega
    · have := (List.pairwise_cons.1 (List.pairwise_append.1 hp).2.1).1 _ h1
      omega
theorem cut_nowhere {s : List UInt8} (hall : ∀ y ∈ (marks s).map (·.1), 100 < s.length - y) : cutI s = none := cut_no fun j hj h47 => by
  have := hall (j + 1) (by
    rw [marks_fst]
    exact List.mem_cons.2 (.inr (List.mem_map.2 ⟨j, by have := slashes_mem s 0 j hj h47; rwa [Nat.zero_add] at this, rfl⟩)))
  omega
/-- A piece with its place, as a function that goes through them hands it on. -/
abbrev Pm (s : List UInt8) := { x : Nat × List UInt8 // x.1 ≤ s.length ∧ (0 < x.1 → s.getD (x.1 - 1) 0 = 47) ∧ x.2.length ≤ s.length }
/-- What a search for / in the rest of a text finds. -/
theorem index_cut (s : List UInt8) (f : Nat) (hf : f ≤ s.length) :
    (Lib.indexByte (str (s.drop f)).data.toList ((47 : Int).toNat.toUInt8) = -1 ∧ marksAt f (pieces (s.drop f)) = [(f, s.drop f)]) ∨
    ∃ o : Nat, Lib.indexByte (str (s.drop f)).data.toList ((47 : Int).toNat.toUInt8) = (o : Int) ∧ f + o < s.length ∧ s.getD (f + o) 0 = 47 ∧
      marksAt f (pieces (s.drop f)) = (f, (s.take (f + o)).drop f) :: marksAt (f + o + 1) (pieces (s.drop (f + o + 1))) := by
  rw [show (str (s.drop f)).data.toList = s.drop f from by simp [str], show (47 : Int).toNat.toUInt8 = 47 from rfl]
  have hge := Lib.indexByte_ge (s.drop f) 47
  by_cases h : Lib.indexByte (s.drop f) 47 = -1
  · refine .inl ⟨h, ?_⟩
    rw [pieces_end _ fun c hc e => ?_]
    · rfl
    · subst e
      obtain ⟨k, hk, e⟩ := List.mem_iff_getElem.1 hc
      exact absurd (by rw [List.getElem?_eq_getElem hk, e]) (Lib.indexByte_none h k)
  · obtain ⟨o, ho⟩ : ∃ o : Nat, Lib.indexByte (s.drop f) 47 = (o : Int) := ⟨(Lib.indexByte (s.drop f) 47).toNat, by omega⟩
    obtain ⟨h1, h2⟩ := Lib.indexByte_some ho
    have hol : o < (s.drop f).length := (List.getElem?_eq_some_iff.1 h1).1
    have hd : (s.drop f).getD o 0 = 47 := by rw [List.getD_eq_getElem?_getD, h1]; rfl
    refine .inr ⟨o, ho, by rw [List.length_drop] at hol; omega, ?_, ?_⟩
    · rw [List.getElem?_drop] at h1
      rw [List.getD_eq_getElem?_getD, h1]; rfl
    · have e : s.drop f = (s.drop f).take o ++ 47 :: (s.drop f).drop (o + 1) := take_slash hol hd
      have e2 : (s.drop f).take o = (s.take (f + o)).drop f := by rw [List.drop_take]; congr 1; omega
      have e3 : (s.drop f).drop (o + 1) = s.drop (f + o + 1) := by rw [List.drop_drop]; congr 1
      have hno : ∀ c ∈ (s.drop f).take o, c ≠ 47 := fun c hc e => by
        subst e
        obtain ⟨k, hk, e⟩ := List.mem_iff_getElem.1 hc
        have hko : k < o := by rw [List.length_take] at hk; omega
        refine h2 k hko ?_
        have := List.getElem?_eq_getElem hk
        rw [e, List.getElem?_take, if_pos hko] at this
        exact this
      have hlen : ((s.take (f + o)).drop f).length = o := by rw [← e2, List.length_take]; omega
      rw [e2] at hno
      conv => lhs; rw [e, e2, e3, pieces_slash _ _ hno, marksAt, hlen]
end Go.Proofs.YtcdjkjadbhejpaaDoor
namespace Go.Proofs.YtcdjkjadbhejpaaDoor
open Go.RowKit Go.Shelf
attribute [local go_sem] Oper.semAt_some
theorem seq_wraps (f o m K O G : Nat) (h : f + o < m) (hm : m < 4611686018427387904) (hK : K = f + o) (hO : O = o + 1) (hG : G = f + o + 1) : wrap64 ((f : Int) + (o : Int)) = (K : Int) ∧ wrap64 ((o : Int) + 1) = (O : Int) ∧ wrap64 ((f : Int) + (O : Int)) = (G : Int) ∧ decide ((o : Int) < 0) = false := by
  refine ⟨?_, ?_, ?_, decide_eq_false (by omega)⟩ <;> rw [wrap64] <;> omega
/-- The rest of a text from a place on. -/
theorem slice_from {P : Program} (w : World) (t : TypeId) (s : List UInt8) (f : Nat) (hf : f ≤ s.length) (ht : P.underlying t = some .string) :
    (Instr.slice t (.string (str s)) (some (.int .i64 (f : Int))) none none).run P w = .ok (.string (str (s.drop f))) w := by
  have h := run_slice_string_l w t (str s) ht .i64 f (by omega) (by rw [str_size]; omega)
  have e : (str s).extract (f : Int).toNat (str s).size = str (s.drop f) := by
    rw [str_size]; unfold str; rw [ByteArray.extract_mk, List.take_of_length_le (by simp)]; simp
  rw [e] at h; exact h
theorem mid_le (s : List UInt8) (a b : Nat) : ((s.take a).drop b).length ≤ s.length := by rw [List.length_drop, List.length_take]; omega
theorem slash_ahead {s : List UInt8} {x : Nat} (h : s.getD x 0 = 47) : 0 < x + 1 → s.getD (x + 1 - 1) 0 = 47 := fun _ => h
theorem measure_up7 (m f g : Nat) (h : f < g) (h' : g ≤ m) : m - (intOf (.int .i64 (g : Int))).toNat < m - (intOf (.int .i64 (f : Int))).toNat := by
  simp only [intOf, Int.toNat_natCast]; omega
/-- What a round must leave to the function that is ranged over: the cell of its text. -/
def KeepBox (B : Nat) (W W' : World) : Prop := W'.cell? ⟨B, 0, none⟩ = W.cell? ⟨B, 0, none⟩
theorem keepBox_t {B : Nat} {X Y Z : World} (h : KeepBox B X Y) (k : KeepBox B Y Z) : KeepBox B X Z := Eq.trans k h
theorem keepBox_b {B n : Nat} (hB : B < n) (W : World) (l : Nat) (o o' : Obj) (hl : n ≤ l) (h : W.heap[l]? = some o) (_ : o.isCells = false) (_ : o.isWalk = false) : KeepBox B W (W.putObj l o') :=
  ((Below.refl (B + 1) W).grown (grownBy_putObj' W l o') (by have := (Array.getElem?_eq_some_iff.1 h).1; omega) (fun k e => by cases e; omega)).cell (p := ⟨B, 0, none⟩) (by show B < B + 1; omega)
set_option maxRecDepth 100000 in
set_option maxHeartbeats 4000000 in
theorem seq_in (n : Nat) (hn : 1 ≤ n) (l Bn : Nat) (s : List UInt8) (hs : s.length < 4611686018427387904) (J Jx : List (Pm s) → World → Prop)
    (hY : ∀ pre x W, J pre W → pre.length < s.length + 1 → YieldAt Fence.wide (n - 1) Tryd.prog l #[.int .i64 (x.1.1 : Int), .string (str x.1.2)] W fun e W' =>
      (e = .returned (.bool true) ∧ J (pre ++ [x]) W' ∧ KeepBox Bn W W') ∨ (e = .returned (.bool false) ∧ Jx (pre ++ [x]) W'))
    (W : World) (hBn : W.cell? ⟨Bn, 0, none⟩ = some (.string (str s))) (h0 : J [] W) :
    CallsIn Fence.wide n Tryd.prog 72 #[.func (.yield l) #[] #[], .pointer (some ⟨Bn, 0, none⟩)] W fun e W' => (∃ v, e = .returned v) ∧
      ((∃ ys : List (Pm s), ys.map (·.1) = marks s ∧ J ys W') ∨ (∃ pre : List (Pm s), pre.map (·.1) <+: marks s ∧ Jx pre W')) := by
  obtain ⟨m, hm⟩ : ∃ m, m = s.length := ⟨_, rfl⟩
  have HM := Lib.hid hm
  rw [← hm] at hs
  have HMS := Lib.hid hs
  clear hm hs
  refine callsIn_of_wp Tryd.func72 rfl trivial ?_ rfl
  simp only [Tryd.ntmps72, List.size_toArray, List.length_cons, List.length_nil, Nat.reduceAdd, Nat.reduceSub, Array.replicate_succ, Array.replicate_zero, List.push_toArray, List.append_toArray, List.nil_append, List.cons_append]
  gi_wp2
  gi_loopw [3] (fun x wr => ∃ (f : Nat) (pre : List (Pm s)), f ≤ m ∧ x = .int .i64 f ∧ (0 < f → s.getD (f - 1) 0 = 47) ∧ pre.map (·.1) ++ marksAt f (pieces (s.drop f)) = marks s ∧ pre.length ≤ f ∧ J pre wr ∧ wr.cell? ⟨Bn, 0, none⟩ = some (.string (str s)))
    (fun x _ => m - (intOf x).toNat)
  case atStart => exact ⟨0, [], by omega, rfl, fun h => absurd h (by omega), rfl, Nat.le_refl _, h0, hBn⟩
  case round =>
    obtain ⟨f, pre, hfm, rfl, hsl, hpc, hpl, hJ, hc⟩ := hrel
    have HPC := Lib.hid (And.intro hpc (And.intro hpl hsl))
    clear hpc hsl
    have sl : ∀ w, (Instr.slice 9 (.string (str s)) (some (.int .i64 (f : Int))) none none).run Tryd.prog w = .ok (.string (str (s.drop f))) w := fun w => slice_from w 9 s f (by rw [← HM.out]; exact hfm) Tryd.underlying9
    rcases index_cut s f (by rw [← HM.out]; exact hfm) with ⟨hix, hmk⟩ | ⟨o, hix, hlt, h47, hmk⟩
    · have IX := Lib.hid (show ∀ w, Calls Tryd.prog 73 #[.string (str (s.drop f)), .int .u8 47] w fun e w' => e = .returned (.int .i64 (-1)) ∧ w = w' from fun w => by
        refine (Tryd.strings_IndexByte (str (s.drop f)) 47 w).mono fun e w' h => ?_
        rw [hix] at h; exact ⟨h.1, h.2.symm⟩)
      obtain ⟨p, hp⟩ : ∃ p : Pm s, p.1 = (f, s.drop f) := ⟨⟨(f, s.drop f), by rw [← HM.out]; exact hfm, HPC.out.2.2, by simp⟩, rfl⟩
      have HE := Lib.hid (show (pre ++ [p]).map (·.1) = marks s by
        rw [← HPC.out.1, List.map_append, List.map_cons, List.map_nil, hp, hmk])
      obtain ⟨fn, tmps, assign, body, hy, hR⟩ := hY pre p wr hJ (by have := HM.out; omega)
      rw [hp] at hy
      dsimp only at hy
      clear hp hpl hix hmk
      gi_wp2_with (refine ⟨trivial, ?_⟩; gi_at_call 73; refine (callsIn_wide.2 (IX.out _)).mono ?_; rintro e w' ⟨rfl, rfl⟩)
      refine hR.mono ?_
      rintro e W3 (⟨rfl, hJ3, hk3⟩ | ⟨rfl, hJx3⟩)
      · gi_wp2
        refine bodyPost_ret (results_none rfl _ _ _) rfl ?_
        exact ⟨⟨_, rfl⟩, .inl ⟨pre ++ [p], HE.out, hJ3⟩⟩
      · gi_wp2
        refine bodyPost_ret (results_none rfl _ _ _) rfl ?_
        exact ⟨⟨_, rfl⟩, .inr ⟨pre ++ [p], by rw [HE.out]; exact List.prefix_refl _, hJx3⟩⟩
    · have IX := Lib.hid (show ∀ w, Calls Tryd.prog 73 #[.string (str (s.drop f)), .int .u8 47] w fun e w' => e = .returned (.int .i64 (o : Int)) ∧ w = w' from fun w => by
        refine (Tryd.strings_IndexByte (str (s.drop f)) 47 w).mono fun e w' h => ?_
        rw [hix] at h; exact ⟨h.1, h.2.symm⟩)
      obtain ⟨p, hp⟩ : ∃ p : Pm s, p.1 = (f, (s.take (f + o)).drop f) := ⟨⟨(f, (s.take (f + o)).drop f), by rw [← HM.out]; exact hfm, HPC.out.2.2, mid_le s _ _⟩, rfl⟩
      rw [← HM.out] at hlt
      have sm : ∀ w, (Instr.slice 9 (.string (str s)) (some (.int .i64 (f : Int))) (some (.int .i64 ((f + o : Nat) : Int))) none).run Tryd.prog w = .ok (.string (str ((s.take (f + o)).drop f))) w := fun w => slice_mid w 9 s f (f + o) (Nat.le_add_right _ _) (by rw [← HM.out]; omega) Tryd.underlying9
      have HE := Lib.hid (show (pre ++ [p]).map (·.1) ++ marksAt (f + o + 1) (pieces (s.drop (f + o + 1))) = marks s by
        rw [← HPC.out.1, List.map_append, List.map_cons, List.map_nil, hp, hmk, List.append_assoc]; rfl)
      have H47 := Lib.hid (And.intro h47 hlt)
      obtain ⟨fn, tmps, assign, body, hy, hR⟩ := hY pre p wr hJ (by have := HM.out; omega)
      rw [hp] at hy
      dsimp only at hy
      obtain ⟨K, hK⟩ : ∃ K : Nat, K = f + o := ⟨_, rfl⟩
      obtain ⟨O, hO⟩ : ∃ O : Nat, O = o + 1 := ⟨_, rfl⟩
      obtain ⟨G, hG⟩ : ∃ G : Nat, G = f + o + 1 := ⟨_, rfl⟩
      rw [← hK] at sm hy
      rw [← hG] at HE
      obtain ⟨Q, hQ⟩ : ∃ Q, Q = (s.take K).drop f := ⟨_, rfl⟩
      rw [← hQ] at sm hy
      have HG := Lib.hid (And.intro hG hK)
      obtain ⟨w1, w2, w3, d0⟩ := seq_wraps f o m K O G hlt HMS.out hK hO hG
      clear hp hpl hix hmk hlt h47 hK hO hG hQ
      gi_wp2_with (refine ⟨trivial, ?_⟩; gi_at_call 73; refine (callsIn_wide.2 (IX.out _)).mono ?_; rintro e w' ⟨rfl, rfl⟩)
      refine hR.mono ?_
      rintro e W3 (⟨rfl, hJ3, hk3⟩ | ⟨rfl, hJx3⟩)
      · have hc3 : W3.cell? ⟨Bn, 0, none⟩ = some (.string (str s)) := hk3.trans hc
        gi_wp2
        go_roundw
        case rel => have HW := Lib.hid w3; clear w1 w2 w3; exact ⟨G, pre ++ [p], by have := HG.out; have := H47.out.2; omega, by rw [HW.out], by have := H47.out.1; rw [HG.out.1]; exact slash_ahead this, HE.out, by rw [List.length_append, List.length_singleton]; have := HPC.out.2.1; have := HG.out; omega, hJ3, hc3⟩
        case measure => rw [w3]; clear w1 w2 w3; exact measure_up7 m f G (by have := HG.out; omega) (by have := HG.out; have := H47.out.2; omega)
      · gi_wp2
        refine bodyPost_ret (results_none rfl _ _ _) rfl ?_
        exact ⟨⟨_, rfl⟩, .inr ⟨pre ++ [p], ⟨_, HE.out⟩, hJx3⟩⟩
theorem seq_stops (n : Nat) (hn : 1 ≤ n) (Bn : Nat) (s : List UInt8) (hs : s.length < 4611686018427387904) (w : World) (hw : Bn < w.heap.size) (hc : w.cell? ⟨Bn, 0, none⟩ = some (.string (str s))) :
    SeqStopsK Fence.wide n Tryd.prog 72 #[.pointer (some ⟨Bn, 0, none⟩)] (fun x : Pm s => #[.int .i64 (x.1.1 : Int), .string (str x.1.2)]) (KeepBox Bn) (fun xs => xs.map (·.1) = marks s) (fun pre => pre.map (·.1) <+: marks s) (s.length + 1) w := fun l J Jx W hW _ _ hY h0 =>
  seq_in n hn l Bn s hs J Jx hY W ((hW.cell (p := ⟨Bn, 0, none⟩) hw).trans hc) h0
/-- The function that goes through the parts: it has laid its text into a cell of its own. -/
theorem parts_any (s : List UInt8) (w : World) : Calls Tryd.prog 63 #[.string (str s)] w fun e w' => e = .returned (.func (.func 72) #[] #[.pointer (some ⟨w.heap.size, 0, none⟩)]) ∧ w' = w.alloc (.cells #[.string (str s)] 9) := by
  go_enter Tryd.func63, Tryd.ntmps63
  go_wp2
  go_ret
  exact ⟨rfl, rfl⟩
end Go.Proofs.YtcdjkjadbhejpaaDoor
namespace Go.Proofs.YtcdjkjadbhejpaaDoor
open Go.RowKit
theorem mark_at : ∀ x : Fin 256, decide (Lib.indexByte [45, 46, 95, 43, 126] (UInt8.ofNat x.1) ≥ 0) = (decide (x.1 = 45) || (decide (x.1 = 46) || (decide (x.1 = 95) || (decide (x.1 = 43) || decide (x.1 = 126))))) := by decide +kernel
theorem mark_ix (x : Nat) (hx : x < 256) : ∃ z, Lib.indexByte (ByteArray.mk #[45, 46, 95, 43, 126]).data.toList ((x : Int).toNat.toUInt8) = z ∧ decide (z ≥ 0) = (decide (x = 45) || (decide (x = 46) || (decide (x = 95) || (decide (x = 43) || decide (x = 126))))) := ⟨_, rfl, by
  have h := mark_at ⟨x, hx⟩
  rw [Int.toNat_natCast]; exact h⟩
set_option maxHeartbeats 4000000 in
theorem mayStand_any (c : UInt8) (w : World) : Calls Tryd.prog 77 #[.int .u8 (c.toNat : Int)] w fun e w' => e = .returned (.bool (isLet c)) ∧ w = w' := by
  obtain ⟨x, hx⟩ : ∃ x : Nat, x = c.toNat := ⟨_, rfl⟩
  have HX := Lib.hid (isLet_of c x hx)
  obtain ⟨z, hz, hzc⟩ := mark_ix x (by rw [hx]; exact UInt8.toNat_lt c)
  rw [← hx]
  have I1 := Lib.hid (show ∀ w, Calls Tryd.prog 73 #[.string ⟨#[45, 46, 95, 43, 126]⟩, .int .u8 (x : Int)] w fun e w' => e = .returned (.int .i64 z) ∧ w = w' from fun w => by
    refine (Tryd.strings_IndexByte ⟨#[45, 46, 95, 43, 126]⟩ (x : Int) w).mono fun e w' h => ?_
    rw [hz] at h; exact ⟨h.1, h.2.symm⟩)
  obtain ⟨q, hq⟩ : ∃ q, q = (decide (x = 45) || (decide (x = 46) || (decide (x = 95) || (decide (x = 43) || decide (x = 126))))) := ⟨_, rfl⟩
  rw [← hq] at hzc
  have HQ := Lib.hid hq
  clear hz hx hq
  go_enter Tryd.func77, Tryd.ntmps77
  go_wp2_with (first | (go_at_call 73; refine (I1.out _).mono ?_; rintro e w' ⟨rfl, rfl⟩))
  all_goals
    go_ret
    refine ⟨congrArg Ending.returned (show Value.bool _ = Value.bool _ from congrArg Value.bool ?_), rfl⟩
    rw [HX.out]
    try rw [HQ.out]
    rw [Bool.eq_iff_iff]
    simp
    try omega
set_option maxHeartbeats 4000000 in
theorem isPart_any (s : List UInt8) (hs : s.length < 4611686018427387904) (w : World) : Calls Tryd.prog 71 #[.string (str s)] w fun e w' => e = .returned (.bool (isPart s)) ∧ w = w' := by
  obtain ⟨n, hn⟩ : ∃ n, n = s.length := ⟨_, rfl⟩
  have HN := Lib.hid hn
  have hsz : (str s).size = n := by rw [str_size, hn]
  have hl : (str s).toList = s := str_toList s
  rw [← hn] at hs
  clear hn
  by_cases h0 : s = []
  · subst h0
    go_enter Tryd.func71, Tryd.ntmps71
    go_wp2
    go_ret
    exact ⟨rfl, rfl⟩
  by_cases h100 : 100 < n
  · have q0 : (n : Int) > 100 := by omega
    have HP := Lib.hid (show isPart s = false by
      cases h : isPart s with
      | false => rfl
      | true => have := isPart_len h; have := HN.out; omega)
    go_enter Tryd.func71, Tryd.ntmps71
    go_wp2
    go_ret
    exact ⟨by rw [HP.out]; rfl, rfl⟩
  by_cases h1 : s = [46]
  · subst h1
    obtain rfl : n = 1 := HN.out
    go_enter Tryd.func71, Tryd.ntmps71
    go_wp2
    go_ret
    exact ⟨rfl, rfl⟩
  by_cases h2 : s = [46, 46]
  · subst h2
    obtain rfl : n = 2 := HN.out
    go_enter Tryd.func71, Tryd.ntmps71
    go_wp2
    go_ret
    exact ⟨rfl, rfl⟩
  have q0 : ¬ (n : Int) > 100 := by omega
  have e0 : s.isEmpty = false := by cases s with | nil => exact absurd rfl h0 | cons c t => rfl
  have HH := Lib.hid (And.intro h0 (And.intro h100 (And.intro h1 h2)))
  have e1 : (s == [46]) = false := beq_eq_false_iff_ne.2 h1
  have e2 : (s == [46, 46]) = false := beq_eq_false_iff_ne.2 h2
  clear h100 h0 h1 h2
  go_enter Tryd.func71, Tryd.ntmps71
  go_wp2
  go_loopw [21] (fun i wr => wr = w ∧ ∃ k : Nat, k ≤ n ∧ i = .int .i64 k ∧ ∀ j, j < k → ∀ c, s[j]? = some c → isLet c = true) (fun i _ => n - (intOf i).toNat)
  case atStart => exact ⟨rfl, 0, by omega, rfl, fun j hj => by omega⟩
  case round =>
    obtain ⟨rfl, k, hk, rfl, hall⟩ := hrel
    have HA := Lib.hid hall
    clear hall
    by_cases hlt : k < n
    · obtain ⟨c, hc⟩ : ∃ c, s[k]? = some c := ⟨s[k]'(by have := HN.out; omega), List.getElem?_eq_getElem _⟩
      have i1 := fun w => index_str (P := Tryd.prog) w s .i64 k c hc Tryd.underlying9
      have HC := Lib.hid hc
      have q0 : (k : Int) < (n : Int) := by omega
      clear hc
      cases hlet : isLet c with
      | true =>
        have HL := Lib.hid hlet
        have HW := Lib.hid (show ∀ w, Calls Tryd.prog 77 #[.int .u8 (c.toNat : Int)] w fun e w' => e = .returned (.bool true) ∧ w = w' from fun w => by have := mayStand_any c w; rwa [hlet] at this)
        clear hlet
        go_wp2_with (first | (go_at_call 77; refine (HW.out _).mono ?_; rintro e w' ⟨rfl, rfl⟩))
        go_roundw
        case rel => exact ⟨trivial, k + 1, by omega, by go_num, fun j hj c' hc' => by
          rcases Nat.lt_or_ge j k with h | h
          · exact HA.out j h c' hc'
          · obtain rfl : j = k := by omega
            rw [HC.out] at hc'; cases hc'; exact HL.out⟩
        case measure => simp [intOf]; omega
      | false =>
        have HP := Lib.hid (show isPart s = false by
          rw [isPart, Bool.and_eq_false_iff]; left
          rw [Bool.eq_false_iff, ne_eq, List.all_eq_true]
          intro h; have := h c (List.mem_of_getElem? HC.out); rw [hlet] at this; cases this)
        have HW := Lib.hid (show ∀ w, Calls Tryd.prog 77 #[.int .u8 (c.toNat : Int)] w fun e w' => e = .returned (.bool false) ∧ w = w' from fun w => by have := mayStand_any c w; rwa [hlet] at this)
        clear hlet
        go_wp2_with (first | (go_at_call 77; refine (HW.out _).mono ?_; rintro e w' ⟨rfl, rfl⟩))
        go_ret
        exact ⟨by rw [HP.out]; rfl, rfl⟩
    · obtain rfl : k = n := by omega
      have HP := Lib.hid (show isPart s = true by
        have hl : 1 ≤ k := by
          rcases Nat.eq_zero_or_pos k with h | h
          · exact absurd (List.eq_nil_of_length_eq_zero (by rw [← HN.out]; exact h)) HH.out.1
          · exact h
        rw [isPart, ← HN.out, show s.all isLet = true from List.all_eq_true.2 fun c hc => by
          obtain ⟨j, hj, rfl⟩ := List.mem_iff_getElem.1 hc
          exact HA.out j (by rw [HN.out]; exact hj) _ (List.getElem?_eq_getElem hj), decide_eq_true hl, decide_eq_true (show k ≤ 100 by have := HH.out.2.1; omega), bne_iff_ne.2 HH.out.2.2.1, bne_iff_ne.2 HH.out.2.2.2]
        rfl)
      go_wp2
      go_ret
      exact ⟨by rw [HP.out]; rfl, rfl⟩
end Go.Proofs.YtcdjkjadbhejpaaDoor
namespace Go.Proofs.YtcdjkjadbhejpaaDoor
open Go.RowKit Go.Shelf
attribute [local go_sem] Oper.semAt_some
theorem cell_new (W : World) (v : Value) (t : TypeId) : (W.alloc (.cells #[v] t)).cell? ⟨W.heap.size, 0, none⟩ = some v ∧ (W.alloc (.cells #[v] t)).frozen? ⟨W.heap.size, 0, none⟩ = false := by
  have h := heap_last W (.cells #[v] t)
  constructor <;> simp only [World.cell?, World.frozen?, h] <;> rfl
/-- One cell, and that it may be written. -/
def Cell1 (g : Nat) (W : World) (x : Value) : Prop := W.cell? ⟨g, 0, none⟩ = some x ∧ W.frozen? ⟨g, 0, none⟩ = false
theorem cell1_own {g : Nat} {A B : World} {x : Value} {row : Option Nat} (hs : Cell1 g A x) (hg : A.grownBy B row) (hr : ∀ r, row = some r → ∃ o : Obj, A.heap[r]? = some o ∧ o.isCells = false) : Cell1 g B x := ⟨cell_kept hs.1 hg hr, (frozen_kept hs.1 hg hr).trans hs.2⟩
theorem cell1_alloc {g : Nat} {A : World} {x : Value} (hs : Cell1 g A x) (o : Obj) : Cell1 g (A.alloc o) x := cell1_own hs (World.grownBy_alloc A o none) (fun r e => by cases e)
theorem cell1_set {g : Nat} {A : World} {x : Value} (hs : Cell1 g A x) (y : Value) : Cell1 g (A.setCell ⟨g, 0, none⟩ y) y := ⟨World.cell?_setCell_same' A ⟨g, 0, none⟩ y (by rw [hs.1]; rfl), by rw [World.frozen?_setCell]; exact hs.2⟩
theorem parts_all {s : List UInt8} {ys : List (Pm s)} (h : ys.map (·.1) = marks s) (hall : ∀ x ∈ ys, isPart x.1.2 = true) : isParts s = true := by
  rw [isParts, List.all_eq_true, ← marks_snd, ← h]
  intro p hp
  obtain ⟨y, hy, rfl⟩ := List.mem_map.1 hp
  obtain ⟨x, hx, rfl⟩ := List.mem_map.1 hy
  exact hall x hx
theorem parts_not {s : List UInt8} {pre : List (Pm s)} (h : pre.map (·.1) <+: marks s) (hex : ∃ x ∈ pre, isPart x.1.2 = false) : isParts s = false := by
  obtain ⟨x, hx, hp⟩ := hex
  rw [isParts, Bool.eq_false_iff, ne_eq, List.all_eq_true]
  intro hall
  have := hall x.1.2 (by
    rw [← marks_snd]
    exact List.mem_map.2 ⟨x.1, h.subset (List.mem_map.2 ⟨x, hx, rfl⟩), rfl⟩)
  rw [hp] at this; cases this
set_option maxRecDepth 100000 in
set_option maxHeartbeats 4000000 in
theorem areParts_any (s : List UInt8) (hs : s.length < 4611686018427387904) (w : World) : Calls Tryd.prog 62 #[.string (str s)] w fun e w' => e = .returned (.bool (isParts s)) ∧ Below w.heap.size w w' := by
  have HS := Lib.hid hs
  clear hs
  refine (callsIn_wide (n := 6)).1 ?_
  refine callsIn_of_wp_marks Tryd.func62 rfl trivial ?_ rfl
  simp only [Tryd.ntmps62, List.size_toArray, List.length_cons, List.length_nil, Nat.reduceAdd, Nat.reduceSub, Array.replicate_succ, Array.replicate_zero, List.push_toArray, List.append_toArray, List.nil_append, List.cons_append]
  refine wpIn_wide.2 ?_
  have HP0 := Lib.hid (parts_any s)
  go_wp2_with (first | (go_at_call 63; have A0 := Lib.hid (cell_new w (.bool false) 4); have B0 := Lib.hid ((Below.refl w.heap.size w).alloc (Nat.le_refl _) (.cells #[.bool false] 4)); have Z0 := Lib.hid (show (w.alloc (.cells #[.bool false] 4)).heap.size = w.heap.size + 1 by simp); generalize w.alloc (.cells #[.bool false] 4) = W0 at *; refine (HP0.out _).mono ?_; rintro e w1 ⟨rfl, rfl⟩))
  have hc := cell_new W0 (.string (str s)) 9
  have C0 := Lib.hid (cell1_alloc (show Cell1 w.heap.size W0 (.bool false) from A0.out) (.cells #[.string (str s)] 9))
  have B1 := Lib.hid (B0.out.alloc B0.out.size (.cells #[.string (str s)] 9))
  refine (wpIn_wide (n := 6)).1 ?_
  refine wpIn_rangeFunc_ownF (F := Fence.wide) rfl (by decide) (gf := 72) (lb := #[.pointer (some ⟨W0.heap.size, 0, none⟩)]) rfl trivial (enters_of Tryd.func72 (by kernel_rfl) rfl)
    (seq_stops 5 (by decide) W0.heap.size s HS.out _ (by simp) hc.1) keepBox_t (keepBox_b (by simp)) (Below.refl _ _) (fun _ => rfl)
    (fun pre W => (Cell1 w.heap.size W (.bool false) ∧ ∀ x ∈ pre, isPart x.1.2 = true) ∧ Below w.heap.size w W)
    (fun c pre W => (Cell1 w.heap.size W (.bool false) ∧ c = .ret ∧ ∃ x ∈ pre, isPart x.1.2 = false) ∧ Below w.heap.size w W)
    (OwnFrom.and (OwnFrom.and (Own.from (fun s A B row hs hg hr => cell1_own hs hg hr) _) (ownFrom_pure _ _)) (ownFrom_below (Nat.le_refl _) (by have := Z0.out; simp; omega)))
    (fun c => OwnFrom.and (OwnFrom.and (Own.from (fun s A B row hs hg hr => cell1_own hs hg hr) _) (ownFrom_pure _ _)) (ownFrom_below (Nat.le_refl _) (by have := Z0.out; simp; omega)))
    ⟨⟨C0.out, fun x hx => by cases hx⟩, B1.out⟩
    (fun x => { tmps := #[.string (str s), undef, .pointer (some ⟨w.heap.size, 0, none⟩), undef, .string (str x.1.2), .string (str s), .func (.func 72) #[] #[.pointer (some ⟨W0.heap.size, 0, none⟩)], .int .i64 (x.1.1 : Int), .string (str x.1.2), undef, undef, undef], defers := [] }) ?assign ?body ?done ?stop
  case assign =>
    intro l x W K hK
    gi_wp2
    exact hK
  case body =>
    rintro l pre x W ⟨⟨hC, hall⟩, hB⟩ _
    have HC := Lib.hid hC
    have HA := Lib.hid (And.intro hall hB)
    clear hall hB
    obtain ⟨c0, f0⟩ := hC
    cases hip : isPart x.1.2 with
    | true =>
      have HI := Lib.hid hip
      have PI := Lib.hid (show ∀ w, Calls Tryd.prog 71 #[.string (str x.1.2)] w fun e w' => e = .returned (.bool true) ∧ w = w' from fun w => by have h := isPart_any x.1.2 (Nat.lt_of_le_of_lt x.2.2.2 HS.out) w; rwa [hip] at h)
      clear hip
      gi_wp2_with (refine ⟨trivial, ?_⟩; gi_at_call 71; refine (CallsIn.inRound l (callsIn_wide.2 (PI.out _))).mono ?_; rintro e w' ⟨rfl, rfl⟩)
      exact ⟨KeepsOthers.refl _, rfl, ⟨HC.out, fun y hy => (List.mem_append.1 hy).elim (HA.out.1 y) (fun e => by rw [List.mem_singleton] at e; subst e; exact HI.out)⟩, HA.out.2⟩
    | false =>
      have HI := Lib.hid hip
      have PI := Lib.hid (show ∀ w, Calls Tryd.prog 71 #[.string (str x.1.2)] w fun e w' => e = .returned (.bool false) ∧ w = w' from fun w => by have h := isPart_any x.1.2 (Nat.lt_of_le_of_lt x.2.2.2 HS.out) w; rwa [hip] at h)
      clear hip
      gi_wp2_with (refine ⟨trivial, ?_⟩; gi_at_call 71; refine (CallsIn.inRound l (callsIn_wide.2 (PI.out _))).mono ?_; rintro e w' ⟨rfl, rfl⟩)
      exact ⟨KeepsOthers.setCell W _ _, ⟨cell1_set HC.out _, rfl, x, List.mem_append.2 (.inr (List.mem_singleton.2 rfl)), HI.out⟩, HA.out.2.setCell (p := ⟨w.heap.size, 0, none⟩) (Nat.le_refl _) _⟩
  case done =>
    rintro D ys W hD hys ⟨⟨hC, hall⟩, hB⟩ hK
    have HC := Lib.hid hC
    have HB := Lib.hid hB
    have HP := Lib.hid (parts_all hys hall)
    have HD := Lib.hid (show W0.heap.size + 1 ≤ D by simpa using hD)
    clear hD hB hall hys
    obtain ⟨c0, f0⟩ := hC
    have HK := Lib.hid hK
    clear hK
    go_wp2
    have hK' := (KeepsOthers.setCell W ⟨w.heap.size, 0, none⟩ (.bool true)).same D _ HK.out rfl
    have hC' := cell1_own (cell1_set HC.out (.bool true)) (grownBy_putObj' _ D (.deferred none)) (fun r e => by cases e; exact ⟨_, hK', rfl⟩)
    refine ⟨by simp, .inl ⟨_, _, rfl, run_takeDeferred hK', ?_⟩⟩
    obtain ⟨r0, -⟩ := hC'
    refine ⟨.bool true, by simp [results, Tryd.f62, go_sem, r0], by rw [HP.out], ?_⟩
    exact (HB.out.setCell (p := ⟨w.heap.size, 0, none⟩) (Nat.le_refl _) _).trans (belowK_b (w := w) (Nat.le_refl _) _ D _ _ (by have := Z0.out; have := HD.out; omega) hK' rfl rfl)
  case stop =>
    rintro D c pre W hD hpre ⟨⟨hC, rfl, hex⟩, hB⟩ hK
    have HC := Lib.hid hC
    have HB := Lib.hid hB
    have HP := Lib.hid (parts_not hpre hex)
    have HD := Lib.hid (show W0.heap.size + 1 ≤ D by simpa using hD)
    clear hD hB hex hpre
    obtain ⟨c0, f0⟩ := hC
    have HK := Lib.hid hK
    clear hK
    gi_wp2
    have hC' := cell1_own HC.out (grownBy_putObj' _ D (.deferred none)) (fun r e => by cases e; exact ⟨_, HK.out, rfl⟩)
    refine ⟨by simp, .inl ⟨_, _, rfl, run_takeDeferred HK.out, ?_⟩⟩
    obtain ⟨r0, -⟩ := hC'
    refine ⟨.bool false, by simp [results, Tryd.f62, go_sem, r0], by rw [HP.out], ?_⟩
    exact HB.out.trans (belowK_b (w := w) (Nat.le_refl _) _ D _ _ (by have := Z0.out; have := HD.out; omega) HK.out rfl rfl)
end Go.Proofs.YtcdjkjadbhejpaaDoor
