/-
Texts that all claims of this seat share, part 5: HeadsMay, HeadsParts, Ref12.
-/
import Derived.Maps.OwnSet
import Derived.DeepKeys4
import Derived.LaidMore
import Derived.Laws.AppendOwnNone
import Derived.Laws.Slices
import Derived.Test.YtcdjkjadbhejpaaGreatDoorPk4
namespace Go.Proofs.YtcdjkjadbhejpaaGreatDoor
open Go.RowKit
theorem cell_under12 {w w' : World} {A : Addr} {u : Value} (hc : w.cell? A = some u) (hb : Below w.heap.size w w') : w'.cell? A = some u :=
  (World.cell?_of_block (hb.block A.block (World.block_lt_of_cell? w _ hc))).trans hc
theorem ev_fieldM {w : World} {A : Addr} {e : Ev} {v : Value} (hc : ∀ j u, (evC e v)[j]? = some u → w.cell? (A.add j) = some u) (j : Nat) (hj : j ≠ 0) (u : Value) (hu : (evC e v)[j]? = some u) : w.cell? ⟨A.block, A.off + j, none⟩ = some u := by
  have h := hc j u hu
  unfold Addr.add at h
  rw [if_neg hj] at h
  exact h
noncomputable def folB (a : List Ev) (e : Ev) : Bool := @decide (Follows a e) (Classical.propDecidable _)
theorem folB_iff (a : List Ev) (e : Ev) : folB a e = true ↔ Follows a e := by unfold folB; exact @decide_eq_true_iff (Follows a e) (Classical.propDecidable _)
theorem folB_not {a : List Ev} {e : Ev} (h : ¬ Follows a e) : folB a e = false := by
  cases hm : folB a e with
  | false => rfl
  | true => exact absurd ((folB_iff a e).1 hm) h
theorem fst_atM {us : List (Ev × Value)} {k : Nat} {x : Ev × Value} (h : us[k]? = some x) : (us.map (·.1))[k]? = some x.1 := by rw [List.getElem?_map, h]; rfl
theorem rises_at {l : List Ev} (h : Rises l) {i j : Nat} {e f : Ev} (he : l[i]? = some e) (hf : l[j]? = some f) (hij : i < j) : cmpE e f < 0 := by
  obtain ⟨hi, rfl⟩ := List.getElem?_eq_some_iff.1 he
  obtain ⟨hj, rfl⟩ := List.getElem?_eq_some_iff.1 hf
  exact (List.pairwise_iff_getElem.1 h) i j hi hj hij
/-- All have been looked at from behind as far as m. -/
def Seen (l : List Ev) (e : Ev) (m : Nat) : Prop := ∀ j f, m ≤ j → l[j]? = some f → f.path = e.path ∧ knE f e = false ∧ knE e f = false
theorem fol_end {l : List Ev} {e : Ev} {m n : Nat} (hr : Rises l) (hn : l.length = n) (hc : ∀ f, l[n - 1]? = some f → cmpE f e < 0) (hs : Seen l e m) (hm : m = 0 ∨ ∃ f, l[m - 1]? = some f ∧ f.path ≠ e.path) (hmn : m ≤ n) : Follows l e := by
  intro f hf
  obtain ⟨j, hj, rfl⟩ := List.mem_iff_getElem.1 hf
  have hle : ∀ i, i < n → ∀ g, l[i]? = some g → cmpE g e < 0 := fun i hi g hg => by
    obtain ⟨z, hz⟩ : ∃ z, l[n - 1]? = some z := ⟨_, List.getElem?_eq_getElem (by omega)⟩
    have hz1 := hc z hz
    rcases Nat.lt_or_ge i (n - 1) with h | h
    · exact (cmpE_trans g z e).2 (rises_at hr hg hz h) hz1
    · obtain rfl : i = n - 1 := by omega
      rw [hz] at hg; cases hg; exact hz1
  have hg := List.getElem?_eq_getElem hj
  refine ⟨hle j (by omega) _ hg, fun hp => ?_⟩
  rcases Nat.lt_or_ge j m with h | h
  · exfalso
    rcases hm with rfl | ⟨z, hz, hzp⟩
    · omega
    · rcases Nat.lt_or_ge j (m - 1) with h1 | h1
      · exact hzp (rises_path hr (rises_at hr hg hz h1) (hle (m - 1) (by omega) z hz) hp)
      · obtain rfl : j = m - 1 := by omega
        rw [hg] at hz; cases hz; exact hzp hp
  · have := hs j _ h hg
    exact ⟨this.2.1, this.2.2⟩
theorem heads_twice {l : List Ev} {i : Nat} {e f : Ev} (H : Heads l) (he : l[i]? = some e) (hf : f ∈ l.take i) (h1 : f.r = e.r) (h2 : f.q = e.q) : False := by
  obtain ⟨j, hj, rfl⟩ := List.mem_iff_getElem.1 hf
  have hji : j < i := by rw [List.length_take] at hj; omega
  obtain ⟨hi, rfl⟩ := List.getElem?_eq_some_iff.1 he
  have hjl : j < l.length := by omega
  have := (List.pairwise_iff_getElem.1 H.2) j i hjl hi hji
  rw [List.getElem_take] at h1 h2
  have hd := (dotE_iff l[j] l[i]).2 ⟨h1, h2⟩
  rw [hd] at this; exact absurd this.2.1 (by simp)
theorem heads_at {l : List Ev} {i : Nat} {e : Ev} (H : Heads l) (he : l[i]? = some e) : mayE e = true ∧ Follows (l.take i) e := by
  have h1 := heads_take H (i + 1)
  rw [List.take_add_one, he] at h1
  have h2 := (heads_snoc (l.take i) e).1 h1
  exact ⟨h2.2.2.1, h2.2.2.2⟩
set_option maxRecDepth 100000 in
theorem dot_law : Go.Maps.Keyed Tryz.prog 24 := Go.Maps.Keyed.of_law (deep_law_laid (show laidOutB Tryz.prog = true by kernel_rfl) (m := 2) (by decide) (of_decide_eq_true (by kernel_rfl)) (by kernel_rfl) (by kernel_rfl))
theorem dot_key (r q : Int) (hr : I64 r) (hq : I64 q) : ∃ kl, keyOf Tryz.prog 24 (.agg #[.int .i64 r, .int .i64 q]) = some kl := by
  have hwr : (Lit.int .i64 r).wf = true := by simp [Lit.wf, IntKind.min, IntKind.max, IntKind.signed, IntKind.bits]; unfold I64 at hr; omega
  have hwq : (Lit.int .i64 q).wf = true := by simp [Lit.wf, IntKind.min, IntKind.max, IntKind.signed, IntKind.bits]; unfold I64 at hq; omega
  have hk : Tryz.prog.keyType 24 = true := by kernel_rfl
  have hf : (Value.agg #[.int .i64 r, .int .i64 q]).formed Tryz.prog 24 = true := by kernel_rfl
  unfold keyOf
  rw [Tryz.underlying24]
  simp only [hk, hf, Bool.and_self, if_true]
  have h1 : 1 ≤ Tryz.prog.types.size := of_decide_eq_true (by kernel_rfl)
  obtain ⟨m, hm⟩ : ∃ m, Tryz.prog.types.size + 1 = m + 2 := ⟨Tryz.prog.types.size - 1, by omega⟩
  rw [hm]
  have c0 : Tryz.prog.cellsOf 24 = 2 := by kernel_rfl
  have c1 : Tryz.prog.cellsOf 3 = 1 := by kernel_rfl
  have c2 : Tryz.prog.cellsOf 2 = 1 := by kernel_rfl
  simp [Program.keyLits, Tryz.underlying24, Tryz.underlying3, Tryz.underlying2, c0, c1, c2, Value.cells, hwr, hwq]
/-- A set of dots: those of some events. -/
def DotSet (w : World) (b n : Nat) (l : List Ev) : Prop := ∃ D : DataW Unit, w.ownsMap Tryz.prog 24 unitElem b n D ∧ ∀ r q kl, keyOf Tryz.prog 24 (.agg #[.int .i64 r, .int .i64 q]) = some kl → (Maps.has D kl = true ↔ ∃ f ∈ l, f.r = r ∧ f.q = q)
theorem dotSet_put {w : World} {b n : Nat} {D : DataW Unit} {l : List Ev} {e : Ev} {kl : Lit} (hm : Go.Maps.IsMap D) (hD : ∀ r q kl, keyOf Tryz.prog 24 (.agg #[.int .i64 r, .int .i64 q]) = some kl → (Maps.has D kl = true ↔ ∃ f ∈ l, f.r = r ∧ f.q = q))
    (hk : keyOf Tryz.prog 24 (.agg #[.int .i64 e.r, .int .i64 e.q]) = some kl) (ho : w.ownsMap Tryz.prog 24 unitElem b n (D.put kl (.agg []))) : DotSet w b n (l ++ [e]) := by
  refine ⟨_, ho, fun r q kl' hk' => ?_⟩
  by_cases hkl : kl' = kl
  · subst hkl
    have := dot_law.inj hk' hk
    simp only [Value.agg.injEq, Array.mk.injEq, List.cons.injEq, Value.int.injEq, true_and, and_true] at this
    rw [Maps.has_put_same hm (dot_law.key hk)]
    simp only [true_iff]
    exact ⟨e, by simp, this.1.symm, this.2.symm⟩
  · rw [Maps.has_put_other hkl, hD r q kl' hk']
    constructor
    · rintro ⟨f, hf, h⟩; exact ⟨f, by simp [hf], h⟩
    · rintro ⟨f, hf, h1, h2⟩
      rcases List.mem_append.1 hf with hf | hf
      · exact ⟨f, hf, h1, h2⟩
      · rw [List.mem_singleton.1 hf] at h1 h2
        rw [← h1, ← h2, hk] at hk'
        exact absurd (Option.some.inj hk').symm hkl
theorem dotSet_made (w : World) : DotSet (w.alloc (.map #[] 0)) w.heap.size 0 [] := by
  refine ⟨.map [], World.ownsMap_made w _ _ _, fun r q kl _ => ?_⟩
  simp [Maps.has]
theorem holdsU_take {w : World} {ao : Option Addr} {n cap : Nat} {us : List (Ev × Value)} (h : HoldsU w (.slice ao n cap) us) (i : Nat) (hi : i ≤ n) : HoldsU w (.slice ao i cap) (us.take i) := by
  obtain ⟨ao', cap', e, hnil, hc⟩ := h
  simp only [Value.slice.injEq] at e
  obtain ⟨rfl, hn, rfl⟩ := e
  have hl : (us.take i).length = i := by rw [List.length_take]; omega
  refine ⟨ao, cap, by rw [hl], fun h => ?_, fun ad had => ?_⟩
  · obtain ⟨h1, h2⟩ := hnil h
    exact ⟨by rw [h1]; simp, h2⟩
  · obtain ⟨h1, h2⟩ := hc ad had
    refine ⟨by omega, fun j u hu => h2 j u ?_⟩
    have e1 : evsC us = evsC (us.take i) ++ evsC (us.drop i) := by rw [← evsC_append, List.take_append_drop]
    rw [e1, List.getElem?_append_left (List.getElem?_eq_some_iff.1 hu).1]
    exact hu
set_option maxRecDepth 100000 in
set_option maxHeartbeats 16000000 in
theorem follow_any13 (us : List (Ev × Value)) (hl : us.length ≤ 50000) (hf : FitU us) (e : Ev) (hfe : FitE e) (v u : Value) (w : World) (hv : HoldsU w v us) (hd : DepsU w us) (hu : HasDots w u e.deps) (hr : Rises (us.map (·.1))) : Calls Tryz.prog 38 #[v, .agg (evC e u)] w fun x w' => x = .returned (.bool (folB (us.map (·.1)) e)) ∧ Below w.heap.size w w' := by
  have h0 := (Below.refl w.heap.size w).alloc (Nat.le_refl _) (.cells (evC e u) 30 (0, 0))
  have E0 := Lib.hid (box_ev w 30 e u)
  have B0 := Lib.hid h0
  have HV := Lib.hid (holdsU_below hv h0)
  have HD := Lib.hid (depsU_below hd h0)
  have HU := Lib.hid (dots_below hu h0)
  have HF := Lib.hid hf
  have HFE := Lib.hid hfe
  have HR := Lib.hid hr
  obtain ⟨n, hn⟩ : ∃ n, n = us.length := ⟨_, rfl⟩
  have hn5 : n ≤ 50000 := by omega
  have HN := Lib.hid hn
  obtain ⟨ao, cap, hvs⟩ := holdsU_shape hv n hn
  subst hvs
  clear hl hf hfe hv hd hu hr h0 hn
  by_cases hn0 : n = 0
  · subst hn0
    have HX := Lib.hid (show folB (us.map (·.1)) e = true by
      rw [List.eq_nil_of_length_eq_zero HN.out.symm]
      exact (folB_iff _ _).2 (fun f hf => by cases hf))
    go_enter Tryz.func38, Tryz.ntmps38
    go_upto_region 2 with fail
    generalize w.alloc (.cells (evC e u) 30 (0, 0)) = W0 at *
    refine wp_region_held_drew (S := fun w' => Below W0.heap.size W0 w') (by kernel_rfl) (drawS (Below.refl _ _)) (fun hHeld => ?_)
    generalize W0.drew = wd at hHeld ⊢
    refine take_at (i := 0) 9 rfl rfl (by kernel_rfl) (by kernel_rfl) (by kernel_rfl) (fun _ _ _ h => h) (sure_yes (by rfl) (fun w => by go_simp; try with_reducible rfl)) hHeld ?_
    simp only [List.setIfInBounds_toArray, List.set_cons_zero, List.set_cons_succ]
    refine take_at (i := 1) 10 rfl rfl (by kernel_rfl) (by kernel_rfl) (by kernel_rfl) (fun _ _ _ h => h) (sure_yes (by rfl) (fun w => by go_simp; try with_reducible rfl)) hHeld ?_
    simp only [List.setIfInBounds_toArray, List.set_cons_zero, List.set_cons_succ]
    refine take_at (i := 2) 11 rfl rfl (by kernel_rfl) (by kernel_rfl) (by kernel_rfl) (fun _ _ _ h => h) (sure_yes (by rfl) (fun w => by go_simp; try with_reducible rfl)) hHeld ?_
    simp only [List.setIfInBounds_toArray, List.set_cons_zero, List.set_cons_succ]
    refine take_at (i := 3) 12 rfl rfl (by kernel_rfl) (by kernel_rfl) (by kernel_rfl) (fun _ _ _ h => h) (.inr ⟨by rfl, rfl⟩) hHeld ?_
    simp only [List.setIfInBounds_toArray, List.set_cons_zero, List.set_cons_succ]
    refine take_at (i := 4) 13 rfl rfl (by kernel_rfl) (by kernel_rfl) (by kernel_rfl) (fun _ _ _ h => h) (.inr ⟨by rfl, rfl⟩) hHeld ?_
    simp only [List.setIfInBounds_toArray, List.set_cons_zero, List.set_cons_succ]
    refine take_at (i := 5) 14 rfl rfl (by kernel_rfl) (by kernel_rfl) (by kernel_rfl) (fun _ _ _ h => h) (.inr ⟨by rfl, rfl⟩) hHeld ?_
    simp only [List.setIfInBounds_toArray, List.set_cons_zero, List.set_cons_succ]
    refine take_at (i := 6) 15 rfl rfl (by kernel_rfl) (by kernel_rfl) (by kernel_rfl) (fun _ _ _ h => h) (.inr ⟨by rfl, rfl⟩) hHeld ?_
    simp only [List.setIfInBounds_toArray, List.set_cons_zero, List.set_cons_succ]
    refine take_at (i := 7) 16 rfl rfl (by kernel_rfl) (by kernel_rfl) (by kernel_rfl) (fun _ _ _ h => h) (.inr ⟨by rfl, rfl⟩) hHeld ?_
    simp only [List.setIfInBounds_toArray, List.set_cons_zero, List.set_cons_succ]
    refine take_at (i := 8) 17 rfl rfl (by kernel_rfl) (by kernel_rfl) (by kernel_rfl) (fun _ _ _ h => h) (.inr ⟨by rfl, rfl⟩) hHeld ?_
    simp only [List.setIfInBounds_toArray, List.set_cons_zero, List.set_cons_succ]
    refine take_at (i := 9) 18 rfl rfl (by kernel_rfl) (by kernel_rfl) (by kernel_rfl) (fun _ _ _ h => h) (.inr ⟨by rfl, rfl⟩) hHeld ?_
    simp only [List.setIfInBounds_toArray, List.set_cons_zero, List.set_cons_succ]
    refine take_at (i := 10) 19 rfl rfl (by kernel_rfl) (by kernel_rfl) (by kernel_rfl) (fun _ _ _ h => h) (sure_yes (by rfl) (fun w => by go_simp; try with_reducible rfl)) hHeld ?_
    simp only [List.setIfInBounds_toArray, List.set_cons_zero, List.set_cons_succ]
    refine wpAnyH_done (by kernel_rfl) ?_ _
    have HY := Lib.hid hHeld
    clear hHeld
    go_wp2
    go_loopw [5] (fun c wr => c = .int .i64 (-1) ∧ Below W0.heap.size W0 wr) (fun _ _ => 0)
    case atStart => exact ⟨rfl, HY.out⟩
    case round =>
      obtain ⟨rfl, hb⟩ := hrel
      have HB := Lib.hid hb
      clear hb
      go_upto_region 4 with fail
      refine wp_region_held_drew (S := fun w' => Below W0.heap.size W0 w') (by kernel_rfl) (drawS HB.out) (fun hHeld => ?_)
      generalize wr.drew = wd at hHeld ⊢
      refine take_at (i := 0) 20 rfl rfl (by kernel_rfl) (by kernel_rfl) (by kernel_rfl) (fun _ _ _ h => h) (sure_yes (by rfl) (fun w => by go_simp; try with_reducible rfl)) hHeld ?_
      simp only [List.setIfInBounds_toArray, List.set_cons_zero, List.set_cons_succ]
      refine take_at (i := 1) 21 rfl rfl (by kernel_rfl) (by kernel_rfl) (by kernel_rfl) (fun _ _ _ h => h) (sure_yes (by rfl) (fun w => by go_simp; try with_reducible rfl)) hHeld ?_
      simp only [List.setIfInBounds_toArray, List.set_cons_zero, List.set_cons_succ]
      refine take_at (i := 2) 22 rfl rfl (by kernel_rfl) (by kernel_rfl) (by kernel_rfl) (fun _ _ _ h => h) (sure_yes (by rfl) (fun w => by go_simp; try with_reducible rfl)) hHeld ?_
      simp only [List.setIfInBounds_toArray, List.set_cons_zero, List.set_cons_succ]
      refine take_at (i := 3) 23 rfl rfl (by kernel_rfl) (by kernel_rfl) (by kernel_rfl) (fun _ _ _ h => h) (.inr ⟨by rfl, rfl⟩) hHeld ?_
      simp only [List.setIfInBounds_toArray, List.set_cons_zero, List.set_cons_succ]
      refine take_at (i := 4) 24 rfl rfl (by kernel_rfl) (by kernel_rfl) (by kernel_rfl) (fun _ _ _ h => h) (.inr ⟨by rfl, rfl⟩) hHeld ?_
      simp only [List.setIfInBounds_toArray, List.set_cons_zero, List.set_cons_succ]
      refine take_at (i := 5) 25 rfl rfl (by kernel_rfl) (by kernel_rfl) (by kernel_rfl) (fun _ _ _ h => h) (.inr ⟨by rfl, rfl⟩) hHeld ?_
      simp only [List.setIfInBounds_toArray, List.set_cons_zero, List.set_cons_succ]
      refine take_at (i := 6) 26 rfl rfl (by kernel_rfl) (by kernel_rfl) (by kernel_rfl) (fun _ _ _ h => h) (.inr ⟨by rfl, rfl⟩) hHeld ?_
      simp only [List.setIfInBounds_toArray, List.set_cons_zero, List.set_cons_succ]
      refine take_at (i := 7) 27 rfl rfl (by kernel_rfl) (by kernel_rfl) (by kernel_rfl) (fun _ _ _ h => h) (.inr ⟨by rfl, rfl⟩) hHeld ?_
      simp only [List.setIfInBounds_toArray, List.set_cons_zero, List.set_cons_succ]
      refine take_at (i := 8) 28 rfl rfl (by kernel_rfl) (by kernel_rfl) (by kernel_rfl) (fun _ _ _ h => h) (.inr ⟨by rfl, rfl⟩) hHeld ?_
      simp only [List.setIfInBounds_toArray, List.set_cons_zero, List.set_cons_succ]
      refine take_at (i := 9) 29 rfl rfl (by kernel_rfl) (by kernel_rfl) (by kernel_rfl) (fun _ _ _ h => h) (.inr ⟨by rfl, rfl⟩) hHeld ?_
      simp only [List.setIfInBounds_toArray, List.set_cons_zero, List.set_cons_succ]
      refine take_at (i := 10) 30 rfl rfl (by kernel_rfl) (by kernel_rfl) (by kernel_rfl) (fun _ _ _ h => h) (.inr ⟨by rfl, rfl⟩) hHeld ?_
      simp only [List.setIfInBounds_toArray, List.set_cons_zero, List.set_cons_succ]
      refine take_at (i := 11) 31 rfl rfl (by kernel_rfl) (by kernel_rfl) (by kernel_rfl) (fun _ _ _ h => h) (sure_yes (by rfl) (fun w => by go_simp; try with_reducible rfl)) hHeld ?_
      simp only [List.setIfInBounds_toArray, List.set_cons_zero, List.set_cons_succ]
      refine wpAnyH_done (by kernel_rfl) ?_ _
      have HZ := Lib.hid hHeld
      clear hHeld
      go_wp2
      go_ret
      exact ⟨by rw [HX.out]; rfl, below_next B0.out HZ.out⟩
  · obtain ⟨z, hz⟩ : ∃ z, us[n - 1]? = some z := ⟨_, List.getElem?_eq_getElem (by have := HN.out; omega)⟩
    obtain ⟨ad, cap', e1, hcz⟩ := holdsU_at HV.out n (n - 1) HN.out.symm z hz
    cases e1
    have CZ := Lib.hid hcz
    have HZ := Lib.hid hz
    have HFZ := Lib.hid (HF.out z (List.mem_of_getElem? hz))
    obtain ⟨ze, zv⟩ := z
    dsimp only at CZ HFZ
    have CM := Lib.hid (fun w => cmp_any12 ze e HFZ.out.1 HFZ.out.2.1 HFE.out.1 HFE.out.2.1 zv u w)
    obtain ⟨c, hc⟩ : ∃ c, c = cmpE ze e := ⟨_, rfl⟩
    rw [← hc] at CM
    have HC := Lib.hid hc
    have q1 : ((n : Int) - 1) = ((n - 1 : Nat) : Int) := by omega
    obtain ⟨n1, hn1⟩ : ∃ k, k = n - 1 := ⟨_, rfl⟩
    rw [← hn1] at q1 CZ HZ
    have hw1 : IntKind.i64.wrap ((n : Int) - 1) = (n1 : Int) := by rw [q1, IntKind.wrap_i64]; omega
    have hw2 : wrap64 ((n : Int) - 1) = (n1 : Int) := by rw [q1, wrap64]; omega
    have hlt : n1 < n := by omega
    have hlt2 : (n1 : Int) < (n : Int) := by omega
    have HN1 := Lib.hid hn1
    clear hcz hz hc hn0 hn1 q1
    by_cases hc0 : 0 ≤ c
    · have hd0 : decide (0 ≤ c) = true := decide_eq_true hc0
      have HX := Lib.hid (show folB (us.map (·.1)) e = false from folB_not (fun h => by
        have := (h ze (List.mem_of_getElem? (fst_atM HZ.out))).1
        have := HC.out; omega))
      clear hc0
      go_enter Tryz.func38, Tryz.ntmps38
      go_upto_region 2 with fail
      generalize w.alloc (.cells (evC e u) 30 (0, 0)) = W0 at *
      refine wp_region_held_drew (S := fun w' => Below W0.heap.size W0 w') (by kernel_rfl) (drawS (Below.refl _ _)) (fun hHeld => ?_)
      generalize W0.drew = wd at hHeld ⊢
      refine take_at (i := 0) 9 rfl rfl (by kernel_rfl) (by kernel_rfl) (by kernel_rfl) (fun _ _ _ h => h) (sure_yes (by rfl) (fun w => by go_simp; try with_reducible rfl)) hHeld ?_
      simp only [List.setIfInBounds_toArray, List.set_cons_zero, List.set_cons_succ]
      refine take_at (i := 1) 10 rfl rfl (by kernel_rfl) (by kernel_rfl) (by kernel_rfl) (fun _ _ _ h => h) (sure_yes (by rfl) (fun w => by go_simp; try with_reducible rfl)) hHeld ?_
      simp only [List.setIfInBounds_toArray, List.set_cons_zero, List.set_cons_succ]
      refine take_at (i := 2) 11 rfl rfl (by kernel_rfl) (by kernel_rfl) (by kernel_rfl) (fun _ _ _ h => h) (sure_yes (by rfl) (fun w => by go_simp; try with_reducible rfl)) hHeld ?_
      simp only [List.setIfInBounds_toArray, List.set_cons_zero, List.set_cons_succ]
      refine take_at (i := 3) 12 rfl rfl (by kernel_rfl) (by kernel_rfl) (by kernel_rfl) (fun _ _ _ h => h) (sure_yes (by rfl) (fun w => by go_simp; try with_reducible rfl)) hHeld ?_
      simp only [List.setIfInBounds_toArray, List.set_cons_zero, List.set_cons_succ]
      refine take_at (i := 4) 13 rfl rfl (by kernel_rfl) (by kernel_rfl) (by kernel_rfl) (fun _ _ _ h => h) (sure_yes (by rfl) (fun w => by go_simp; try with_reducible rfl)) hHeld ?_
      simp only [List.setIfInBounds_toArray, List.set_cons_zero, List.set_cons_succ]
      refine take_at (i := 5) 14 rfl rfl (by kernel_rfl) (by kernel_rfl) (by kernel_rfl) (fun _ _ _ h => h) (sure_yes (by rfl) (fun w => by go_simp; try with_reducible rfl)) hHeld ?_
      simp only [List.setIfInBounds_toArray, List.set_cons_zero, List.set_cons_succ]
      refine take_at (i := 6) 15 rfl rfl (by kernel_rfl) (by kernel_rfl) (by kernel_rfl) (fun _ _ _ h => h) (evA_yields (by rfl) 30 (.tmp 14) rfl (ad.add (n1 * 38)) rfl Tryz.underlying30 evSize (fun w h j u hu => cell_under12 (CZ.out j u hu) h)) hHeld ?_
      simp only [List.setIfInBounds_toArray, List.set_cons_zero, List.set_cons_succ]
      refine take_at (i := 7) 16 rfl rfl (by kernel_rfl) (by kernel_rfl) (by kernel_rfl) (fun _ _ _ h => h) (evA_yields (by rfl) 30 (.tmp 3) rfl ⟨w.heap.size, 0, none⟩ rfl Tryz.underlying30 evSize (fun w h j u hu => cell_under12 (by rw [Addr.add_lit, Nat.zero_add]; exact evAt_cell E0.out j u hu) h)) hHeld ?_
      simp only [List.setIfInBounds_toArray, List.set_cons_zero, List.set_cons_succ]
      refine ready_call2 8 17 (by kernel_rfl) rfl rfl (by rfl) 72 (.tmp 15) (.tmp 16) 30 30 rfl (.agg (evC ze zv)) (.agg (evC e u)) rfl rfl (enters_of Tryz.func72 (by kernel_rfl) rfl) _ (CM.out _) (fun x wz hp => ?_)
      obtain ⟨rfl, hb⟩ := hp
      refine ⟨_, rfl, below_next hHeld hb, ?_⟩
      replace hHeld := below_next hHeld hb
      clear hb
      simp only [List.setIfInBounds_toArray, List.set_cons_zero, List.set_cons_succ]
      refine take_at (i := 9) 18 rfl rfl (by kernel_rfl) (by kernel_rfl) (by kernel_rfl) (fun _ _ _ h => h) (sure_yes (by rfl) (fun w => by go_simp; try with_reducible rfl)) hHeld ?_
      simp only [List.setIfInBounds_toArray, List.set_cons_zero, List.set_cons_succ]
      refine take_at (i := 10) 19 rfl rfl (by kernel_rfl) (by kernel_rfl) (by kernel_rfl) (fun _ _ _ h => h) (sure_yes (by rfl) (fun w => by go_simp; try with_reducible rfl)) hHeld ?_
      simp only [List.setIfInBounds_toArray, List.set_cons_zero, List.set_cons_succ]
      refine wpAnyH_done (by kernel_rfl) ?_ _
      have HY := Lib.hid hHeld
      clear hHeld
      go_wp2
      go_ret
      exact ⟨by rw [HX.out]; rfl, below_next B0.out HY.out⟩
    · have hd0 : decide (0 ≤ c) = false := decide_eq_false hc0
      have HCZ := Lib.hid (show ∀ f, (us.map (·.1))[n - 1]? = some f → cmpE f e < 0 from fun f hf => by
        rw [← HN1.out, fst_atM HZ.out] at hf; cases hf; have := HC.out; show cmpE ze e < 0; omega)
      clear hc0
      go_enter Tryz.func38, Tryz.ntmps38
      go_upto_region 2 with fail
      generalize w.alloc (.cells (evC e u) 30 (0, 0)) = W0 at *
      refine wp_region_held_drew (S := fun w' => Below W0.heap.size W0 w') (by kernel_rfl) (drawS (Below.refl _ _)) (fun hHeld => ?_)
      generalize W0.drew = wd at hHeld ⊢
      refine take_at (i := 0) 9 rfl rfl (by kernel_rfl) (by kernel_rfl) (by kernel_rfl) (fun _ _ _ h => h) (sure_yes (by rfl) (fun w => by go_simp; try with_reducible rfl)) hHeld ?_
      simp only [List.setIfInBounds_toArray, List.set_cons_zero, List.set_cons_succ]
      refine take_at (i := 1) 10 rfl rfl (by kernel_rfl) (by kernel_rfl) (by kernel_rfl) (fun _ _ _ h => h) (sure_yes (by rfl) (fun w => by go_simp; try with_reducible rfl)) hHeld ?_
      simp only [List.setIfInBounds_toArray, List.set_cons_zero, List.set_cons_succ]
      refine take_at (i := 2) 11 rfl rfl (by kernel_rfl) (by kernel_rfl) (by kernel_rfl) (fun _ _ _ h => h) (sure_yes (by rfl) (fun w => by go_simp; try with_reducible rfl)) hHeld ?_
      simp only [List.setIfInBounds_toArray, List.set_cons_zero, List.set_cons_succ]
      refine take_at (i := 3) 12 rfl rfl (by kernel_rfl) (by kernel_rfl) (by kernel_rfl) (fun _ _ _ h => h) (sure_yes (by rfl) (fun w => by go_simp; try with_reducible rfl)) hHeld ?_
      simp only [List.setIfInBounds_toArray, List.set_cons_zero, List.set_cons_succ]
      refine take_at (i := 4) 13 rfl rfl (by kernel_rfl) (by kernel_rfl) (by kernel_rfl) (fun _ _ _ h => h) (sure_yes (by rfl) (fun w => by go_simp; try with_reducible rfl)) hHeld ?_
      simp only [List.setIfInBounds_toArray, List.set_cons_zero, List.set_cons_succ]
      refine take_at (i := 5) 14 rfl rfl (by kernel_rfl) (by kernel_rfl) (by kernel_rfl) (fun _ _ _ h => h) (sure_yes (by rfl) (fun w => by go_simp; try with_reducible rfl)) hHeld ?_
      simp only [List.setIfInBounds_toArray, List.set_cons_zero, List.set_cons_succ]
      refine take_at (i := 6) 15 rfl rfl (by kernel_rfl) (by kernel_rfl) (by kernel_rfl) (fun _ _ _ h => h) (evA_yields (by rfl) 30 (.tmp 14) rfl (ad.add (n1 * 38)) rfl Tryz.underlying30 evSize (fun w h j u hu => cell_under12 (CZ.out j u hu) h)) hHeld ?_
      simp only [List.setIfInBounds_toArray, List.set_cons_zero, List.set_cons_succ]
      refine take_at (i := 7) 16 rfl rfl (by kernel_rfl) (by kernel_rfl) (by kernel_rfl) (fun _ _ _ h => h) (evA_yields (by rfl) 30 (.tmp 3) rfl ⟨w.heap.size, 0, none⟩ rfl Tryz.underlying30 evSize (fun w h j u hu => cell_under12 (by rw [Addr.add_lit, Nat.zero_add]; exact evAt_cell E0.out j u hu) h)) hHeld ?_
      simp only [List.setIfInBounds_toArray, List.set_cons_zero, List.set_cons_succ]
      refine ready_call2 8 17 (by kernel_rfl) rfl rfl (by rfl) 72 (.tmp 15) (.tmp 16) 30 30 rfl (.agg (evC ze zv)) (.agg (evC e u)) rfl rfl (enters_of Tryz.func72 (by kernel_rfl) rfl) _ (CM.out _) (fun x wz hp => ?_)
      obtain ⟨rfl, hb⟩ := hp
      refine ⟨_, rfl, below_next hHeld hb, ?_⟩
      replace hHeld := below_next hHeld hb
      clear hb
      simp only [List.setIfInBounds_toArray, List.set_cons_zero, List.set_cons_succ]
      refine take_at (i := 9) 18 rfl rfl (by kernel_rfl) (by kernel_rfl) (by kernel_rfl) (fun _ _ _ h => h) (sure_yes (by rfl) (fun w => by go_simp; try with_reducible rfl)) hHeld ?_
      simp only [List.setIfInBounds_toArray, List.set_cons_zero, List.set_cons_succ]
      refine take_at (i := 10) 19 rfl rfl (by kernel_rfl) (by kernel_rfl) (by kernel_rfl) (fun _ _ _ h => h) (sure_yes (by rfl) (fun w => by go_simp; try with_reducible rfl)) hHeld ?_
      simp only [List.setIfInBounds_toArray, List.set_cons_zero, List.set_cons_succ]
      refine wpAnyH_done (by kernel_rfl) ?_ _
      have HY := Lib.hid hHeld
      clear hHeld
      go_wp2
      go_loopw [5] (fun c wr => ∃ m : Nat, m ≤ n ∧ c = .int .i64 ((m : Int) - 1) ∧ Seen (us.map (·.1)) e m ∧ Below W0.heap.size W0 wr) (fun c _ => (intOf c + 1).toNat)
      case atStart => exact ⟨n, Nat.le_refl _, by have := HN1.out; congr 1; omega, fun j f hj hf => by
        have := (List.getElem?_eq_some_iff.1 hf).1
        rw [List.length_map, ← HN.out] at this; omega, HY.out⟩
      case round =>
        obtain ⟨m', hm', rfl, hseen, hb⟩ := hrel
        have HS := Lib.hid hseen
        have HB := Lib.hid hb
        clear hseen hb
        by_cases hm0 : m' = 0
        · subst hm0
          have HX := Lib.hid (show folB (us.map (·.1)) e = true from (folB_iff _ _).2 (fol_end HR.out (by rw [List.length_map, HN.out]) HCZ.out HS.out (.inl rfl) (Nat.zero_le _)))
          have q3 : ((0 : Nat) : Int) - 1 = -1 := by decide
          rw [q3]
          go_upto_region 4 with fail
          refine wp_region_held_drew (S := fun w' => Below W0.heap.size W0 w') (by kernel_rfl) (drawS HB.out) (fun hHeld => ?_)
          generalize wr.drew = wd at hHeld ⊢
          refine take_at (i := 0) 20 rfl rfl (by kernel_rfl) (by kernel_rfl) (by kernel_rfl) (fun _ _ _ h => h) (sure_yes (by rfl) (fun w => by go_simp; try with_reducible rfl)) hHeld ?_
          simp only [List.setIfInBounds_toArray, List.set_cons_zero, List.set_cons_succ]
          refine take_at (i := 1) 21 rfl rfl (by kernel_rfl) (by kernel_rfl) (by kernel_rfl) (fun _ _ _ h => h) (sure_yes (by rfl) (fun w => by go_simp; try with_reducible rfl)) hHeld ?_
          simp only [List.setIfInBounds_toArray, List.set_cons_zero, List.set_cons_succ]
          refine take_at (i := 2) 22 rfl rfl (by kernel_rfl) (by kernel_rfl) (by kernel_rfl) (fun _ _ _ h => h) (sure_yes (by rfl) (fun w => by go_simp; try with_reducible rfl)) hHeld ?_
          simp only [List.setIfInBounds_toArray, List.set_cons_zero, List.set_cons_succ]
          refine take_at (i := 3) 23 rfl rfl (by kernel_rfl) (by kernel_rfl) (by kernel_rfl) (fun _ _ _ h => h) (.inr ⟨by rfl, rfl⟩) hHeld ?_
          simp only [List.setIfInBounds_toArray, List.set_cons_zero, List.set_cons_succ]
          refine take_at (i := 4) 24 rfl rfl (by kernel_rfl) (by kernel_rfl) (by kernel_rfl) (fun _ _ _ h => h) (.inr ⟨by rfl, rfl⟩) hHeld ?_
          simp only [List.setIfInBounds_toArray, List.set_cons_zero, List.set_cons_succ]
          refine take_at (i := 5) 25 rfl rfl (by kernel_rfl) (by kernel_rfl) (by kernel_rfl) (fun _ _ _ h => h) (.inr ⟨by rfl, rfl⟩) hHeld ?_
          simp only [List.setIfInBounds_toArray, List.set_cons_zero, List.set_cons_succ]
          refine take_at (i := 6) 26 rfl rfl (by kernel_rfl) (by kernel_rfl) (by kernel_rfl) (fun _ _ _ h => h) (.inr ⟨by rfl, rfl⟩) hHeld ?_
          simp only [List.setIfInBounds_toArray, List.set_cons_zero, List.set_cons_succ]
          refine take_at (i := 7) 27 rfl rfl (by kernel_rfl) (by kernel_rfl) (by kernel_rfl) (fun _ _ _ h => h) (.inr ⟨by rfl, rfl⟩) hHeld ?_
          simp only [List.setIfInBounds_toArray, List.set_cons_zero, List.set_cons_succ]
          refine take_at (i := 8) 28 rfl rfl (by kernel_rfl) (by kernel_rfl) (by kernel_rfl) (fun _ _ _ h => h) (.inr ⟨by rfl, rfl⟩) hHeld ?_
          simp only [List.setIfInBounds_toArray, List.set_cons_zero, List.set_cons_succ]
          refine take_at (i := 9) 29 rfl rfl (by kernel_rfl) (by kernel_rfl) (by kernel_rfl) (fun _ _ _ h => h) (.inr ⟨by rfl, rfl⟩) hHeld ?_
          simp only [List.setIfInBounds_toArray, List.set_cons_zero, List.set_cons_succ]
          refine take_at (i := 10) 30 rfl rfl (by kernel_rfl) (by kernel_rfl) (by kernel_rfl) (fun _ _ _ h => h) (.inr ⟨by rfl, rfl⟩) hHeld ?_
          simp only [List.setIfInBounds_toArray, List.set_cons_zero, List.set_cons_succ]
          refine take_at (i := 11) 31 rfl rfl (by kernel_rfl) (by kernel_rfl) (by kernel_rfl) (fun _ _ _ h => h) (sure_yes (by rfl) (fun w => by go_simp; try with_reducible rfl)) hHeld ?_
          simp only [List.setIfInBounds_toArray, List.set_cons_zero, List.set_cons_succ]
          refine wpAnyH_done (by kernel_rfl) ?_ _
          have HZ2 := Lib.hid hHeld
          clear hHeld
          go_wp2
          go_ret
          exact ⟨by rw [HX.out]; rfl, below_next B0.out HZ2.out⟩
        · obtain ⟨m, hm⟩ : ∃ m, m' = m + 1 := ⟨m' - 1, by omega⟩
          subst hm
          have q3 : ((m + 1 : Nat) : Int) - 1 = (m : Int) := by omega
          rw [q3]
          have hmn : m < n := by omega
          have hmn2 : (m : Int) < (n : Int) := by omega
          have hm5 : (m : Int) < 50000 := by omega
          obtain ⟨f, hf⟩ : ∃ f, us[m]? = some f := ⟨_, List.getElem?_eq_getElem (by have := HN.out; omega)⟩
          obtain ⟨ad2, cap2, e2, hcf⟩ := holdsU_at HV.out n m HN.out.symm f hf
          cases e2
          have CF := Lib.hid hcf
          have HFM := Lib.hid hf
          have HDF := Lib.hid (HD.out f (List.mem_of_getElem? hf))
          have HFF := Lib.hid (HF.out f (List.mem_of_getElem? hf))
          obtain ⟨fe, fv⟩ := f
          dsimp only at CF HDF HFF
          have s1 : (str fe.path).toList = fe.path := str_toList _
          have s2 : (str e.path).toList = e.path := str_toList _
          clear hcf hf hm0 hm' q3
          cases hp : (fe.path == e.path) with
          | false =>
            have HX := Lib.hid (show folB (us.map (·.1)) e = true from (folB_iff _ _).2 (fol_end HR.out (by rw [List.length_map, HN.out]) HCZ.out HS.out (.inr ⟨fe, by rw [Nat.add_sub_cancel]; exact fst_atM HFM.out, by simpa using hp⟩) (by omega)))
            go_upto_region 4 with fail
            refine wp_region_held_drew (S := fun w' => Below W0.heap.size W0 w') (by kernel_rfl) (drawS HB.out) (fun hHeld => ?_)
            generalize wr.drew = wd at hHeld ⊢
            refine take_at (i := 0) 20 rfl rfl (by kernel_rfl) (by kernel_rfl) (by kernel_rfl) (fun _ _ _ h => h) (sure_yes (by rfl) (fun w => by go_simp; try with_reducible rfl)) hHeld ?_
            simp only [List.setIfInBounds_toArray, List.set_cons_zero, List.set_cons_succ]
            refine take_at (i := 1) 21 rfl rfl (by kernel_rfl) (by kernel_rfl) (by kernel_rfl) (fun _ _ _ h => h) (sure_yes (by rfl) (fun w => by go_simp; try with_reducible rfl)) hHeld ?_
            simp only [List.setIfInBounds_toArray, List.set_cons_zero, List.set_cons_succ]
            refine take_at (i := 2) 22 rfl rfl (by kernel_rfl) (by kernel_rfl) (by kernel_rfl) (fun _ _ _ h => h) (sure_yes (by rfl) (fun w => by go_simp; try with_reducible rfl)) hHeld ?_
            simp only [List.setIfInBounds_toArray, List.set_cons_zero, List.set_cons_succ]
            refine take_at (i := 3) 23 rfl rfl (by kernel_rfl) (by kernel_rfl) (by kernel_rfl) (fun _ _ _ h => h) (sure_yes (by rfl) (fun w => by go_simp; try with_reducible rfl)) hHeld ?_
            simp only [List.setIfInBounds_toArray, List.set_cons_zero, List.set_cons_succ]
            refine take_at (i := 4) 24 rfl rfl (by kernel_rfl) (by kernel_rfl) (by kernel_rfl) (fun _ _ _ h => h) (sure_yes (by rfl) (fun w => by go_simp; try with_reducible rfl)) hHeld ?_
            simp only [List.setIfInBounds_toArray, List.set_cons_zero, List.set_cons_succ]
            refine take_at (i := 5) 25 rfl rfl (by kernel_rfl) (by kernel_rfl) (by kernel_rfl) (fun _ _ _ h => h) (sure_yes (by rfl) (fun w => by go_simp; try with_reducible rfl)) hHeld ?_
            simp only [List.setIfInBounds_toArray, List.set_cons_zero, List.set_cons_succ]
            refine take_at (i := 6) 26 rfl rfl (by kernel_rfl) (by kernel_rfl) (by kernel_rfl) (fun _ _ _ h => h) (sure_yes (by rfl) (fun w => by go_simp; try with_reducible rfl)) hHeld ?_
            simp only [List.setIfInBounds_toArray, List.set_cons_zero, List.set_cons_succ]
            refine take_at (i := 8) 28 rfl rfl (by kernel_rfl) (by kernel_rfl) (by kernel_rfl) (fun _ _ _ h => h) (sure_yes (by rfl) (fun w => by go_simp; try with_reducible rfl)) hHeld ?_
            simp only [List.setIfInBounds_toArray, List.set_cons_zero, List.set_cons_succ]
            refine take_at (i := 7) 27 rfl rfl (by kernel_rfl) (by kernel_rfl) (by kernel_rfl) (fun _ _ _ h => h) (str_yields12 (by rfl) 9 (.tmp 26) rfl ⟨(ad.add (m * 38)).block, (ad.add (m * 38)).off + 4, none⟩ rfl (str fe.path) Tryz.underlying9 (fun w h => cell_under12 (ev_fieldM CF.out 4 (by decide) _ (evC_at _ _).2.2.2.2.1) h)) hHeld ?_
            simp only [List.setIfInBounds_toArray, List.set_cons_zero, List.set_cons_succ]
            refine take_at (i := 9) 29 rfl rfl (by kernel_rfl) (by kernel_rfl) (by kernel_rfl) (fun _ _ _ h => h) (str_yields12 (by rfl) 9 (.tmp 28) rfl ⟨w.heap.size, 4, none⟩ rfl (str e.path) Tryz.underlying9 (fun w h => cell_under12 (evAt_cells E0.out).2.2.2.2.1 h)) hHeld ?_
            simp only [List.setIfInBounds_toArray, List.set_cons_zero, List.set_cons_succ]
            refine take_at (i := 10) 30 rfl rfl (by kernel_rfl) (by kernel_rfl) (by kernel_rfl) (fun _ _ _ h => h) (sure_yes (by rfl) (fun w => by go_simp; try with_reducible rfl)) hHeld ?_
            simp only [List.setIfInBounds_toArray, List.set_cons_zero, List.set_cons_succ]
            refine take_at (i := 11) 31 rfl rfl (by kernel_rfl) (by kernel_rfl) (by kernel_rfl) (fun _ _ _ h => h) (sure_yes (by rfl) (fun w => by go_simp; try with_reducible rfl)) hHeld ?_
            simp only [List.setIfInBounds_toArray, List.set_cons_zero, List.set_cons_succ]
            refine wpAnyH_done (by kernel_rfl) ?_ _
            have HZ2 := Lib.hid hHeld
            clear hHeld
            go_wp2
            go_ret
            exact ⟨by rw [HX.out]; rfl, below_next B0.out HZ2.out⟩
          | true =>
            have K1 := Lib.hid (fun w hv => knows_any12 fe e HFF.out.2.2.1 fv u w hv)
            have K2 := Lib.hid (fun w hv => knows_any12 e fe HFE.out.2.2.1 u fv w hv)
            have HPE := Lib.hid (show fe.path = e.path by simpa using hp)
            go_upto_region 4 with fail
            refine wp_region_held_drew (S := fun w' => Below W0.heap.size W0 w') (by kernel_rfl) (drawS HB.out) (fun hHeld => ?_)
            generalize wr.drew = wd at hHeld ⊢
            refine take_at (i := 0) 20 rfl rfl (by kernel_rfl) (by kernel_rfl) (by kernel_rfl) (fun _ _ _ h => h) (sure_yes (by rfl) (fun w => by go_simp; try with_reducible rfl)) hHeld ?_
            simp only [List.setIfInBounds_toArray, List.set_cons_zero, List.set_cons_succ]
            refine take_at (i := 1) 21 rfl rfl (by kernel_rfl) (by kernel_rfl) (by kernel_rfl) (fun _ _ _ h => h) (sure_yes (by rfl) (fun w => by go_simp; try with_reducible rfl)) hHeld ?_
            simp only [List.setIfInBounds_toArray, List.set_cons_zero, List.set_cons_succ]
            refine take_at (i := 2) 22 rfl rfl (by kernel_rfl) (by kernel_rfl) (by kernel_rfl) (fun _ _ _ h => h) (sure_yes (by rfl) (fun w => by go_simp; try with_reducible rfl)) hHeld ?_
            simp only [List.setIfInBounds_toArray, List.set_cons_zero, List.set_cons_succ]
            refine take_at (i := 3) 23 rfl rfl (by kernel_rfl) (by kernel_rfl) (by kernel_rfl) (fun _ _ _ h => h) (sure_yes (by rfl) (fun w => by go_simp; try with_reducible rfl)) hHeld ?_
            simp only [List.setIfInBounds_toArray, List.set_cons_zero, List.set_cons_succ]
            refine take_at (i := 4) 24 rfl rfl (by kernel_rfl) (by kernel_rfl) (by kernel_rfl) (fun _ _ _ h => h) (sure_yes (by rfl) (fun w => by go_simp; try with_reducible rfl)) hHeld ?_
            simp only [List.setIfInBounds_toArray, List.set_cons_zero, List.set_cons_succ]
            refine take_at (i := 5) 25 rfl rfl (by kernel_rfl) (by kernel_rfl) (by kernel_rfl) (fun _ _ _ h => h) (sure_yes (by rfl) (fun w => by go_simp; try with_reducible rfl)) hHeld ?_
            simp only [List.setIfInBounds_toArray, List.set_cons_zero, List.set_cons_succ]
            refine take_at (i := 6) 26 rfl rfl (by kernel_rfl) (by kernel_rfl) (by kernel_rfl) (fun _ _ _ h => h) (sure_yes (by rfl) (fun w => by go_simp; try with_reducible rfl)) hHeld ?_
            simp only [List.setIfInBounds_toArray, List.set_cons_zero, List.set_cons_succ]
            refine take_at (i := 8) 28 rfl rfl (by kernel_rfl) (by kernel_rfl) (by kernel_rfl) (fun _ _ _ h => h) (sure_yes (by rfl) (fun w => by go_simp; try with_reducible rfl)) hHeld ?_
            simp only [List.setIfInBounds_toArray, List.set_cons_zero, List.set_cons_succ]
            refine take_at (i := 7) 27 rfl rfl (by kernel_rfl) (by kernel_rfl) (by kernel_rfl) (fun _ _ _ h => h) (str_yields12 (by rfl) 9 (.tmp 26) rfl ⟨(ad.add (m * 38)).block, (ad.add (m * 38)).off + 4, none⟩ rfl (str fe.path) Tryz.underlying9 (fun w h => cell_under12 (ev_fieldM CF.out 4 (by decide) _ (evC_at _ _).2.2.2.2.1) h)) hHeld ?_
            simp only [List.setIfInBounds_toArray, List.set_cons_zero, List.set_cons_succ]
            refine take_at (i := 9) 29 rfl rfl (by kernel_rfl) (by kernel_rfl) (by kernel_rfl) (fun _ _ _ h => h) (str_yields12 (by rfl) 9 (.tmp 28) rfl ⟨w.heap.size, 4, none⟩ rfl (str e.path) Tryz.underlying9 (fun w h => cell_under12 (evAt_cells E0.out).2.2.2.2.1 h)) hHeld ?_
            simp only [List.setIfInBounds_toArray, List.set_cons_zero, List.set_cons_succ]
            refine take_at (i := 10) 30 rfl rfl (by kernel_rfl) (by kernel_rfl) (by kernel_rfl) (fun _ _ _ h => h) (sure_yes (by rfl) (fun w => by go_simp; try with_reducible rfl)) hHeld ?_
            simp only [List.setIfInBounds_toArray, List.set_cons_zero, List.set_cons_succ]
            refine take_at (i := 11) 31 rfl rfl (by kernel_rfl) (by kernel_rfl) (by kernel_rfl) (fun _ _ _ h => h) (sure_yes (by rfl) (fun w => by go_simp; try with_reducible rfl)) hHeld ?_
            simp only [List.setIfInBounds_toArray, List.set_cons_zero, List.set_cons_succ]
            refine wpAnyH_done (by kernel_rfl) ?_ _
            have HZ2 := Lib.hid hHeld
            clear hHeld
            go_upto_region 6 with fail
            cases hk : hasV fe.deps e.r e.q with
            | true =>
              have HX := Lib.hid (show folB (us.map (·.1)) e = false from folB_not (fun h => by
                have h1 := ((h fe (List.mem_of_getElem? (fst_atM HFM.out))).2 HPE.out).1
                unfold knE at h1; rw [hk] at h1; cases h1))
              rw [hk] at K1
              clear hk
              refine wp_region_held_drew (S := fun w' => Below W0.heap.size W0 w') (by kernel_rfl) (drawS HZ2.out) (fun hHeld => ?_)
              generalize wd.drew = wd2 at hHeld ⊢
              refine take_at (i := 0) 34 rfl rfl (by kernel_rfl) (by kernel_rfl) (by kernel_rfl) (fun _ _ _ h => h) (sure_yes (by rfl) (fun w => by go_simp; try with_reducible rfl)) hHeld ?_
              simp only [List.setIfInBounds_toArray, List.set_cons_zero, List.set_cons_succ]
              refine take_at (i := 1) 35 rfl rfl (by kernel_rfl) (by kernel_rfl) (by kernel_rfl) (fun _ _ _ h => h) (sure_yes (by rfl) (fun w => by go_simp; try with_reducible rfl)) hHeld ?_
              simp only [List.setIfInBounds_toArray, List.set_cons_zero, List.set_cons_succ]
              refine take_at (i := 2) 36 rfl rfl (by kernel_rfl) (by kernel_rfl) (by kernel_rfl) (fun _ _ _ h => h) (sure_yes (by rfl) (fun w => by go_simp; try with_reducible rfl)) hHeld ?_
              simp only [List.setIfInBounds_toArray, List.set_cons_zero, List.set_cons_succ]
              refine take_at (i := 3) 37 rfl rfl (by kernel_rfl) (by kernel_rfl) (by kernel_rfl) (fun _ _ _ h => h) (evA_yields (by rfl) 30 (.tmp 36) rfl (ad.add (m * 38)) rfl Tryz.underlying30 evSize (fun w h j u hu => cell_under12 (CF.out j u hu) h)) hHeld ?_
              simp only [List.setIfInBounds_toArray, List.set_cons_zero, List.set_cons_succ]
              refine take_at (i := 4) 38 rfl rfl (by kernel_rfl) (by kernel_rfl) (by kernel_rfl) (fun _ _ _ h => h) (evA_yields (by rfl) 30 (.tmp 3) rfl ⟨w.heap.size, 0, none⟩ rfl Tryz.underlying30 evSize (fun w h j u hu => cell_under12 (by rw [Addr.add_lit, Nat.zero_add]; exact evAt_cell E0.out j u hu) h)) hHeld ?_
              simp only [List.setIfInBounds_toArray, List.set_cons_zero, List.set_cons_succ]
              refine ready_call2 5 39 (by kernel_rfl) rfl rfl (by rfl) 73 (.tmp 37) (.tmp 38) 30 30 rfl (.agg (evC fe fv)) (.agg (evC e u)) rfl rfl (enters_of Tryz.func73 (by kernel_rfl) rfl) _ (K1.out _ (dots_below HDF.out hHeld)) (fun x wz hp => ?_)
              obtain ⟨rfl, hb⟩ := hp
              refine ⟨_, rfl, below_next hHeld hb, ?_⟩
              replace hHeld := below_next hHeld hb
              clear hb
              simp only [List.setIfInBounds_toArray, List.set_cons_zero, List.set_cons_succ]
              refine take_at (i := 6) 40 rfl rfl (by kernel_rfl) (by kernel_rfl) (by kernel_rfl) (fun _ _ _ h => h) (sure_yes (by rfl) (fun w => by go_simp; try with_reducible rfl)) hHeld ?_
              simp only [List.setIfInBounds_toArray, List.set_cons_zero, List.set_cons_succ]
              refine take_at (i := 7) 41 rfl rfl (by kernel_rfl) (by kernel_rfl) (by kernel_rfl) (fun _ _ _ h => h) (.inr ⟨by rfl, rfl⟩) hHeld ?_
              simp only [List.setIfInBounds_toArray, List.set_cons_zero, List.set_cons_succ]
              refine take_at (i := 8) 42 rfl rfl (by kernel_rfl) (by kernel_rfl) (by kernel_rfl) (fun _ _ _ h => h) (.inr ⟨by rfl, rfl⟩) hHeld ?_
              simp only [List.setIfInBounds_toArray, List.set_cons_zero, List.set_cons_succ]
              refine take_at (i := 9) 43 rfl rfl (by kernel_rfl) (by kernel_rfl) (by kernel_rfl) (fun _ _ _ h => h) (.inr ⟨by rfl, rfl⟩) hHeld ?_
              simp only [List.setIfInBounds_toArray, List.set_cons_zero, List.set_cons_succ]
              refine take_at (i := 10) 44 rfl rfl (by kernel_rfl) (by kernel_rfl) (by kernel_rfl) (fun _ _ _ h => h) (.inr ⟨by rfl, rfl⟩) hHeld ?_
              simp only [List.setIfInBounds_toArray, List.set_cons_zero, List.set_cons_succ]
              refine take_at (i := 11) 45 rfl rfl (by kernel_rfl) (by kernel_rfl) (by kernel_rfl) (fun _ _ _ h => h) (.inr ⟨by rfl, rfl⟩) hHeld ?_
              simp only [List.setIfInBounds_toArray, List.set_cons_zero, List.set_cons_succ]
              refine take_at (i := 12) 46 rfl rfl (by kernel_rfl) (by kernel_rfl) (by kernel_rfl) (fun _ _ _ h => h) (.inr ⟨by rfl, rfl⟩) hHeld ?_
              simp only [List.setIfInBounds_toArray, List.set_cons_zero, List.set_cons_succ]
              refine take_at (i := 13) 47 rfl rfl (by kernel_rfl) (by kernel_rfl) (by kernel_rfl) (fun _ _ _ h => h) (sure_yes (by rfl) (fun w => by go_simp; try with_reducible rfl)) hHeld ?_
              simp only [List.setIfInBounds_toArray, List.set_cons_zero, List.set_cons_succ]
              refine wpAnyH_done (by kernel_rfl) ?_ _
              have HZ3 := Lib.hid hHeld
              clear hHeld
              go_wp2
              go_ret
              exact ⟨by rw [HX.out]; rfl, below_next B0.out HZ3.out⟩
            | false =>
              cases hk2 : hasV e.deps fe.r fe.q with
              | true =>
                have HX := Lib.hid (show folB (us.map (·.1)) e = false from folB_not (fun h => by
                  have h1 := ((h fe (List.mem_of_getElem? (fst_atM HFM.out))).2 HPE.out).2
                  unfold knE at h1; rw [hk2] at h1; cases h1))
                rw [hk] at K1
                rw [hk2] at K2
                clear hk hk2
                refine wp_region_held_drew (S := fun w' => Below W0.heap.size W0 w') (by kernel_rfl) (drawS HZ2.out) (fun hHeld => ?_)
                generalize wd.drew = wd2 at hHeld ⊢
                refine take_at (i := 0) 34 rfl rfl (by kernel_rfl) (by kernel_rfl) (by kernel_rfl) (fun _ _ _ h => h) (sure_yes (by rfl) (fun w => by go_simp; try with_reducible rfl)) hHeld ?_
                simp only [List.setIfInBounds_toArray, List.set_cons_zero, List.set_cons_succ]
                refine take_at (i := 1) 35 rfl rfl (by kernel_rfl) (by kernel_rfl) (by kernel_rfl) (fun _ _ _ h => h) (sure_yes (by rfl) (fun w => by go_simp; try with_reducible rfl)) hHeld ?_
                simp only [List.setIfInBounds_toArray, List.set_cons_zero, List.set_cons_succ]
                refine take_at (i := 2) 36 rfl rfl (by kernel_rfl) (by kernel_rfl) (by kernel_rfl) (fun _ _ _ h => h) (sure_yes (by rfl) (fun w => by go_simp; try with_reducible rfl)) hHeld ?_
                simp only [List.setIfInBounds_toArray, List.set_cons_zero, List.set_cons_succ]
                refine take_at (i := 3) 37 rfl rfl (by kernel_rfl) (by kernel_rfl) (by kernel_rfl) (fun _ _ _ h => h) (evA_yields (by rfl) 30 (.tmp 36) rfl (ad.add (m * 38)) rfl Tryz.underlying30 evSize (fun w h j u hu => cell_under12 (CF.out j u hu) h)) hHeld ?_
                simp only [List.setIfInBounds_toArray, List.set_cons_zero, List.set_cons_succ]
                refine take_at (i := 4) 38 rfl rfl (by kernel_rfl) (by kernel_rfl) (by kernel_rfl) (fun _ _ _ h => h) (evA_yields (by rfl) 30 (.tmp 3) rfl ⟨w.heap.size, 0, none⟩ rfl Tryz.underlying30 evSize (fun w h j u hu => cell_under12 (by rw [Addr.add_lit, Nat.zero_add]; exact evAt_cell E0.out j u hu) h)) hHeld ?_
                simp only [List.setIfInBounds_toArray, List.set_cons_zero, List.set_cons_succ]
                refine ready_call2 5 39 (by kernel_rfl) rfl rfl (by rfl) 73 (.tmp 37) (.tmp 38) 30 30 rfl (.agg (evC fe fv)) (.agg (evC e u)) rfl rfl (enters_of Tryz.func73 (by kernel_rfl) rfl) _ (K1.out _ (dots_below HDF.out hHeld)) (fun x wz hp => ?_)
                obtain ⟨rfl, hb⟩ := hp
                refine ⟨_, rfl, below_next hHeld hb, ?_⟩
                replace hHeld := below_next hHeld hb
                clear hb
                simp only [List.setIfInBounds_toArray, List.set_cons_zero, List.set_cons_succ]
                refine take_at (i := 6) 40 rfl rfl (by kernel_rfl) (by kernel_rfl) (by kernel_rfl) (fun _ _ _ h => h) (sure_yes (by rfl) (fun w => by go_simp; try with_reducible rfl)) hHeld ?_
                simp only [List.setIfInBounds_toArray, List.set_cons_zero, List.set_cons_succ]
                refine take_at (i := 8) 42 rfl rfl (by kernel_rfl) (by kernel_rfl) (by kernel_rfl) (fun _ _ _ h => h) (sure_yes (by rfl) (fun w => by go_simp; try with_reducible rfl)) hHeld ?_
                simp only [List.setIfInBounds_toArray, List.set_cons_zero, List.set_cons_succ]
                refine take_at (i := 9) 43 rfl rfl (by kernel_rfl) (by kernel_rfl) (by kernel_rfl) (fun _ _ _ h => h) (sure_yes (by rfl) (fun w => by go_simp; try with_reducible rfl)) hHeld ?_
                simp only [List.setIfInBounds_toArray, List.set_cons_zero, List.set_cons_succ]
                refine take_at (i := 10) 44 rfl rfl (by kernel_rfl) (by kernel_rfl) (by kernel_rfl) (fun _ _ _ h => h) (sure_yes (by rfl) (fun w => by go_simp; try with_reducible rfl)) hHeld ?_
                simp only [List.setIfInBounds_toArray, List.set_cons_zero, List.set_cons_succ]
                refine take_at (i := 7) 41 rfl rfl (by kernel_rfl) (by kernel_rfl) (by kernel_rfl) (fun _ _ _ h => h) (evA_yields (by rfl) 30 (.tmp 3) rfl ⟨w.heap.size, 0, none⟩ rfl Tryz.underlying30 evSize (fun w h j u hu => cell_under12 (by rw [Addr.add_lit, Nat.zero_add]; exact evAt_cell E0.out j u hu) h)) hHeld ?_
                simp only [List.setIfInBounds_toArray, List.set_cons_zero, List.set_cons_succ]
                refine take_at (i := 11) 45 rfl rfl (by kernel_rfl) (by kernel_rfl) (by kernel_rfl) (fun _ _ _ h => h) (evA_yields (by rfl) 30 (.tmp 44) rfl (ad.add (m * 38)) rfl Tryz.underlying30 evSize (fun w h j u hu => cell_under12 (CF.out j u hu) h)) hHeld ?_
                simp only [List.setIfInBounds_toArray, List.set_cons_zero, List.set_cons_succ]
                refine ready_call2 12 46 (by kernel_rfl) rfl rfl (by rfl) 73 (.tmp 41) (.tmp 45) 30 30 rfl (.agg (evC e u)) (.agg (evC fe fv)) rfl rfl (enters_of Tryz.func73 (by kernel_rfl) rfl) _ (K2.out _ (dots_below HU.out hHeld)) (fun x wz hp => ?_)
                obtain ⟨rfl, hb⟩ := hp
                refine ⟨_, rfl, below_next hHeld hb, ?_⟩
                replace hHeld := below_next hHeld hb
                clear hb
                simp only [List.setIfInBounds_toArray, List.set_cons_zero, List.set_cons_succ]
                refine take_at (i := 13) 47 rfl rfl (by kernel_rfl) (by kernel_rfl) (by kernel_rfl) (fun _ _ _ h => h) (sure_yes (by rfl) (fun w => by go_simp; try with_reducible rfl)) hHeld ?_
                simp only [List.setIfInBounds_toArray, List.set_cons_zero, List.set_cons_succ]
                refine wpAnyH_done (by kernel_rfl) ?_ _
                have HZ3 := Lib.hid hHeld
                clear hHeld
                go_wp2
                go_ret
                exact ⟨by rw [HX.out]; rfl, below_next B0.out HZ3.out⟩
              | false =>
                have HS2 := Lib.hid (show Seen (us.map (·.1)) e m from fun j g hj hg => by
                  rcases Nat.lt_or_ge m j with h | h
                  · exact HS.out j g h hg
                  · obtain rfl : j = m := by omega
                    rw [fst_atM HFM.out] at hg; cases hg
                    exact ⟨HPE.out, hk, hk2⟩)
                rw [hk] at K1
                rw [hk2] at K2
                clear hk hk2
                refine wp_region_held_drew (S := fun w' => Below W0.heap.size W0 w') (by kernel_rfl) (drawS HZ2.out) (fun hHeld => ?_)
                generalize wd.drew = wd2 at hHeld ⊢
                refine take_at (i := 0) 34 rfl rfl (by kernel_rfl) (by kernel_rfl) (by kernel_rfl) (fun _ _ _ h => h) (sure_yes (by rfl) (fun w => by go_simp; try with_reducible rfl)) hHeld ?_
                simp only [List.setIfInBounds_toArray, List.set_cons_zero, List.set_cons_succ]
                refine take_at (i := 1) 35 rfl rfl (by kernel_rfl) (by kernel_rfl) (by kernel_rfl) (fun _ _ _ h => h) (sure_yes (by rfl) (fun w => by go_simp; try with_reducible rfl)) hHeld ?_
                simp only [List.setIfInBounds_toArray, List.set_cons_zero, List.set_cons_succ]
                refine take_at (i := 2) 36 rfl rfl (by kernel_rfl) (by kernel_rfl) (by kernel_rfl) (fun _ _ _ h => h) (sure_yes (by rfl) (fun w => by go_simp; try with_reducible rfl)) hHeld ?_
                simp only [List.setIfInBounds_toArray, List.set_cons_zero, List.set_cons_succ]
                refine take_at (i := 3) 37 rfl rfl (by kernel_rfl) (by kernel_rfl) (by kernel_rfl) (fun _ _ _ h => h) (evA_yields (by rfl) 30 (.tmp 36) rfl (ad.add (m * 38)) rfl Tryz.underlying30 evSize (fun w h j u hu => cell_under12 (CF.out j u hu) h)) hHeld ?_
                simp only [List.setIfInBounds_toArray, List.set_cons_zero, List.set_cons_succ]
                refine take_at (i := 4) 38 rfl rfl (by kernel_rfl) (by kernel_rfl) (by kernel_rfl) (fun _ _ _ h => h) (evA_yields (by rfl) 30 (.tmp 3) rfl ⟨w.heap.size, 0, none⟩ rfl Tryz.underlying30 evSize (fun w h j u hu => cell_under12 (by rw [Addr.add_lit, Nat.zero_add]; exact evAt_cell E0.out j u hu) h)) hHeld ?_
                simp only [List.setIfInBounds_toArray, List.set_cons_zero, List.set_cons_succ]
                refine ready_call2 5 39 (by kernel_rfl) rfl rfl (by rfl) 73 (.tmp 37) (.tmp 38) 30 30 rfl (.agg (evC fe fv)) (.agg (evC e u)) rfl rfl (enters_of Tryz.func73 (by kernel_rfl) rfl) _ (K1.out _ (dots_below HDF.out hHeld)) (fun x wz hp => ?_)
                obtain ⟨rfl, hb⟩ := hp
                refine ⟨_, rfl, below_next hHeld hb, ?_⟩
                replace hHeld := below_next hHeld hb
                clear hb
                simp only [List.setIfInBounds_toArray, List.set_cons_zero, List.set_cons_succ]
                refine take_at (i := 6) 40 rfl rfl (by kernel_rfl) (by kernel_rfl) (by kernel_rfl) (fun _ _ _ h => h) (sure_yes (by rfl) (fun w => by go_simp; try with_reducible rfl)) hHeld ?_
                simp only [List.setIfInBounds_toArray, List.set_cons_zero, List.set_cons_succ]
                refine take_at (i := 8) 42 rfl rfl (by kernel_rfl) (by kernel_rfl) (by kernel_rfl) (fun _ _ _ h => h) (sure_yes (by rfl) (fun w => by go_simp; try with_reducible rfl)) hHeld ?_
                simp only [List.setIfInBounds_toArray, List.set_cons_zero, List.set_cons_succ]
                refine take_at (i := 9) 43 rfl rfl (by kernel_rfl) (by kernel_rfl) (by kernel_rfl) (fun _ _ _ h => h) (sure_yes (by rfl) (fun w => by go_simp; try with_reducible rfl)) hHeld ?_
                simp only [List.setIfInBounds_toArray, List.set_cons_zero, List.set_cons_succ]
                refine take_at (i := 10) 44 rfl rfl (by kernel_rfl) (by kernel_rfl) (by kernel_rfl) (fun _ _ _ h => h) (sure_yes (by rfl) (fun w => by go_simp; try with_reducible rfl)) hHeld ?_
                simp only [List.setIfInBounds_toArray, List.set_cons_zero, List.set_cons_succ]
                refine take_at (i := 7) 41 rfl rfl (by kernel_rfl) (by kernel_rfl) (by kernel_rfl) (fun _ _ _ h => h) (evA_yields (by rfl) 30 (.tmp 3) rfl ⟨w.heap.size, 0, none⟩ rfl Tryz.underlying30 evSize (fun w h j u hu => cell_under12 (by rw [Addr.add_lit, Nat.zero_add]; exact evAt_cell E0.out j u hu) h)) hHeld ?_
                simp only [List.setIfInBounds_toArray, List.set_cons_zero, List.set_cons_succ]
                refine take_at (i := 11) 45 rfl rfl (by kernel_rfl) (by kernel_rfl) (by kernel_rfl) (fun _ _ _ h => h) (evA_yields (by rfl) 30 (.tmp 44) rfl (ad.add (m * 38)) rfl Tryz.underlying30 evSize (fun w h j u hu => cell_under12 (CF.out j u hu) h)) hHeld ?_
                simp only [List.setIfInBounds_toArray, List.set_cons_zero, List.set_cons_succ]
                refine ready_call2 12 46 (by kernel_rfl) rfl rfl (by rfl) 73 (.tmp 41) (.tmp 45) 30 30 rfl (.agg (evC e u)) (.agg (evC fe fv)) rfl rfl (enters_of Tryz.func73 (by kernel_rfl) rfl) _ (K2.out _ (dots_below HU.out hHeld)) (fun x wz hp => ?_)
                obtain ⟨rfl, hb⟩ := hp
                refine ⟨_, rfl, below_next hHeld hb, ?_⟩
                replace hHeld := below_next hHeld hb
                clear hb
                simp only [List.setIfInBounds_toArray, List.set_cons_zero, List.set_cons_succ]
                refine take_at (i := 13) 47 rfl rfl (by kernel_rfl) (by kernel_rfl) (by kernel_rfl) (fun _ _ _ h => h) (sure_yes (by rfl) (fun w => by go_simp; try with_reducible rfl)) hHeld ?_
                simp only [List.setIfInBounds_toArray, List.set_cons_zero, List.set_cons_succ]
                refine wpAnyH_done (by kernel_rfl) ?_ _
                have HZ3 := Lib.hid hHeld
                clear hHeld
                have hw3 : IntKind.i64.wrap ((m : Int) - 1) = (m : Int) - 1 := by rw [IntKind.wrap_i64]; omega
                have hw4 : wrap64 ((m : Int) - 1) = (m : Int) - 1 := by rw [wrap64]; omega
                go_wp2
                refine ⟨⟨m, by omega, rfl, HS2.out, HZ3.out⟩, ?_⟩
                simp [intOf] <;> omega
end Go.Proofs.YtcdjkjadbhejpaaGreatDoor
namespace Go.Proofs.YtcdjkjadbhejpaaGreatDoor
open Go.RowKit
theorem addr_zeroP (a : Addr) : a.add 0 = a := by unfold Addr.add; split <;> simp_all
theorem evsC_take_drop (us : List (Ev × Value)) (i : Nat) : evsC us = evsC (us.take i) ++ evsC (us.drop i) := by rw [← evsC_append, List.take_append_drop]
/-- What lies ahead of a place. -/
theorem slice_lo {P : Program} {w : World} {t : TypeId} (ht : P.underlying t = some (.slice (P.elem t))) (hz : ∀ w, (sizeOf (P.elem t)).run P w = .ok 38 w) {v : Value} {us : List (Ev × Value)} (h : HoldsU w v us) (i : Nat) (hi : i ≤ us.length) :
    ∃ v', (Instr.sliceAt t v none (some (.int .i64 (i : Int))) none).run P w = .ok v' w ∧ HoldsU w v' (us.take i) := by
  obtain ⟨ao, cap, rfl, hnil, hc⟩ := id h
  have hcap : us.length ≤ cap := by
    cases ao with
    | none => obtain ⟨h1, h2⟩ := hnil rfl; rw [h1]; simp
    | some ad => exact (hc ad rfl).1
  refine ⟨sliced ao 0 i cap 38, ?_, ?_⟩
  · rw [run_sliceAt_slice _ _ _ _ _ _ ht, run_slice_h _ _ _ _ _ ht _ _ (by omega) (by omega), hz]
    simp [Result.andThen]
  · unfold sliced
    have e1 : (if cap = 0 then ao else ao.map (·.add (0 * 38))) = ao := by
      split
      · rfl
      · cases ao with
        | none => rfl
        | some ad => simp [addr_zeroP]
    rw [e1]
    have hl : (us.take i).length = i := by rw [List.length_take]; omega
    refine ⟨ao, cap, by rw [hl]; rfl, fun h => ?_, fun ad had => ⟨by omega, fun j u hu => (hc ad had).2 j u ?_⟩⟩
    · obtain ⟨h1, h2⟩ := hnil h
      exact ⟨by rw [h1]; simp, h2⟩
    · rw [evsC_take_drop us i, List.getElem?_append_left (List.getElem?_eq_some_iff.1 hu).1]
      exact hu
/-- What lies behind it. -/
theorem slice_hi {P : Program} {w : World} {t : TypeId} (ht : P.underlying t = some (.slice (P.elem t))) (hz : ∀ w, (sizeOf (P.elem t)).run P w = .ok 38 w) {v : Value} {us : List (Ev × Value)} (h : HoldsU w v us) (i : Nat) (hi : i ≤ us.length) :
    ∃ v', (Instr.sliceAt t v (some (.int .i64 (i : Int))) none none).run P w = .ok v' w ∧ HoldsU w v' (us.drop i) := by
  obtain ⟨ao, cap, rfl, hnil, hc⟩ := id h
  refine ⟨sliced ao i us.length cap 38, ?_, ?_⟩
  · rw [run_sliceAt_slice _ _ _ _ _ _ ht, run_slice_l _ _ _ _ _ ht _ _ (by omega) (by omega), hz]
    simp [Result.andThen]
  · unfold sliced
    have hl : (us.drop i).length = us.length - i := by rw [List.length_drop]
    cases ao with
    | none =>
      obtain ⟨h1, h2⟩ := hnil rfl
      subst h1
      subst h2
      simp only [List.length_nil, Nat.zero_sub, Option.map_none, ite_self, List.drop_nil]
      exact holdsU_nil w
    | some ad =>
      have hcap := (hc ad rfl).1
      by_cases hci : cap = i
      · rw [if_pos hci]
        have h0 : us.drop i = [] := List.drop_eq_nil_of_le (by omega)
        rw [h0]
        exact ⟨some ad, cap - i, by rw [show us.length - i = 0 by omega]; rfl, (fun h => by cases h), fun b hb => ⟨by simp, fun j u hu => by simp [evsC] at hu⟩⟩
      · rw [if_neg hci]
        refine ⟨some (ad.add (i * 38)), cap - i, by rw [hl]; rfl, (fun h => by cases h), fun b hb => ⟨by omega, fun j u hu => ?_⟩⟩
        cases hb
        rw [addr_add2]
        refine (hc ad rfl).2 _ _ ?_
        rw [evsC_take_drop us i, List.getElem?_append_right (by rw [evsC_length, List.length_take]; omega)]
        rw [evsC_length, List.length_take, show i * 38 + j - min i us.length * 38 = j by rw [Nat.min_eq_left hi]; omega]
        exact hu
theorem wpList_slice_lo {P : Program} {w : World} {ops : Array Oper} {rest : List Oper} {o : Oper} {a : Act} {Q : Exit → Act → World → Prop} (hg : o.guard = none) (s x : Operand) (t : TypeId) (ho : o.op = .slice t s none (some x) none)
    (ht : P.underlying t = some (.slice (P.elem t))) (hz : ∀ w, (sizeOf (P.elem t)).run P w = .ok 38 w) (v : Value) (us : List (Ev × Value)) (hs : a.eval s = v) (i : Nat) (hx : a.eval x = .int .i64 (i : Int)) (h : HoldsU w v us) (hi : i ≤ us.length)
    (hK : ∀ v', HoldsU w v' (us.take i) → wpList P ops Q rest (a.put o.dst v') w) : wpList P ops Q (o :: rest) a w := by
  refine wpList_plain hg fun K' hK' => ?_
  obtain ⟨v', hrun, h'⟩ := slice_lo ht hz h i hi
  unfold Oper.wp
  simp [execOp, ho, hs, hx, hrun, Result.andThen]
  exact hK' _ _ (hK v' h')
theorem wpList_slice_hi {P : Program} {w : World} {ops : Array Oper} {rest : List Oper} {o : Oper} {a : Act} {Q : Exit → Act → World → Prop} (hg : o.guard = none) (s x : Operand) (t : TypeId) (ho : o.op = .slice t s (some x) none none)
    (ht : P.underlying t = some (.slice (P.elem t))) (hz : ∀ w, (sizeOf (P.elem t)).run P w = .ok 38 w) (v : Value) (us : List (Ev × Value)) (hs : a.eval s = v) (i : Nat) (hx : a.eval x = .int .i64 (i : Int)) (h : HoldsU w v us) (hi : i ≤ us.length)
    (hK : ∀ v', HoldsU w v' (us.drop i) → wpList P ops Q rest (a.put o.dst v') w) : wpList P ops Q (o :: rest) a w := by
  refine wpList_plain hg fun K' hK' => ?_
  obtain ⟨v', hrun, h'⟩ := slice_hi ht hz h i hi
  unfold Oper.wp
  simp [execOp, ho, hs, hx, hrun, Result.andThen]
  exact hK' _ _ (hK v' h')
/-- Any slice of events appended to one of the call's own. -/
theorem append_us {P : Program} {w : World} {ops : Array Oper} {rest : List Oper} {o : Oper} {a : Act} {Q : Exit → Act → World → Prop} (hgd : o.guard = none) (s x : Operand) (t : TypeId)
    (ho : o.op = .call { callee := .builtin .append, args := #[s, x], argTypes := #[t, t] })
    (base : Nat) (e : TypeId) (i : TypeInfo) (ht : P.underlying t = some (.slice e)) (hi : P.info? e = some i) (hz : (i.zero.map (·.cells.size), i.size, i.bytes) = (some 38, 38, 104))
    (v : Value) (us ys : List (Ev × Value)) (hs : a.eval s = v) (hown : w.ownsRow base e 38 v us.length (evsC us)) (hone : ∀ y ∈ ys, y.2.oneCell' = true) (xv : Value) (hx : a.eval x = xv) (hxs : HoldsU w xv ys)
    (hlen : us.length + ys.length ≤ 100000) (hbase : base ≤ w.heap.size)
    (h : ∀ v' w', w'.ownsRow base e 38 v' (us ++ ys).length (evsC (us ++ ys)) → w.grownBy w' v.ownBlock → wpList P ops Q rest (a.put o.dst v') w') : wpList P ops Q (o :: rest) a w := by
  obtain ⟨ao, cap, rfl, hnil, hc⟩ := hxs
  cases ao with
  | none =>
    obtain ⟨rfl, rfl⟩ := hnil rfl
    refine wpList_append_own_none hgd s x t ho base e i 38 ht hi v us.length (evsC us) hs hown (by simpa using hx) ?_
    have := h v w (by simpa using hown) ⟨rfl, rfl, rfl, Nat.le_refl _, fun k _ _ => rfl⟩
    exact this
  | some ad => exact append_evs hgd s x t ho base e i ht hi hz v us ys hs hown hone ad ys.length cap hx rfl (hc ad rfl).2 hlen hbase h
theorem own_holds {w : World} {base : Nat} {e : TypeId} {v : Value} {us : List (Ev × Value)} (h : w.ownsRow base e 38 v us.length (evsC us)) : HoldsU w v us := by
  rcases h.2 with ⟨rfl, h0⟩ | ⟨g, cap, cur, rfl, h1, h2, h3, h4, h5, h6⟩
  · have h7 := List.eq_nil_of_length_eq_zero h0
    subst h7
    exact holdsU_nil w
  · refine ⟨some ⟨g, 0, none⟩, cap, rfl, (fun h => by cases h), fun ad had => ⟨h3, fun j u hu => ?_⟩⟩
    cases had
    rw [Addr.add_lit, Nat.zero_add]
    simp only [World.cell?, h2]
    rw [← Array.getElem?_toList]
    have hj := (List.getElem?_eq_some_iff.1 hu).1
    rw [← h6, List.getElem?_take_of_lt (by rw [evsC_length] at hj; exact hj)] at hu
    exact hu
theorem own_empty {w : World} {base B : Nat} {e : TypeId} (h : w.heap[B]? = some (.cells #[] e (0, 0))) (hb : base ≤ B) : w.ownsRow base e 38 (.slice (some ⟨B, 0, none⟩) 0 0) ([] : List (Ev × Value)).length (evsC []) :=
  ⟨rfl, .inr ⟨B, 0, #[], rfl, hb, h, Nat.le_refl _, Nat.zero_le _, rfl, rfl⟩⟩
end Go.Proofs.YtcdjkjadbhejpaaGreatDoor
namespace Go.Proofs.YtcdjkjadbhejpaaGreatDoor
open Go.RowKit
set_option maxRecDepth 100000 in
set_option maxHeartbeats 16000000 in
theorem refKnows_any12 (e f : Ev) (hl : e.deps.length < 2000000) (v u : Value) (w : World) (hv : HasDots w v e.deps) : Calls Tryz.prog 41 #[.agg (evC e v), .agg (evC f u)] w fun x w' => x = .returned (.bool (hasV e.deps f.r f.q)) ∧ Below w.heap.size w w' := by
  obtain ⟨h1, h2, h3⟩ := two_evs w 30 e f v u
  have E1 := Lib.hid h1
  have E2 := Lib.hid h2
  have B0 := Lib.hid h3
  have HH := Lib.hid (refHas_any10 e.deps hl f.r f.q v _ (dots_below hv h3))
  obtain ⟨-, -, c2, -, -, -⟩ := evAt_cells h1
  obtain ⟨ao, cap, rfl⟩ := dots_shape hv e.deps.length rfl
  clear h1 h2 h3 hv hl
  go_enter Tryz.func41, Tryz.ntmps41
  go_upto_region 1 with fail
  generalize (w.alloc (.cells (evC e (.slice ao e.deps.length cap)) 30 (0, 0))).alloc (.cells (evC f u) 30 (0, 0)) = W0 at *
  go_wp2_with (first
    | (refine load_dot10 (by rfl) 24 (.tmp 7) rfl ⟨w.heap.size + 1, 0, none⟩ rfl f.r f.q Tryz.underlying24 (by kernel_rfl) (evAt_dot E2.out) ?_)
    | (go_at_call 77; refine HH.out.mono ?_; rintro x w1 ⟨rfl, hb⟩; have B1 := Lib.hid (below_next B0.out hb); clear hb))
  go_ret
  exact ⟨rfl, B1.out⟩
set_option maxRecDepth 100000 in
set_option maxHeartbeats 16000000 in
theorem refCmp_any12 (e f : Ev) (v u : Value) (w : World) : Calls Tryz.prog 40 #[.agg (evC e v), .agg (evC f u)] w fun x w' => x = .returned (.int .i64 (cmpE e f)) ∧ Below w.heap.size w w' := by
  obtain ⟨h1, h2, h3⟩ := two_evs w 30 e f v u
  have E1 := Lib.hid h1
  have E2 := Lib.hid h2
  have B0 := Lib.hid h3
  obtain ⟨-, -, -, -, d4, -⟩ := evAt_cells h1
  obtain ⟨-, -, -, -, f4, -⟩ := evAt_cells h2
  have CD := Lib.hid (fun w => refCompare_any e.r e.q f.r f.q w)
  have s1 : (str e.path).toList = e.path := str_toList _
  have s2 : (str f.path).toList = f.path := str_toList _
  rcases cmpB_cases e.path f.path with ⟨hc, he⟩ | ⟨hc, hl, hn⟩ | ⟨hc, hl, hn⟩
  · have HR := Lib.hid (show cmpE e f = cmpD e.r e.q f.r f.q by rw [cmpE, if_pos hc])
    have q1 : Op.bytesLess e.path f.path = false := by rw [he]; exact bytesLess_irrefl _
    have q2 : (e.path == f.path) = true := by rw [he]; simp
    clear h1 h2 h3 hc he
    go_enter Tryz.func40, Tryz.ntmps40
    go_upto_region 1 with fail
    generalize (w.alloc (.cells (evC e v) 30 (0, 0))).alloc (.cells (evC f u) 30 (0, 0)) = W0 at *
    go_wp2_with (first
      | (refine load_dot10 (by rfl) 24 (.tmp 15) rfl ⟨w.heap.size, 0, none⟩ rfl e.r e.q Tryz.underlying24 (by kernel_rfl) (evAt_dot E1.out) ?_)
      | (refine load_dot10 (by rfl) 24 (.tmp 17) rfl ⟨w.heap.size + 1, 0, none⟩ rfl f.r f.q Tryz.underlying24 (by kernel_rfl) (evAt_dot E2.out) ?_)
      | (go_at_call 55; refine (CD.out _).mono ?_; rintro x w1 ⟨rfl, hb⟩; have B1 := Lib.hid (below_next B0.out hb); clear hb))
    go_ret
    exact ⟨by rw [HR.out]; rfl, B1.out⟩
  · have HR := Lib.hid (show cmpE e f = -1 by rw [cmpE, if_neg (by omega), hc])
    have q1 : Op.bytesLess e.path f.path = true := hl
    clear h1 h2 h3 hc hl hn
    go_enter Tryz.func40, Tryz.ntmps40
    go_upto_region 1 with fail
    generalize (w.alloc (.cells (evC e v) 30 (0, 0))).alloc (.cells (evC f u) 30 (0, 0)) = W0 at *
    go_wp2_with (first
      | (refine load_dot10 (by rfl) 24 (.tmp 15) rfl ⟨w.heap.size, 0, none⟩ rfl e.r e.q Tryz.underlying24 (by kernel_rfl) (evAt_dot E1.out) ?_)
      | (refine load_dot10 (by rfl) 24 (.tmp 17) rfl ⟨w.heap.size + 1, 0, none⟩ rfl f.r f.q Tryz.underlying24 (by kernel_rfl) (evAt_dot E2.out) ?_)
      | (go_at_call 55; refine (CD.out _).mono ?_; rintro x w1 ⟨rfl, hb⟩; have B1 := Lib.hid (below_next B0.out hb); clear hb))
    go_ret
    exact ⟨by rw [HR.out]; rfl, B0.out⟩
  · have HR := Lib.hid (show cmpE e f = 1 by rw [cmpE, if_neg (by omega), hc])
    have q1 : Op.bytesLess e.path f.path = false := bl_asymm hl
    have q2 : (e.path == f.path) = false := beq_eq_false_iff_ne.2 hn
    clear h1 h2 h3 hc hl hn
    go_enter Tryz.func40, Tryz.ntmps40
    go_upto_region 1 with fail
    generalize (w.alloc (.cells (evC e v) 30 (0, 0))).alloc (.cells (evC f u) 30 (0, 0)) = W0 at *
    go_wp2_with (first
      | (refine load_dot10 (by rfl) 24 (.tmp 15) rfl ⟨w.heap.size, 0, none⟩ rfl e.r e.q Tryz.underlying24 (by kernel_rfl) (evAt_dot E1.out) ?_)
      | (refine load_dot10 (by rfl) 24 (.tmp 17) rfl ⟨w.heap.size + 1, 0, none⟩ rfl f.r f.q Tryz.underlying24 (by kernel_rfl) (evAt_dot E2.out) ?_)
      | (go_at_call 55; refine (CD.out _).mono ?_; rintro x w1 ⟨rfl, hb⟩; have B1 := Lib.hid (below_next B0.out hb); clear hb))
    go_ret
    exact ⟨by rw [HR.out]; rfl, B0.out⟩
end Go.Proofs.YtcdjkjadbhejpaaGreatDoor
