/-
Texts that all claims of this seat share, part 8: RefAdd13.
-/
import Derived.Test.YtcdjkjadbhejpaaGreatDoorPk7
namespace Go.Proofs.YtcdjkjadbhejpaaGreatDoor
open Go.RowKit
theorem insE_none {l : List Ev} {e : Ev} (h : l.any (aboveE e) = false) : insE l e = l ++ [e] := by
  induction l with
  | nil => rfl
  | cons f l ih =>
    rw [List.any_cons, Bool.or_eq_false_iff] at h
    rw [insE_cons, h.1, ih h.2]; rfl
theorem insE_snoc_hit {l : List Ev} {e f : Ev} (h : l.any (aboveE e) = true) : insE (l ++ [f]) e = insE l e ++ [f] := by
  induction l with
  | nil => cases h
  | cons g l ih =>
    rw [List.cons_append, insE_cons, insE_cons]
    cases hg : aboveE e g with
    | true => simp
    | false =>
      rw [List.any_cons, hg, Bool.false_or] at h
      rw [ih h]; simp
theorem insE_snoc_new {l : List Ev} {e f : Ev} (h : l.any (aboveE e) = false) (hf : aboveE e f = true) : insE (l ++ [f]) e = l ++ [e] ++ [f] := by
  induction l with
  | nil => rw [List.nil_append, insE_cons, hf]; rfl
  | cons g l ih =>
    rw [List.any_cons, Bool.or_eq_false_iff] at h
    rw [List.cons_append, insE_cons, h.1, ih h.2]; rfl
/-- What has been put out of these. -/
def accE (l : List Ev) (e : Ev) : List Ev := if l.any (aboveE e) then insE l e else l
def keptE (l : List Ev) (e : Ev) (i : Nat) : List Ev := (l.take i).filter fun f => !outE e f
theorem kept_out {l : List Ev} {e f : Ev} {i : Nat} (hf : l[i]? = some f) (ho : outE e f = true) : keptE l e (i + 1) = keptE l e i := by
  unfold keptE; rw [List.take_add_one, hf, List.filter_append]; simp [ho]
theorem kept_in {l : List Ev} {e f : Ev} {i : Nat} (hf : l[i]? = some f) (ho : outE e f = false) : keptE l e (i + 1) = keptE l e i ++ [f] := by
  unfold keptE; rw [List.take_add_one, hf, List.filter_append]; simp [ho]
theorem acc_done {l : List Ev} {e f : Ev} (h : l.any (aboveE e) = true) : accE (l ++ [f]) e = accE l e ++ [f] ∧ (l ++ [f]).any (aboveE e) = true := by
  have h2 : (l ++ [f]).any (aboveE e) = true := by rw [List.any_append, h]; rfl
  exact ⟨by unfold accE; rw [if_pos h2, if_pos h, insE_snoc_hit h], h2⟩
theorem acc_new {l : List Ev} {e f : Ev} (h : l.any (aboveE e) = false) (hf : aboveE e f = true) : accE (l ++ [f]) e = accE l e ++ [e] ++ [f] ∧ (l ++ [f]).any (aboveE e) = true := by
  have h2 : (l ++ [f]).any (aboveE e) = true := by rw [List.any_append, h]; simp [hf]
  exact ⟨by unfold accE; rw [if_pos h2, if_neg (by rw [h]; simp), insE_snoc_new h hf], h2⟩
theorem acc_low {l : List Ev} {e f : Ev} (h : l.any (aboveE e) = false) (hf : aboveE e f = false) : accE (l ++ [f]) e = accE l e ++ [f] ∧ (l ++ [f]).any (aboveE e) = false := by
  have h2 : (l ++ [f]).any (aboveE e) = false := by rw [List.any_append, h]; simp [hf]
  exact ⟨by unfold accE; rw [if_neg (by rw [h2]; simp), if_neg (by rw [h]; simp)], h2⟩
theorem kept_all {l : List Ev} {e : Ev} {n : Nat} (hn : n = l.length) : keptE l e n = l.filter fun f => !outE e f := by unfold keptE; rw [hn, List.take_length]
theorem any_step {l : List Ev} {e f : Ev} {i : Nat} (h : ∀ (j : Nat) (g : Ev), j < i → l[j]? = some g → hitE e g = false) (hf : l[i]? = some f) (hh : hitE e f = false) : ∀ (j : Nat) (g : Ev), j < i + 1 → l[j]? = some g → hitE e g = false := fun j g hj hg => by
  rcases Nat.lt_or_ge j i with h1 | h1
  · exact h j g h1 hg
  · obtain rfl : j = i := by omega
    rw [hf] at hg; cases hg; exact hh
theorem any_end {l : List Ev} {e : Ev} {n : Nat} (hn : n = l.length) (h : ∀ (j : Nat) (g : Ev), j < n → l[j]? = some g → hitE e g = false) : l.any (hitE e) = false := by
  rw [List.any_eq_false]
  intro x hx
  obtain ⟨j, hj, rfl⟩ := List.mem_iff_getElem.1 hx
  rw [h j _ (by omega) (List.getElem?_eq_getElem hj)]; simp
theorem any_hit {l : List Ev} {e f : Ev} {i : Nat} (hf : l[i]? = some f) (h : hitE e f = true) : l.any (hitE e) = true := List.any_eq_true.2 ⟨f, List.mem_of_getElem? hf, h⟩
theorem acc_len {us vs : List (Ev × Value)} {e : Ev} {k : Nat} (h : (keptE (us.map (·.1)) e k).any (aboveE e) = false) (hv : vs.map (·.1) = accE (keptE (us.map (·.1)) e k) e) : vs.length ≤ k := by
  have h1 := congrArg List.length hv
  unfold accE at h1
  rw [if_neg (by rw [h]; simp), List.length_map] at h1
  have h2 : (keptE (us.map (·.1)) e k).length ≤ ((us.map (·.1)).take k).length := List.length_filter_le _ _
  rw [List.length_take] at h2; omega
theorem mem_snocU {us vs : List (Ev × Value)} {x y : Ev × Value} (h : ∀ z ∈ vs, z ∈ us ∨ z = y) (hx : x ∈ us ∨ x = y) : ∀ z ∈ vs ++ [x], z ∈ us ∨ z = y := fun z hz => by
  rcases List.mem_append.1 hz with hz | hz
  · exact h z hz
  · rw [List.mem_singleton.1 hz]; exact hx
set_option maxRecDepth 100000 in
set_option maxHeartbeats 16000000 in
theorem refAdd_any13 (us : List (Ev × Value)) (hl : us.length ≤ 40000) (hf : ∀ x ∈ us, x.1.deps.length < 2000000) (e : Ev) (hde : e.deps.length < 2000000) (v u : Value) (w : World) (hv : HoldsU w v us) (hd : DepsU w us) (hu : HasDots w u e.deps) : Calls Tryz.prog 17 #[v, .agg (evC e u)] w fun x w' => ∃ y us', x = .returned y ∧ HoldsU w' y us' ∧ us'.map (·.1) = addE (us.map (·.1)) e ∧ (∀ z ∈ us', z ∈ us ∨ z = (e, u)) ∧ us'.length ≤ us.length + 1 ∧ Below w.heap.size w w' := by
  have h0 := (Below.refl w.heap.size w).alloc (Nat.le_refl _) (.cells (evC e u) 30 (0, 0))
  have E0 := Lib.hid (box_ev w 30 e u)
  have B0 := Lib.hid h0
  have HV := Lib.hid (holdsU_below hv h0)
  have HD := Lib.hid (depsU_below hd h0)
  have HU := Lib.hid (dots_below hu h0)
  have HF := Lib.hid hf
  have HDE := Lib.hid hde
  obtain ⟨n, hn⟩ : ∃ n, n = us.length := ⟨_, rfl⟩
  have hn5 : n ≤ 40000 := by omega
  have HN := Lib.hid hn
  have HNL := Lib.hid (show n = (us.map (·.1)).length by rw [List.length_map]; exact hn)
  obtain ⟨ao, cap, hvs⟩ := holdsU_shape hv n hn
  obtain ⟨uo, uc, hus⟩ := dots_shape hu _ rfl
  obtain ⟨un, hun⟩ : ∃ m, m = e.deps.length := ⟨_, rfl⟩
  rw [← hun] at hus
  subst hvs
  subst hus
  obtain ⟨ie, hie, hiz⟩ := infoEv
  have HIZ := Lib.hid hiz
  clear hl hf hde hv hd hu h0 hn hun hiz
  go_enter Tryz.func17, Tryz.ntmps17
  go_upto_region 1 with fail
  generalize w.alloc (.cells (evC e (.slice uo un uc)) 30 (0, 0)) = W0 at *
  go_wp2
  go_loopw [5] (fun c wr => ∃ i : Nat, i ≤ n ∧ c = .int .i64 (i : Int) ∧ (∀ (j : Nat) (g : Ev), j < i → (us.map (·.1))[j]? = some g → hitE e g = false) ∧ Below W0.heap.size W0 wr) (fun c _ => n - (intOf c).toNat)
  case atStart => exact ⟨0, Nat.zero_le _, rfl, (fun j g h => absurd h (Nat.not_lt_zero j)), Below.refl _ _⟩
  case round =>
    obtain ⟨i, hi, rfl, hno, hb⟩ := hrel
    have HNO := Lib.hid hno
    have HB := Lib.hid hb
    clear hno hb
    by_cases hil : i < n
    · have q0 : (i : Int) < (n : Int) := by omega
      have hi1 : i + 1 ≤ n := hil
      obtain ⟨x, hx⟩ : ∃ x, us[i]? = some x := ⟨_, List.getElem?_eq_getElem (by have := HN.out; omega)⟩
      obtain ⟨ad, cap', e1, hcx⟩ := holdsU_at HV.out n i HN.out.symm x hx
      cases e1
      have hux := HD.out x (List.mem_of_getElem? hx)
      have hex := fst_atM hx
      have hdx := HF.out x (List.mem_of_getElem? hx)
      obtain ⟨f, fv⟩ := x
      dsimp only at hcx hux hex hdx
      have CF := Lib.hid hcx
      have HDF := Lib.hid hux
      have HFK := Lib.hid hex
      have s1 : (str f.path).toList = f.path := str_toList _
      have s2 : (str e.path).toList = e.path := str_toList _
      have KN := Lib.hid (fun w hv => refKnows_any12 f e hdx fv (.slice uo un uc) w hv)
      clear hx hcx hux hex hdx hi
      cases hp : (f.path == e.path) with
      | false =>
        have HHE := Lib.hid (show hitE e f = false by unfold hitE; rw [hp]; rfl)
        go_upto_region 4 with fail
        refine wp_region_held_drew (S := fun w' => Below W0.heap.size W0 w') (by kernel_rfl) (drawS HB.out) (fun hHeld => ?_)
        generalize wr.drew = wd at hHeld ⊢
        refine take_at (i := 0) 15 rfl rfl (by kernel_rfl) (by kernel_rfl) (by kernel_rfl) (fun _ _ _ h => h) (sure_yes (by rfl) (fun w => by go_simp; try with_reducible rfl)) hHeld ?_
        simp only [List.setIfInBounds_toArray, List.set_cons_zero, List.set_cons_succ]
        refine take_at (i := 1) 16 rfl rfl (by kernel_rfl) (by kernel_rfl) (by kernel_rfl) (fun _ _ _ h => h) (sure_yes (by rfl) (fun w => by go_simp; try with_reducible rfl)) hHeld ?_
        simp only [List.setIfInBounds_toArray, List.set_cons_zero, List.set_cons_succ]
        refine take_at (i := 2) 17 rfl rfl (by kernel_rfl) (by kernel_rfl) (by kernel_rfl) (fun _ _ _ h => h) (sure_yes (by rfl) (fun w => by go_simp; try with_reducible rfl)) hHeld ?_
        simp only [List.setIfInBounds_toArray, List.set_cons_zero, List.set_cons_succ]
        refine take_at (i := 3) 18 rfl rfl (by kernel_rfl) (by kernel_rfl) (by kernel_rfl) (fun _ _ _ h => h) (sure_yes (by rfl) (fun w => by go_simp; try with_reducible rfl)) hHeld ?_
        simp only [List.setIfInBounds_toArray, List.set_cons_zero, List.set_cons_succ]
        refine take_at (i := 5) 20 rfl rfl (by kernel_rfl) (by kernel_rfl) (by kernel_rfl) (fun _ _ _ h => h) (sure_yes (by rfl) (fun w => by go_simp; try with_reducible rfl)) hHeld ?_
        simp only [List.setIfInBounds_toArray, List.set_cons_zero, List.set_cons_succ]
        refine take_at (i := 4) 19 rfl rfl (by kernel_rfl) (by kernel_rfl) (by kernel_rfl) (fun _ _ _ h => h) (str_yields12 (by rfl) 9 (.tmp 18) rfl ⟨(ad.add (i * 38)).block, (ad.add (i * 38)).off + 4, none⟩ rfl (str f.path) Tryz.underlying9 (fun w h => cell_under12 (ev_fieldM CF.out 4 (by decide) _ (evC_at _ _).2.2.2.2.1) h)) hHeld ?_
        simp only [List.setIfInBounds_toArray, List.set_cons_zero, List.set_cons_succ]
        refine take_at (i := 6) 21 rfl rfl (by kernel_rfl) (by kernel_rfl) (by kernel_rfl) (fun _ _ _ h => h) (str_yields12 (by rfl) 9 (.tmp 20) rfl ⟨w.heap.size, 4, none⟩ rfl (str e.path) Tryz.underlying9 (fun w h => cell_under12 (evAt_cells E0.out).2.2.2.2.1 h)) hHeld ?_
        simp only [List.setIfInBounds_toArray, List.set_cons_zero, List.set_cons_succ]
        refine take_at (i := 7) 22 rfl rfl (by kernel_rfl) (by kernel_rfl) (by kernel_rfl) (fun _ _ _ h => h) (sure_yes (by rfl) (fun w => by go_simp; try with_reducible rfl)) hHeld ?_
        simp only [List.setIfInBounds_toArray, List.set_cons_zero, List.set_cons_succ]
        refine take_at (i := 8) 23 rfl rfl (by kernel_rfl) (by kernel_rfl) (by kernel_rfl) (fun _ _ _ h => h) (sure_yes (by rfl) (fun w => by go_simp; try with_reducible rfl)) hHeld ?_
        simp only [List.setIfInBounds_toArray, List.set_cons_zero, List.set_cons_succ]
        refine take_at (i := 9) 24 rfl rfl (by kernel_rfl) (by kernel_rfl) (by kernel_rfl) (fun _ _ _ h => h) (.inr ⟨by rfl, rfl⟩) hHeld ?_
        simp only [List.setIfInBounds_toArray, List.set_cons_zero, List.set_cons_succ]
        refine take_at (i := 10) 25 rfl rfl (by kernel_rfl) (by kernel_rfl) (by kernel_rfl) (fun _ _ _ h => h) (.inr ⟨by rfl, rfl⟩) hHeld ?_
        simp only [List.setIfInBounds_toArray, List.set_cons_zero, List.set_cons_succ]
        refine take_at (i := 11) 26 rfl rfl (by kernel_rfl) (by kernel_rfl) (by kernel_rfl) (fun _ _ _ h => h) (.inr ⟨by rfl, rfl⟩) hHeld ?_
        simp only [List.setIfInBounds_toArray, List.set_cons_zero, List.set_cons_succ]
        refine take_at (i := 12) 27 rfl rfl (by kernel_rfl) (by kernel_rfl) (by kernel_rfl) (fun _ _ _ h => h) (.inr ⟨by rfl, rfl⟩) hHeld ?_
        simp only [List.setIfInBounds_toArray, List.set_cons_zero, List.set_cons_succ]
        refine take_at (i := 14) 29 rfl rfl (by kernel_rfl) (by kernel_rfl) (by kernel_rfl) (fun _ _ _ h => h) (.inr ⟨by rfl, rfl⟩) hHeld ?_
        simp only [List.setIfInBounds_toArray, List.set_cons_zero, List.set_cons_succ]
        refine take_at (i := 13) 28 rfl rfl (by kernel_rfl) (by kernel_rfl) (by kernel_rfl) (fun _ _ _ h => h) (.inr ⟨by rfl, rfl⟩) hHeld ?_
        simp only [List.setIfInBounds_toArray, List.set_cons_zero, List.set_cons_succ]
        refine take_at (i := 15) 30 rfl rfl (by kernel_rfl) (by kernel_rfl) (by kernel_rfl) (fun _ _ _ h => h) (.inr ⟨by rfl, rfl⟩) hHeld ?_
        simp only [List.setIfInBounds_toArray, List.set_cons_zero, List.set_cons_succ]
        refine take_at (i := 16) 31 rfl rfl (by kernel_rfl) (by kernel_rfl) (by kernel_rfl) (fun _ _ _ h => h) (.inr ⟨by rfl, rfl⟩) hHeld ?_
        simp only [List.setIfInBounds_toArray, List.set_cons_zero, List.set_cons_succ]
        refine take_at (i := 17) 32 rfl rfl (by kernel_rfl) (by kernel_rfl) (by kernel_rfl) (fun _ _ _ h => h) (.inr ⟨by rfl, rfl⟩) hHeld ?_
        simp only [List.setIfInBounds_toArray, List.set_cons_zero, List.set_cons_succ]
        refine take_at (i := 18) 33 rfl rfl (by kernel_rfl) (by kernel_rfl) (by kernel_rfl) (fun _ _ _ h => h) (.inr ⟨by rfl, rfl⟩) hHeld ?_
        simp only [List.setIfInBounds_toArray, List.set_cons_zero, List.set_cons_succ]
        refine take_at (i := 19) 34 rfl rfl (by kernel_rfl) (by kernel_rfl) (by kernel_rfl) (fun _ _ _ h => h) (.inr ⟨by rfl, rfl⟩) hHeld ?_
        simp only [List.setIfInBounds_toArray, List.set_cons_zero, List.set_cons_succ]
        refine take_at (i := 20) 35 rfl rfl (by kernel_rfl) (by kernel_rfl) (by kernel_rfl) (fun _ _ _ h => h) (.inr ⟨by rfl, rfl⟩) hHeld ?_
        simp only [List.setIfInBounds_toArray, List.set_cons_zero, List.set_cons_succ]
        refine take_at (i := 21) 36 rfl rfl (by kernel_rfl) (by kernel_rfl) (by kernel_rfl) (fun _ _ _ h => h) (.inr ⟨by rfl, rfl⟩) hHeld ?_
        simp only [List.setIfInBounds_toArray, List.set_cons_zero, List.set_cons_succ]
        refine take_at (i := 22) 37 rfl rfl (by kernel_rfl) (by kernel_rfl) (by kernel_rfl) (fun _ _ _ h => h) (.inr ⟨by rfl, rfl⟩) hHeld ?_
        simp only [List.setIfInBounds_toArray, List.set_cons_zero, List.set_cons_succ]
        refine take_at (i := 23) 38 rfl rfl (by kernel_rfl) (by kernel_rfl) (by kernel_rfl) (fun _ _ _ h => h) (.inr ⟨by rfl, rfl⟩) hHeld ?_
        simp only [List.setIfInBounds_toArray, List.set_cons_zero, List.set_cons_succ]
        refine take_at (i := 24) 39 rfl rfl (by kernel_rfl) (by kernel_rfl) (by kernel_rfl) (fun _ _ _ h => h) (.inr ⟨by rfl, rfl⟩) hHeld ?_
        simp only [List.setIfInBounds_toArray, List.set_cons_zero, List.set_cons_succ]
        refine take_at (i := 25) 40 rfl rfl (by kernel_rfl) (by kernel_rfl) (by kernel_rfl) (fun _ _ _ h => h) (sure_yes (by rfl) (fun w => by go_simp; try with_reducible rfl)) hHeld ?_
        simp only [List.setIfInBounds_toArray, List.set_cons_zero, List.set_cons_succ]
        refine wpAnyH_done (by kernel_rfl) ?_ _
        have Z := Lib.hid hHeld
        clear hHeld
        go_wp2
        go_roundw
        case rel => exact ⟨i + 1, hi1, by go_num, any_step HNO.out HFK.out HHE.out, Z.out⟩
        case measure => simp [intOf] <;> omega
      | true =>
        have hpe : f.path = e.path := by simpa using hp
        by_cases hdd : f.r = e.r ∧ f.q = e.q
        · have ED := Lib.hid (eql_dots (r := f.r) (q := f.q) (r' := e.r) (q' := e.q) (b := true) (by simp [hdd.1, hdd.2]))
          have HHE := Lib.hid (show hitE e f = true by unfold hitE; rw [hp, (dotE_iff f e).2 hdd]; rfl)
          clear hdd
          go_upto_region 4 with fail
          refine wp_region_held_drew (S := fun w' => Below W0.heap.size W0 w') (by kernel_rfl) (drawS HB.out) (fun hHeld => ?_)
          generalize wr.drew = wd at hHeld ⊢
          refine take_at (i := 0) 15 rfl rfl (by kernel_rfl) (by kernel_rfl) (by kernel_rfl) (fun _ _ _ h => h) (sure_yes (by rfl) (fun w => by go_simp; try with_reducible rfl)) hHeld ?_
          simp only [List.setIfInBounds_toArray, List.set_cons_zero, List.set_cons_succ]
          refine take_at (i := 1) 16 rfl rfl (by kernel_rfl) (by kernel_rfl) (by kernel_rfl) (fun _ _ _ h => h) (sure_yes (by rfl) (fun w => by go_simp; try with_reducible rfl)) hHeld ?_
          simp only [List.setIfInBounds_toArray, List.set_cons_zero, List.set_cons_succ]
          refine take_at (i := 2) 17 rfl rfl (by kernel_rfl) (by kernel_rfl) (by kernel_rfl) (fun _ _ _ h => h) (sure_yes (by rfl) (fun w => by go_simp; try with_reducible rfl)) hHeld ?_
          simp only [List.setIfInBounds_toArray, List.set_cons_zero, List.set_cons_succ]
          refine take_at (i := 3) 18 rfl rfl (by kernel_rfl) (by kernel_rfl) (by kernel_rfl) (fun _ _ _ h => h) (sure_yes (by rfl) (fun w => by go_simp; try with_reducible rfl)) hHeld ?_
          simp only [List.setIfInBounds_toArray, List.set_cons_zero, List.set_cons_succ]
          refine take_at (i := 5) 20 rfl rfl (by kernel_rfl) (by kernel_rfl) (by kernel_rfl) (fun _ _ _ h => h) (sure_yes (by rfl) (fun w => by go_simp; try with_reducible rfl)) hHeld ?_
          simp only [List.setIfInBounds_toArray, List.set_cons_zero, List.set_cons_succ]
          refine take_at (i := 4) 19 rfl rfl (by kernel_rfl) (by kernel_rfl) (by kernel_rfl) (fun _ _ _ h => h) (str_yields12 (by rfl) 9 (.tmp 18) rfl ⟨(ad.add (i * 38)).block, (ad.add (i * 38)).off + 4, none⟩ rfl (str f.path) Tryz.underlying9 (fun w h => cell_under12 (ev_fieldM CF.out 4 (by decide) _ (evC_at _ _).2.2.2.2.1) h)) hHeld ?_
          simp only [List.setIfInBounds_toArray, List.set_cons_zero, List.set_cons_succ]
          refine take_at (i := 6) 21 rfl rfl (by kernel_rfl) (by kernel_rfl) (by kernel_rfl) (fun _ _ _ h => h) (str_yields12 (by rfl) 9 (.tmp 20) rfl ⟨w.heap.size, 4, none⟩ rfl (str e.path) Tryz.underlying9 (fun w h => cell_under12 (evAt_cells E0.out).2.2.2.2.1 h)) hHeld ?_
          simp only [List.setIfInBounds_toArray, List.set_cons_zero, List.set_cons_succ]
          refine take_at (i := 7) 22 rfl rfl (by kernel_rfl) (by kernel_rfl) (by kernel_rfl) (fun _ _ _ h => h) (sure_yes (by rfl) (fun w => by go_simp; try with_reducible rfl)) hHeld ?_
          simp only [List.setIfInBounds_toArray, List.set_cons_zero, List.set_cons_succ]
          refine take_at (i := 8) 23 rfl rfl (by kernel_rfl) (by kernel_rfl) (by kernel_rfl) (fun _ _ _ h => h) (sure_yes (by rfl) (fun w => by go_simp; try with_reducible rfl)) hHeld ?_
          simp only [List.setIfInBounds_toArray, List.set_cons_zero, List.set_cons_succ]
          refine take_at (i := 9) 24 rfl rfl (by kernel_rfl) (by kernel_rfl) (by kernel_rfl) (fun _ _ _ h => h) (sure_yes (by rfl) (fun w => by go_simp; try with_reducible rfl)) hHeld ?_
          simp only [List.setIfInBounds_toArray, List.set_cons_zero, List.set_cons_succ]
          refine take_at (i := 10) 25 rfl rfl (by kernel_rfl) (by kernel_rfl) (by kernel_rfl) (fun _ _ _ h => h) (sure_yes (by rfl) (fun w => by go_simp; try with_reducible rfl)) hHeld ?_
          simp only [List.setIfInBounds_toArray, List.set_cons_zero, List.set_cons_succ]
          refine take_at (i := 11) 26 rfl rfl (by kernel_rfl) (by kernel_rfl) (by kernel_rfl) (fun _ _ _ h => h) (sure_yes (by rfl) (fun w => by go_simp; try with_reducible rfl)) hHeld ?_
          simp only [List.setIfInBounds_toArray, List.set_cons_zero, List.set_cons_succ]
          refine take_at (i := 12) 27 rfl rfl (by kernel_rfl) (by kernel_rfl) (by kernel_rfl) (fun _ _ _ h => h) (sure_yes (by rfl) (fun w => by go_simp; try with_reducible rfl)) hHeld ?_
          simp only [List.setIfInBounds_toArray, List.set_cons_zero, List.set_cons_succ]
          refine take_at (i := 14) 29 rfl rfl (by kernel_rfl) (by kernel_rfl) (by kernel_rfl) (fun _ _ _ h => h) (sure_yes (by rfl) (fun w => by go_simp; try with_reducible rfl)) hHeld ?_
          simp only [List.setIfInBounds_toArray, List.set_cons_zero, List.set_cons_succ]
          refine take_at (i := 13) 28 rfl rfl (by kernel_rfl) (by kernel_rfl) (by kernel_rfl) (fun _ _ _ h => h) (dot_yields (by rfl) 24 (.tmp 27) rfl (ad.add (i * 38)) rfl f.r f.q Tryz.underlying24 (by kernel_rfl) (fun w h => ⟨cell_under12 (ev_field0L CF.out _ (evC_at _ _).1) h, cell_under12 (ev_fieldM CF.out 1 (by decide) _ (evC_at _ _).2.1) h⟩)) hHeld ?_
          simp only [List.setIfInBounds_toArray, List.set_cons_zero, List.set_cons_succ]
          refine take_at (i := 15) 30 rfl rfl (by kernel_rfl) (by kernel_rfl) (by kernel_rfl) (fun _ _ _ h => h) (dot_yields (by rfl) 24 (.tmp 29) rfl ⟨w.heap.size, 0, none⟩ rfl e.r e.q Tryz.underlying24 (by kernel_rfl) (fun w h => ⟨cell_under12 (evAt_dot E0.out).1 h, cell_under12 (evAt_dot E0.out).2 h⟩)) hHeld ?_
          simp only [List.setIfInBounds_toArray, List.set_cons_zero, List.set_cons_succ]
          refine take_at (i := 16) 31 rfl rfl (by kernel_rfl) (by kernel_rfl) (by kernel_rfl) (fun _ _ _ h => h) (sure_yes (by rfl) (eql_op rfl rfl rfl (fun w => by go_simp) ED.out)) hHeld ?_
          simp only [List.setIfInBounds_toArray, List.set_cons_zero, List.set_cons_succ]
          refine take_at (i := 17) 32 rfl rfl (by kernel_rfl) (by kernel_rfl) (by kernel_rfl) (fun _ _ _ h => h) (sure_yes (by rfl) (fun w => by go_simp; try with_reducible rfl)) hHeld ?_
          simp only [List.setIfInBounds_toArray, List.set_cons_zero, List.set_cons_succ]
          refine take_at (i := 18) 33 rfl rfl (by kernel_rfl) (by kernel_rfl) (by kernel_rfl) (fun _ _ _ h => h) (.inr ⟨by rfl, rfl⟩) hHeld ?_
          simp only [List.setIfInBounds_toArray, List.set_cons_zero, List.set_cons_succ]
          refine take_at (i := 19) 34 rfl rfl (by kernel_rfl) (by kernel_rfl) (by kernel_rfl) (fun _ _ _ h => h) (.inr ⟨by rfl, rfl⟩) hHeld ?_
          simp only [List.setIfInBounds_toArray, List.set_cons_zero, List.set_cons_succ]
          refine take_at (i := 20) 35 rfl rfl (by kernel_rfl) (by kernel_rfl) (by kernel_rfl) (fun _ _ _ h => h) (.inr ⟨by rfl, rfl⟩) hHeld ?_
          simp only [List.setIfInBounds_toArray, List.set_cons_zero, List.set_cons_succ]
          refine take_at (i := 21) 36 rfl rfl (by kernel_rfl) (by kernel_rfl) (by kernel_rfl) (fun _ _ _ h => h) (.inr ⟨by rfl, rfl⟩) hHeld ?_
          simp only [List.setIfInBounds_toArray, List.set_cons_zero, List.set_cons_succ]
          refine take_at (i := 22) 37 rfl rfl (by kernel_rfl) (by kernel_rfl) (by kernel_rfl) (fun _ _ _ h => h) (.inr ⟨by rfl, rfl⟩) hHeld ?_
          simp only [List.setIfInBounds_toArray, List.set_cons_zero, List.set_cons_succ]
          refine take_at (i := 23) 38 rfl rfl (by kernel_rfl) (by kernel_rfl) (by kernel_rfl) (fun _ _ _ h => h) (.inr ⟨by rfl, rfl⟩) hHeld ?_
          simp only [List.setIfInBounds_toArray, List.set_cons_zero, List.set_cons_succ]
          refine take_at (i := 24) 39 rfl rfl (by kernel_rfl) (by kernel_rfl) (by kernel_rfl) (fun _ _ _ h => h) (sure_yes (by rfl) (fun w => by go_simp; try with_reducible rfl)) hHeld ?_
          simp only [List.setIfInBounds_toArray, List.set_cons_zero, List.set_cons_succ]
          refine take_at (i := 25) 40 rfl rfl (by kernel_rfl) (by kernel_rfl) (by kernel_rfl) (fun _ _ _ h => h) (sure_yes (by rfl) (fun w => by go_simp; try with_reducible rfl)) hHeld ?_
          simp only [List.setIfInBounds_toArray, List.set_cons_zero, List.set_cons_succ]
          refine wpAnyH_done (by kernel_rfl) ?_ _
          have Z := Lib.hid hHeld
          clear hHeld
          have HX := Lib.hid (addE_hit (any_hit HFK.out HHE.out))
          go_wp2
          go_ret
          exact ⟨_, us, rfl, holdsU_below HV.out Z.out, HX.out.symm, (fun a h => .inl h), Nat.le_succ _, below_next B0.out Z.out⟩
        · have ED := Lib.hid (eql_dots (r := f.r) (q := f.q) (r' := e.r) (q' := e.q) (b := false) (by by_cases h1 : f.r = e.r <;> by_cases h2 : f.q = e.q <;> simp_all))
          have HDD := Lib.hid (show dotE f e = false by cases h : dotE f e with | false => rfl | true => exact absurd ((dotE_iff f e).1 h) hdd)
          have HPD := Lib.hid hp
          clear hdd
          obtain ⟨kn, hkn2⟩ : ∃ b, hasV f.deps e.r e.q = b := ⟨_, rfl⟩
          have HHE := Lib.hid (show hitE e f = kn by unfold hitE; rw [HPD.out, HDD.out]; unfold knE; rw [hkn2]; simp)
          rw [hkn2] at KN
          clear hkn2
          go_upto_region 4 with fail
          cases kn with
          | true =>
            refine wp_region_held_drew (S := fun w' => Below W0.heap.size W0 w') (by kernel_rfl) (drawS HB.out) (fun hHeld => ?_)
            generalize wr.drew = wd at hHeld ⊢
            refine take_at (i := 0) 15 rfl rfl (by kernel_rfl) (by kernel_rfl) (by kernel_rfl) (fun _ _ _ h => h) (sure_yes (by rfl) (fun w => by go_simp; try with_reducible rfl)) hHeld ?_
            simp only [List.setIfInBounds_toArray, List.set_cons_zero, List.set_cons_succ]
            refine take_at (i := 1) 16 rfl rfl (by kernel_rfl) (by kernel_rfl) (by kernel_rfl) (fun _ _ _ h => h) (sure_yes (by rfl) (fun w => by go_simp; try with_reducible rfl)) hHeld ?_
            simp only [List.setIfInBounds_toArray, List.set_cons_zero, List.set_cons_succ]
            refine take_at (i := 2) 17 rfl rfl (by kernel_rfl) (by kernel_rfl) (by kernel_rfl) (fun _ _ _ h => h) (sure_yes (by rfl) (fun w => by go_simp; try with_reducible rfl)) hHeld ?_
            simp only [List.setIfInBounds_toArray, List.set_cons_zero, List.set_cons_succ]
            refine take_at (i := 3) 18 rfl rfl (by kernel_rfl) (by kernel_rfl) (by kernel_rfl) (fun _ _ _ h => h) (sure_yes (by rfl) (fun w => by go_simp; try with_reducible rfl)) hHeld ?_
            simp only [List.setIfInBounds_toArray, List.set_cons_zero, List.set_cons_succ]
            refine take_at (i := 5) 20 rfl rfl (by kernel_rfl) (by kernel_rfl) (by kernel_rfl) (fun _ _ _ h => h) (sure_yes (by rfl) (fun w => by go_simp; try with_reducible rfl)) hHeld ?_
            simp only [List.setIfInBounds_toArray, List.set_cons_zero, List.set_cons_succ]
            refine take_at (i := 4) 19 rfl rfl (by kernel_rfl) (by kernel_rfl) (by kernel_rfl) (fun _ _ _ h => h) (str_yields12 (by rfl) 9 (.tmp 18) rfl ⟨(ad.add (i * 38)).block, (ad.add (i * 38)).off + 4, none⟩ rfl (str f.path) Tryz.underlying9 (fun w h => cell_under12 (ev_fieldM CF.out 4 (by decide) _ (evC_at _ _).2.2.2.2.1) h)) hHeld ?_
            simp only [List.setIfInBounds_toArray, List.set_cons_zero, List.set_cons_succ]
            refine take_at (i := 6) 21 rfl rfl (by kernel_rfl) (by kernel_rfl) (by kernel_rfl) (fun _ _ _ h => h) (str_yields12 (by rfl) 9 (.tmp 20) rfl ⟨w.heap.size, 4, none⟩ rfl (str e.path) Tryz.underlying9 (fun w h => cell_under12 (evAt_cells E0.out).2.2.2.2.1 h)) hHeld ?_
            simp only [List.setIfInBounds_toArray, List.set_cons_zero, List.set_cons_succ]
            refine take_at (i := 7) 22 rfl rfl (by kernel_rfl) (by kernel_rfl) (by kernel_rfl) (fun _ _ _ h => h) (sure_yes (by rfl) (fun w => by go_simp; try with_reducible rfl)) hHeld ?_
            simp only [List.setIfInBounds_toArray, List.set_cons_zero, List.set_cons_succ]
            refine take_at (i := 8) 23 rfl rfl (by kernel_rfl) (by kernel_rfl) (by kernel_rfl) (fun _ _ _ h => h) (sure_yes (by rfl) (fun w => by go_simp; try with_reducible rfl)) hHeld ?_
            simp only [List.setIfInBounds_toArray, List.set_cons_zero, List.set_cons_succ]
            refine take_at (i := 9) 24 rfl rfl (by kernel_rfl) (by kernel_rfl) (by kernel_rfl) (fun _ _ _ h => h) (sure_yes (by rfl) (fun w => by go_simp; try with_reducible rfl)) hHeld ?_
            simp only [List.setIfInBounds_toArray, List.set_cons_zero, List.set_cons_succ]
            refine take_at (i := 10) 25 rfl rfl (by kernel_rfl) (by kernel_rfl) (by kernel_rfl) (fun _ _ _ h => h) (sure_yes (by rfl) (fun w => by go_simp; try with_reducible rfl)) hHeld ?_
            simp only [List.setIfInBounds_toArray, List.set_cons_zero, List.set_cons_succ]
            refine take_at (i := 11) 26 rfl rfl (by kernel_rfl) (by kernel_rfl) (by kernel_rfl) (fun _ _ _ h => h) (sure_yes (by rfl) (fun w => by go_simp; try with_reducible rfl)) hHeld ?_
            simp only [List.setIfInBounds_toArray, List.set_cons_zero, List.set_cons_succ]
            refine take_at (i := 12) 27 rfl rfl (by kernel_rfl) (by kernel_rfl) (by kernel_rfl) (fun _ _ _ h => h) (sure_yes (by rfl) (fun w => by go_simp; try with_reducible rfl)) hHeld ?_
            simp only [List.setIfInBounds_toArray, List.set_cons_zero, List.set_cons_succ]
            refine take_at (i := 14) 29 rfl rfl (by kernel_rfl) (by kernel_rfl) (by kernel_rfl) (fun _ _ _ h => h) (sure_yes (by rfl) (fun w => by go_simp; try with_reducible rfl)) hHeld ?_
            simp only [List.setIfInBounds_toArray, List.set_cons_zero, List.set_cons_succ]
            refine take_at (i := 13) 28 rfl rfl (by kernel_rfl) (by kernel_rfl) (by kernel_rfl) (fun _ _ _ h => h) (dot_yields (by rfl) 24 (.tmp 27) rfl (ad.add (i * 38)) rfl f.r f.q Tryz.underlying24 (by kernel_rfl) (fun w h => ⟨cell_under12 (ev_field0L CF.out _ (evC_at _ _).1) h, cell_under12 (ev_fieldM CF.out 1 (by decide) _ (evC_at _ _).2.1) h⟩)) hHeld ?_
            simp only [List.setIfInBounds_toArray, List.set_cons_zero, List.set_cons_succ]
            refine take_at (i := 15) 30 rfl rfl (by kernel_rfl) (by kernel_rfl) (by kernel_rfl) (fun _ _ _ h => h) (dot_yields (by rfl) 24 (.tmp 29) rfl ⟨w.heap.size, 0, none⟩ rfl e.r e.q Tryz.underlying24 (by kernel_rfl) (fun w h => ⟨cell_under12 (evAt_dot E0.out).1 h, cell_under12 (evAt_dot E0.out).2 h⟩)) hHeld ?_
            simp only [List.setIfInBounds_toArray, List.set_cons_zero, List.set_cons_succ]
            refine take_at (i := 16) 31 rfl rfl (by kernel_rfl) (by kernel_rfl) (by kernel_rfl) (fun _ _ _ h => h) (sure_yes (by rfl) (eql_op rfl rfl rfl (fun w => by go_simp) ED.out)) hHeld ?_
            simp only [List.setIfInBounds_toArray, List.set_cons_zero, List.set_cons_succ]
            refine take_at (i := 17) 32 rfl rfl (by kernel_rfl) (by kernel_rfl) (by kernel_rfl) (fun _ _ _ h => h) (sure_yes (by rfl) (fun w => by go_simp; try with_reducible rfl)) hHeld ?_
            simp only [List.setIfInBounds_toArray, List.set_cons_zero, List.set_cons_succ]
            refine take_at (i := 18) 33 rfl rfl (by kernel_rfl) (by kernel_rfl) (by kernel_rfl) (fun _ _ _ h => h) (sure_yes (by rfl) (fun w => by go_simp; try with_reducible rfl)) hHeld ?_
            simp only [List.setIfInBounds_toArray, List.set_cons_zero, List.set_cons_succ]
            refine take_at (i := 19) 34 rfl rfl (by kernel_rfl) (by kernel_rfl) (by kernel_rfl) (fun _ _ _ h => h) (sure_yes (by rfl) (fun w => by go_simp; try with_reducible rfl)) hHeld ?_
            simp only [List.setIfInBounds_toArray, List.set_cons_zero, List.set_cons_succ]
            refine take_at (i := 20) 35 rfl rfl (by kernel_rfl) (by kernel_rfl) (by kernel_rfl) (fun _ _ _ h => h) (sure_yes (by rfl) (fun w => by go_simp; try with_reducible rfl)) hHeld ?_
            simp only [List.setIfInBounds_toArray, List.set_cons_zero, List.set_cons_succ]
            refine take_at (i := 21) 36 rfl rfl (by kernel_rfl) (by kernel_rfl) (by kernel_rfl) (fun _ _ _ h => h) (evA_yields (by rfl) 30 (.tmp 35) rfl (ad.add (i * 38)) rfl Tryz.underlying30 evSize (fun w h j u hu => cell_under12 (CF.out j u hu) h)) hHeld ?_
            simp only [List.setIfInBounds_toArray, List.set_cons_zero, List.set_cons_succ]
            refine take_at (i := 22) 37 rfl rfl (by kernel_rfl) (by kernel_rfl) (by kernel_rfl) (fun _ _ _ h => h) (evA_yields (by rfl) 30 (.tmp 3) rfl ⟨w.heap.size, 0, none⟩ rfl Tryz.underlying30 evSize (fun w h j u hu => cell_under12 (by rw [Addr.add_lit, Nat.zero_add]; exact evAt_cell E0.out j u hu) h)) hHeld ?_
            simp only [List.setIfInBounds_toArray, List.set_cons_zero, List.set_cons_succ]
            refine ready_call2 23 38 (by kernel_rfl) rfl rfl (by rfl) 41 (.tmp 36) (.tmp 37) 30 30 rfl (.agg (evC f fv)) (.agg (evC e (.slice uo un uc))) rfl rfl (enters_of Tryz.func41 (by kernel_rfl) rfl) _ (KN.out _ (dots_below HDF.out hHeld)) (fun x wz hp => ?_)
            obtain ⟨rfl, hb⟩ := hp
            refine ⟨_, rfl, below_next hHeld hb, ?_⟩
            replace hHeld := below_next hHeld hb
            clear hb
            simp only [List.setIfInBounds_toArray, List.set_cons_zero, List.set_cons_succ]
            refine take_at (i := 24) 39 rfl rfl (by kernel_rfl) (by kernel_rfl) (by kernel_rfl) (fun _ _ _ h => h) (sure_yes (by rfl) (fun w => by go_simp; try with_reducible rfl)) hHeld ?_
            simp only [List.setIfInBounds_toArray, List.set_cons_zero, List.set_cons_succ]
            refine take_at (i := 25) 40 rfl rfl (by kernel_rfl) (by kernel_rfl) (by kernel_rfl) (fun _ _ _ h => h) (sure_yes (by rfl) (fun w => by go_simp; try with_reducible rfl)) hHeld ?_
            simp only [List.setIfInBounds_toArray, List.set_cons_zero, List.set_cons_succ]
            refine wpAnyH_done (by kernel_rfl) ?_ _
            have Z := Lib.hid hHeld
            clear hHeld
            have HX := Lib.hid (addE_hit (any_hit HFK.out HHE.out))
            go_wp2
            go_ret
            exact ⟨_, us, rfl, holdsU_below HV.out Z.out, HX.out.symm, (fun a h => .inl h), Nat.le_succ _, below_next B0.out Z.out⟩
          | false =>
            refine wp_region_held_drew (S := fun w' => Below W0.heap.size W0 w') (by kernel_rfl) (drawS HB.out) (fun hHeld => ?_)
            generalize wr.drew = wd at hHeld ⊢
            refine take_at (i := 0) 15 rfl rfl (by kernel_rfl) (by kernel_rfl) (by kernel_rfl) (fun _ _ _ h => h) (sure_yes (by rfl) (fun w => by go_simp; try with_reducible rfl)) hHeld ?_
            simp only [List.setIfInBounds_toArray, List.set_cons_zero, List.set_cons_succ]
            refine take_at (i := 1) 16 rfl rfl (by kernel_rfl) (by kernel_rfl) (by kernel_rfl) (fun _ _ _ h => h) (sure_yes (by rfl) (fun w => by go_simp; try with_reducible rfl)) hHeld ?_
            simp only [List.setIfInBounds_toArray, List.set_cons_zero, List.set_cons_succ]
            refine take_at (i := 2) 17 rfl rfl (by kernel_rfl) (by kernel_rfl) (by kernel_rfl) (fun _ _ _ h => h) (sure_yes (by rfl) (fun w => by go_simp; try with_reducible rfl)) hHeld ?_
            simp only [List.setIfInBounds_toArray, List.set_cons_zero, List.set_cons_succ]
            refine take_at (i := 3) 18 rfl rfl (by kernel_rfl) (by kernel_rfl) (by kernel_rfl) (fun _ _ _ h => h) (sure_yes (by rfl) (fun w => by go_simp; try with_reducible rfl)) hHeld ?_
            simp only [List.setIfInBounds_toArray, List.set_cons_zero, List.set_cons_succ]
            refine take_at (i := 5) 20 rfl rfl (by kernel_rfl) (by kernel_rfl) (by kernel_rfl) (fun _ _ _ h => h) (sure_yes (by rfl) (fun w => by go_simp; try with_reducible rfl)) hHeld ?_
            simp only [List.setIfInBounds_toArray, List.set_cons_zero, List.set_cons_succ]
            refine take_at (i := 4) 19 rfl rfl (by kernel_rfl) (by kernel_rfl) (by kernel_rfl) (fun _ _ _ h => h) (str_yields12 (by rfl) 9 (.tmp 18) rfl ⟨(ad.add (i * 38)).block, (ad.add (i * 38)).off + 4, none⟩ rfl (str f.path) Tryz.underlying9 (fun w h => cell_under12 (ev_fieldM CF.out 4 (by decide) _ (evC_at _ _).2.2.2.2.1) h)) hHeld ?_
            simp only [List.setIfInBounds_toArray, List.set_cons_zero, List.set_cons_succ]
            refine take_at (i := 6) 21 rfl rfl (by kernel_rfl) (by kernel_rfl) (by kernel_rfl) (fun _ _ _ h => h) (str_yields12 (by rfl) 9 (.tmp 20) rfl ⟨w.heap.size, 4, none⟩ rfl (str e.path) Tryz.underlying9 (fun w h => cell_under12 (evAt_cells E0.out).2.2.2.2.1 h)) hHeld ?_
            simp only [List.setIfInBounds_toArray, List.set_cons_zero, List.set_cons_succ]
            refine take_at (i := 7) 22 rfl rfl (by kernel_rfl) (by kernel_rfl) (by kernel_rfl) (fun _ _ _ h => h) (sure_yes (by rfl) (fun w => by go_simp; try with_reducible rfl)) hHeld ?_
            simp only [List.setIfInBounds_toArray, List.set_cons_zero, List.set_cons_succ]
            refine take_at (i := 8) 23 rfl rfl (by kernel_rfl) (by kernel_rfl) (by kernel_rfl) (fun _ _ _ h => h) (sure_yes (by rfl) (fun w => by go_simp; try with_reducible rfl)) hHeld ?_
            simp only [List.setIfInBounds_toArray, List.set_cons_zero, List.set_cons_succ]
            refine take_at (i := 9) 24 rfl rfl (by kernel_rfl) (by kernel_rfl) (by kernel_rfl) (fun _ _ _ h => h) (sure_yes (by rfl) (fun w => by go_simp; try with_reducible rfl)) hHeld ?_
            simp only [List.setIfInBounds_toArray, List.set_cons_zero, List.set_cons_succ]
            refine take_at (i := 10) 25 rfl rfl (by kernel_rfl) (by kernel_rfl) (by kernel_rfl) (fun _ _ _ h => h) (sure_yes (by rfl) (fun w => by go_simp; try with_reducible rfl)) hHeld ?_
            simp only [List.setIfInBounds_toArray, List.set_cons_zero, List.set_cons_succ]
            refine take_at (i := 11) 26 rfl rfl (by kernel_rfl) (by kernel_rfl) (by kernel_rfl) (fun _ _ _ h => h) (sure_yes (by rfl) (fun w => by go_simp; try with_reducible rfl)) hHeld ?_
            simp only [List.setIfInBounds_toArray, List.set_cons_zero, List.set_cons_succ]
            refine take_at (i := 12) 27 rfl rfl (by kernel_rfl) (by kernel_rfl) (by kernel_rfl) (fun _ _ _ h => h) (sure_yes (by rfl) (fun w => by go_simp; try with_reducible rfl)) hHeld ?_
            simp only [List.setIfInBounds_toArray, List.set_cons_zero, List.set_cons_succ]
            refine take_at (i := 14) 29 rfl rfl (by kernel_rfl) (by kernel_rfl) (by kernel_rfl) (fun _ _ _ h => h) (sure_yes (by rfl) (fun w => by go_simp; try with_reducible rfl)) hHeld ?_
            simp only [List.setIfInBounds_toArray, List.set_cons_zero, List.set_cons_succ]
            refine take_at (i := 13) 28 rfl rfl (by kernel_rfl) (by kernel_rfl) (by kernel_rfl) (fun _ _ _ h => h) (dot_yields (by rfl) 24 (.tmp 27) rfl (ad.add (i * 38)) rfl f.r f.q Tryz.underlying24 (by kernel_rfl) (fun w h => ⟨cell_under12 (ev_field0L CF.out _ (evC_at _ _).1) h, cell_under12 (ev_fieldM CF.out 1 (by decide) _ (evC_at _ _).2.1) h⟩)) hHeld ?_
            simp only [List.setIfInBounds_toArray, List.set_cons_zero, List.set_cons_succ]
            refine take_at (i := 15) 30 rfl rfl (by kernel_rfl) (by kernel_rfl) (by kernel_rfl) (fun _ _ _ h => h) (dot_yields (by rfl) 24 (.tmp 29) rfl ⟨w.heap.size, 0, none⟩ rfl e.r e.q Tryz.underlying24 (by kernel_rfl) (fun w h => ⟨cell_under12 (evAt_dot E0.out).1 h, cell_under12 (evAt_dot E0.out).2 h⟩)) hHeld ?_
            simp only [List.setIfInBounds_toArray, List.set_cons_zero, List.set_cons_succ]
            refine take_at (i := 16) 31 rfl rfl (by kernel_rfl) (by kernel_rfl) (by kernel_rfl) (fun _ _ _ h => h) (sure_yes (by rfl) (eql_op rfl rfl rfl (fun w => by go_simp) ED.out)) hHeld ?_
            simp only [List.setIfInBounds_toArray, List.set_cons_zero, List.set_cons_succ]
            refine take_at (i := 17) 32 rfl rfl (by kernel_rfl) (by kernel_rfl) (by kernel_rfl) (fun _ _ _ h => h) (sure_yes (by rfl) (fun w => by go_simp; try with_reducible rfl)) hHeld ?_
            simp only [List.setIfInBounds_toArray, List.set_cons_zero, List.set_cons_succ]
            refine take_at (i := 18) 33 rfl rfl (by kernel_rfl) (by kernel_rfl) (by kernel_rfl) (fun _ _ _ h => h) (sure_yes (by rfl) (fun w => by go_simp; try with_reducible rfl)) hHeld ?_
            simp only [List.setIfInBounds_toArray, List.set_cons_zero, List.set_cons_succ]
            refine take_at (i := 19) 34 rfl rfl (by kernel_rfl) (by kernel_rfl) (by kernel_rfl) (fun _ _ _ h => h) (sure_yes (by rfl) (fun w => by go_simp; try with_reducible rfl)) hHeld ?_
            simp only [List.setIfInBounds_toArray, List.set_cons_zero, List.set_cons_succ]
            refine take_at (i := 20) 35 rfl rfl (by kernel_rfl) (by kernel_rfl) (by kernel_rfl) (fun _ _ _ h => h) (sure_yes (by rfl) (fun w => by go_simp; try with_reducible rfl)) hHeld ?_
            simp only [List.setIfInBounds_toArray, List.set_cons_zero, List.set_cons_succ]
            refine take_at (i := 21) 36 rfl rfl (by kernel_rfl) (by kernel_rfl) (by kernel_rfl) (fun _ _ _ h => h) (evA_yields (by rfl) 30 (.tmp 35) rfl (ad.add (i * 38)) rfl Tryz.underlying30 evSize (fun w h j u hu => cell_under12 (CF.out j u hu) h)) hHeld ?_
            simp only [List.setIfInBounds_toArray, List.set_cons_zero, List.set_cons_succ]
            refine take_at (i := 22) 37 rfl rfl (by kernel_rfl) (by kernel_rfl) (by kernel_rfl) (fun _ _ _ h => h) (evA_yields (by rfl) 30 (.tmp 3) rfl ⟨w.heap.size, 0, none⟩ rfl Tryz.underlying30 evSize (fun w h j u hu => cell_under12 (by rw [Addr.add_lit, Nat.zero_add]; exact evAt_cell E0.out j u hu) h)) hHeld ?_
            simp only [List.setIfInBounds_toArray, List.set_cons_zero, List.set_cons_succ]
            refine ready_call2 23 38 (by kernel_rfl) rfl rfl (by rfl) 41 (.tmp 36) (.tmp 37) 30 30 rfl (.agg (evC f fv)) (.agg (evC e (.slice uo un uc))) rfl rfl (enters_of Tryz.func41 (by kernel_rfl) rfl) _ (KN.out _ (dots_below HDF.out hHeld)) (fun x wz hp => ?_)
            obtain ⟨rfl, hb⟩ := hp
            refine ⟨_, rfl, below_next hHeld hb, ?_⟩
            replace hHeld := below_next hHeld hb
            clear hb
            simp only [List.setIfInBounds_toArray, List.set_cons_zero, List.set_cons_succ]
            refine take_at (i := 24) 39 rfl rfl (by kernel_rfl) (by kernel_rfl) (by kernel_rfl) (fun _ _ _ h => h) (sure_yes (by rfl) (fun w => by go_simp; try with_reducible rfl)) hHeld ?_
            simp only [List.setIfInBounds_toArray, List.set_cons_zero, List.set_cons_succ]
            refine take_at (i := 25) 40 rfl rfl (by kernel_rfl) (by kernel_rfl) (by kernel_rfl) (fun _ _ _ h => h) (sure_yes (by rfl) (fun w => by go_simp; try with_reducible rfl)) hHeld ?_
            simp only [List.setIfInBounds_toArray, List.set_cons_zero, List.set_cons_succ]
            refine wpAnyH_done (by kernel_rfl) ?_ _
            have Z := Lib.hid hHeld
            clear hHeld
            go_wp2
            go_roundw
            case rel => exact ⟨i + 1, hi1, by go_num, any_step HNO.out HFK.out HHE.out, Z.out⟩
            case measure => simp [intOf] <;> omega
    · obtain rfl : i = n := by omega
      have q0 : ¬ (i : Int) < (i : Int) := by omega
      have HNH := Lib.hid (addE_no (any_end HNL.out HNO.out))
      have E1 := Lib.hid (evAt_kept E0.out HB.out)
      have BW1 := Lib.hid (below_next B0.out HB.out)
      have HV1 := Lib.hid (holdsU_below HV.out HB.out)
      have HU1 := Lib.hid (dots_below HU.out HB.out)
      have HD1 := Lib.hid (depsU_below HD.out HB.out)
      clear hi HNO HB HV HU HD E0 B0
      rename World => W1
      go_wp2
      go_loopw [6, 7, 8] (fun out d c wr => ∃ (k : Nat) (vs : List (Ev × Value)), k ≤ i ∧ c = .int .i64 (k : Int) ∧ d = .bool ((keptE (us.map (·.1)) e k).any (aboveE e)) ∧ wr.ownsRow W1.heap.size 30 38 out vs.length (evsC vs) ∧ vs.map (·.1) = accE (keptE (us.map (·.1)) e k) e ∧ (∀ z ∈ vs, z ∈ us ∨ z = (e, .slice uo un uc)) ∧ vs.length ≤ k + 1 ∧ Below W1.heap.size W1 wr) (fun _ _ c _ => i - (intOf c).toNat)
      case atStart => exact ⟨0, [], Nat.zero_le _, rfl, rfl, World.ownsRow_nil _ _ _ _, rfl, (fun z hz => by cases hz), Nat.zero_le _, Below.refl _ _⟩
      case round =>
        obtain ⟨k, vs, hk, rfl, rfl, hown, hvm, hin, hvl, hb⟩ := hrel
        have HO := Lib.hid hown
        have HVM := Lib.hid hvm
        have HIN := Lib.hid hin
        have HVL := Lib.hid hvl
        have HB := Lib.hid hb
        clear hvm hin hb
        obtain ⟨m, hm⟩ : ∃ m, m = vs.length := ⟨_, rfl⟩
        have hm5 : m ≤ k + 1 := by omega
        obtain ⟨oo, oc, rfl⟩ := holdsU_shape (own_holds hown) m hm
        clear hown hvl hm
        obtain ⟨D, hD⟩ : ∃ b, (keptE (us.map (·.1)) e k).any (aboveE e) = b := ⟨_, rfl⟩
        have HAN := Lib.hid hD
        rw [hD]
        clear hD
        by_cases hkl : k < i
        · have q0 : (k : Int) < (i : Int) := by omega
          have hk1 : k + 1 ≤ i := hkl
          obtain ⟨x, hx⟩ : ∃ x, us[k]? = some x := ⟨_, List.getElem?_eq_getElem (by have := HN.out; omega)⟩
          obtain ⟨ad, cap', e1, hcx⟩ := holdsU_at HV1.out i k HN.out.symm x hx
          cases e1
          have hux := HD1.out x (List.mem_of_getElem? hx)
          have hex := fst_atM hx
          have hmx := List.mem_of_getElem? hx
          obtain ⟨f, fv⟩ := x
          dsimp only at hcx hux hex
          obtain ⟨fo, fc, rfl⟩ := dots_shape hux f.deps.length rfl
          obtain ⟨fn, hfn⟩ : ∃ m, m = f.deps.length := ⟨_, rfl⟩
          rw [← hfn] at hcx hux hmx
          clear hfn
          have CF1 := Lib.hid hcx
          have CF := Lib.hid (fun j u hu => cell_under12 (hcx j u hu) HB.out)
          have HFK := Lib.hid hex
          have HMX := Lib.hid hmx
          have E2 := Lib.hid (evAt_kept E1.out HB.out)
          have s1 : (str f.path).toList = f.path := str_toList _
          have s2 : (str e.path).toList = e.path := str_toList _
          have KN := Lib.hid (fun w hv => refKnows_any12 e f HDE.out (.slice uo un uc) (.slice fo fn fc) w hv)
          have CM := Lib.hid (fun w => refCmp_any12 f e (.slice fo fn fc) (.slice uo un uc) w)
          clear hx hcx hux hex hmx hk
          cases hp : (f.path == e.path) with
          | false =>
            have HOU := Lib.hid (show outE e f = false by unfold outE; rw [hp]; rfl)
            have HKP := Lib.hid (kept_in HFK.out HOU.out)
            go_upto_region 11 with fail
            refine wp_region_held_drew (S := fun w' => Below wr.heap.size wr w') (by kernel_rfl) (drawS (Below.refl _ _)) (fun hHeld => ?_)
            generalize wr.drew = wd at hHeld ⊢
            refine take_at (i := 0) 48 rfl rfl (by kernel_rfl) (by kernel_rfl) (by kernel_rfl) (fun _ _ _ h => h) (sure_yes (by rfl) (fun w => by go_simp; try with_reducible rfl)) hHeld ?_
            simp only [List.setIfInBounds_toArray, List.set_cons_zero, List.set_cons_succ]
            refine take_at (i := 1) 49 rfl rfl (by kernel_rfl) (by kernel_rfl) (by kernel_rfl) (fun _ _ _ h => h) (sure_yes (by rfl) (fun w => by go_simp; try with_reducible rfl)) hHeld ?_
            simp only [List.setIfInBounds_toArray, List.set_cons_zero, List.set_cons_succ]
            refine take_at (i := 2) 50 rfl rfl (by kernel_rfl) (by kernel_rfl) (by kernel_rfl) (fun _ _ _ h => h) (sure_yes (by rfl) (fun w => by go_simp; try with_reducible rfl)) hHeld ?_
            simp only [List.setIfInBounds_toArray, List.set_cons_zero, List.set_cons_succ]
            refine take_at (i := 3) 51 rfl rfl (by kernel_rfl) (by kernel_rfl) (by kernel_rfl) (fun _ _ _ h => h) (sure_yes (by rfl) (fun w => by go_simp; try with_reducible rfl)) hHeld ?_
            simp only [List.setIfInBounds_toArray, List.set_cons_zero, List.set_cons_succ]
            refine take_at (i := 5) 53 rfl rfl (by kernel_rfl) (by kernel_rfl) (by kernel_rfl) (fun _ _ _ h => h) (sure_yes (by rfl) (fun w => by go_simp; try with_reducible rfl)) hHeld ?_
            simp only [List.setIfInBounds_toArray, List.set_cons_zero, List.set_cons_succ]
            refine take_at (i := 4) 52 rfl rfl (by kernel_rfl) (by kernel_rfl) (by kernel_rfl) (fun _ _ _ h => h) (str_yields12 (by rfl) 9 (.tmp 51) rfl ⟨(ad.add (k * 38)).block, (ad.add (k * 38)).off + 4, none⟩ rfl (str f.path) Tryz.underlying9 (fun w h => cell_under12 (ev_fieldM CF.out 4 (by decide) _ (evC_at _ _).2.2.2.2.1) h)) hHeld ?_
            simp only [List.setIfInBounds_toArray, List.set_cons_zero, List.set_cons_succ]
            refine take_at (i := 6) 54 rfl rfl (by kernel_rfl) (by kernel_rfl) (by kernel_rfl) (fun _ _ _ h => h) (str_yields12 (by rfl) 9 (.tmp 53) rfl ⟨w.heap.size, 4, none⟩ rfl (str e.path) Tryz.underlying9 (fun w h => cell_under12 (evAt_cells E2.out).2.2.2.2.1 h)) hHeld ?_
            simp only [List.setIfInBounds_toArray, List.set_cons_zero, List.set_cons_succ]
            refine take_at (i := 7) 55 rfl rfl (by kernel_rfl) (by kernel_rfl) (by kernel_rfl) (fun _ _ _ h => h) (sure_yes (by rfl) (fun w => by go_simp; try with_reducible rfl)) hHeld ?_
            simp only [List.setIfInBounds_toArray, List.set_cons_zero, List.set_cons_succ]
            refine take_at (i := 8) 56 rfl rfl (by kernel_rfl) (by kernel_rfl) (by kernel_rfl) (fun _ _ _ h => h) (sure_yes (by rfl) (fun w => by go_simp; try with_reducible rfl)) hHeld ?_
            simp only [List.setIfInBounds_toArray, List.set_cons_zero, List.set_cons_succ]
            refine take_at (i := 10) 58 rfl rfl (by kernel_rfl) (by kernel_rfl) (by kernel_rfl) (fun _ _ _ h => h) (.inr ⟨by rfl, rfl⟩) hHeld ?_
            simp only [List.setIfInBounds_toArray, List.set_cons_zero, List.set_cons_succ]
            refine take_at (i := 11) 59 rfl rfl (by kernel_rfl) (by kernel_rfl) (by kernel_rfl) (fun _ _ _ h => h) (.inr ⟨by rfl, rfl⟩) hHeld ?_
            simp only [List.setIfInBounds_toArray, List.set_cons_zero, List.set_cons_succ]
            refine take_at (i := 12) 60 rfl rfl (by kernel_rfl) (by kernel_rfl) (by kernel_rfl) (fun _ _ _ h => h) (.inr ⟨by rfl, rfl⟩) hHeld ?_
            simp only [List.setIfInBounds_toArray, List.set_cons_zero, List.set_cons_succ]
            refine take_at (i := 9) 57 rfl rfl (by kernel_rfl) (by kernel_rfl) (by kernel_rfl) (fun _ _ _ h => h) (.inr ⟨by rfl, rfl⟩) hHeld ?_
            simp only [List.setIfInBounds_toArray, List.set_cons_zero, List.set_cons_succ]
            refine take_at (i := 13) 61 rfl rfl (by kernel_rfl) (by kernel_rfl) (by kernel_rfl) (fun _ _ _ h => h) (.inr ⟨by rfl, rfl⟩) hHeld ?_
            simp only [List.setIfInBounds_toArray, List.set_cons_zero, List.set_cons_succ]
            refine take_at (i := 14) 62 rfl rfl (by kernel_rfl) (by kernel_rfl) (by kernel_rfl) (fun _ _ _ h => h) (.inr ⟨by rfl, rfl⟩) hHeld ?_
            simp only [List.setIfInBounds_toArray, List.set_cons_zero, List.set_cons_succ]
            refine take_at (i := 15) 63 rfl rfl (by kernel_rfl) (by kernel_rfl) (by kernel_rfl) (fun _ _ _ h => h) (sure_yes (by rfl) (fun w => by go_simp; try with_reducible rfl)) hHeld ?_
            simp only [List.setIfInBounds_toArray, List.set_cons_zero, List.set_cons_succ]
            refine wpAnyH_done (by kernel_rfl) ?_ _
            have Z5 := Lib.hid hHeld
            clear hHeld
            rename World => W5
            cases D with
            | true =>
              go_upto_region 12 with fail
              refine wp_region_held_drew (S := fun w' => Below wr.heap.size wr w') (by kernel_rfl) (drawS Z5.out) (fun hHeld => ?_)
              generalize W5.drew = wd at hHeld ⊢
              refine take_at (i := 0) 64 rfl rfl (by kernel_rfl) (by kernel_rfl) (by kernel_rfl) (fun _ _ _ h => h) (sure_yes (by rfl) (fun w => by go_simp; try with_reducible rfl)) hHeld ?_
              simp only [List.setIfInBounds_toArray, List.set_cons_zero, List.set_cons_succ]
              refine take_at (i := 1) 65 rfl rfl (by kernel_rfl) (by kernel_rfl) (by kernel_rfl) (fun _ _ _ h => h) (sure_yes (by rfl) (fun w => by go_simp; try with_reducible rfl)) hHeld ?_
              simp only [List.setIfInBounds_toArray, List.set_cons_zero, List.set_cons_succ]
              refine take_at (i := 2) 66 rfl rfl (by kernel_rfl) (by kernel_rfl) (by kernel_rfl) (fun _ _ _ h => h) (sure_yes (by rfl) (fun w => by go_simp; try with_reducible rfl)) hHeld ?_
              simp only [List.setIfInBounds_toArray, List.set_cons_zero, List.set_cons_succ]
              refine take_at (i := 3) 67 rfl rfl (by kernel_rfl) (by kernel_rfl) (by kernel_rfl) (fun _ _ _ h => h) (.inr ⟨by rfl, rfl⟩) hHeld ?_
              simp only [List.setIfInBounds_toArray, List.set_cons_zero, List.set_cons_succ]
              refine take_at (i := 4) 68 rfl rfl (by kernel_rfl) (by kernel_rfl) (by kernel_rfl) (fun _ _ _ h => h) (.inr ⟨by rfl, rfl⟩) hHeld ?_
              simp only [List.setIfInBounds_toArray, List.set_cons_zero, List.set_cons_succ]
              refine take_at (i := 5) 69 rfl rfl (by kernel_rfl) (by kernel_rfl) (by kernel_rfl) (fun _ _ _ h => h) (.inr ⟨by rfl, rfl⟩) hHeld ?_
              simp only [List.setIfInBounds_toArray, List.set_cons_zero, List.set_cons_succ]
              refine take_at (i := 6) 70 rfl rfl (by kernel_rfl) (by kernel_rfl) (by kernel_rfl) (fun _ _ _ h => h) (.inr ⟨by rfl, rfl⟩) hHeld ?_
              simp only [List.setIfInBounds_toArray, List.set_cons_zero, List.set_cons_succ]
              refine take_at (i := 7) 71 rfl rfl (by kernel_rfl) (by kernel_rfl) (by kernel_rfl) (fun _ _ _ h => h) (.inr ⟨by rfl, rfl⟩) hHeld ?_
              simp only [List.setIfInBounds_toArray, List.set_cons_zero, List.set_cons_succ]
              refine take_at (i := 8) 72 rfl rfl (by kernel_rfl) (by kernel_rfl) (by kernel_rfl) (fun _ _ _ h => h) (.inr ⟨by rfl, rfl⟩) hHeld ?_
              simp only [List.setIfInBounds_toArray, List.set_cons_zero, List.set_cons_succ]
              refine take_at (i := 9) 73 rfl rfl (by kernel_rfl) (by kernel_rfl) (by kernel_rfl) (fun _ _ _ h => h) (.inr ⟨by rfl, rfl⟩) hHeld ?_
              simp only [List.setIfInBounds_toArray, List.set_cons_zero, List.set_cons_succ]
              refine take_at (i := 10) 74 rfl rfl (by kernel_rfl) (by kernel_rfl) (by kernel_rfl) (fun _ _ _ h => h) (sure_yes (by rfl) (fun w => by go_simp; try with_reducible rfl)) hHeld ?_
              simp only [List.setIfInBounds_toArray, List.set_cons_zero, List.set_cons_succ]
              refine wpAnyH_done (by kernel_rfl) ?_ _
              have Z6 := Lib.hid hHeld
              clear hHeld
              rename World => W7
              have O6 := Lib.hid (own_belowM HO.out Z6.out)
              have B6 := Lib.hid (below_next HB.out Z6.out)
              go_upto_region 15 with fail
              go_upto_region 10 with (first
                | (refine load_evA_on (by rfl) 30 (.tmp 82) rfl (ad.add (k * 38)) rfl Tryz.underlying30 evSize (fun j u hu => cell_under12 (CF1.out j u hu) B6.out) ?_)
                | (refine build_evM rfl 84 rfl (.tmp 83) rfl W7.heap.size rfl f fo fn fc rfl ?_; rintro Wb hEA hBA hNA; have EA := Lib.hid hEA; have BB := Lib.hid (below_next B6.out hBA); have OB := Lib.hid (own_belowM O6.out hBA); clear hEA hBA hNA)
                | (at_builtin; refine append_evs rfl (.tmp 79) (.tmp 84) 22 rfl W1.heap.size 30 ie Tryz.underlying22 hie HIZ.out _ _ [(f, (.slice fo fn fc))] rfl OB.out (fun q hq => by rw [List.mem_singleton.1 hq]; rfl) ⟨W7.heap.size, 0, none⟩ 1 1 rfl rfl (evAt_one EA.out) (by have := HVL.out; simp; omega) BB.out.size ?_; rintro v3 Wc ho hg; have BC := Lib.hid (below_grown BB.out hg BB.out.size (fun b hb => (OB.out.lt b hb).1)); have OC := Lib.hid ho; clear ho hg))
              go_wp2
              go_roundw
              case rel => exact ⟨k + 1, _, hk1, by go_num, by rw [HKP.out, (acc_done HAN.out).2], OC.out, by rw [List.map_append, HKP.out, (acc_done HAN.out).1, HVM.out]; rfl, mem_snocU (HIN.out) (.inl HMX.out), by have := HVL.out; simp; omega, BC.out⟩
              case measure => simp [intOf] <;> omega
            | false =>
              have HVK := Lib.hid (acc_len HAN.out HVM.out)
              obtain ⟨c, hc⟩ : ∃ c, cmpE f e = c := ⟨_, rfl⟩
              have HC := Lib.hid hc
              rw [hc] at CM
              clear hc
              by_cases hc0 : 0 < c
              · have q8 : decide (c > 0) = true := by simp; omega
                have HAB := Lib.hid (show aboveE e f = true by unfold aboveE; rw [HC.out]; exact decide_eq_true hc0)
                go_upto_region 12 with fail
                refine wp_region_held_drew (S := fun w' => Below wr.heap.size wr w') (by kernel_rfl) (drawS Z5.out) (fun hHeld => ?_)
                generalize W5.drew = wd at hHeld ⊢
                refine take_at (i := 0) 64 rfl rfl (by kernel_rfl) (by kernel_rfl) (by kernel_rfl) (fun _ _ _ h => h) (sure_yes (by rfl) (fun w => by go_simp; try with_reducible rfl)) hHeld ?_
                simp only [List.setIfInBounds_toArray, List.set_cons_zero, List.set_cons_succ]
                refine take_at (i := 1) 65 rfl rfl (by kernel_rfl) (by kernel_rfl) (by kernel_rfl) (fun _ _ _ h => h) (sure_yes (by rfl) (fun w => by go_simp; try with_reducible rfl)) hHeld ?_
                simp only [List.setIfInBounds_toArray, List.set_cons_zero, List.set_cons_succ]
                refine take_at (i := 2) 66 rfl rfl (by kernel_rfl) (by kernel_rfl) (by kernel_rfl) (fun _ _ _ h => h) (sure_yes (by rfl) (fun w => by go_simp; try with_reducible rfl)) hHeld ?_
                simp only [List.setIfInBounds_toArray, List.set_cons_zero, List.set_cons_succ]
                refine take_at (i := 3) 67 rfl rfl (by kernel_rfl) (by kernel_rfl) (by kernel_rfl) (fun _ _ _ h => h) (sure_yes (by rfl) (fun w => by go_simp; try with_reducible rfl)) hHeld ?_
                simp only [List.setIfInBounds_toArray, List.set_cons_zero, List.set_cons_succ]
                refine take_at (i := 4) 68 rfl rfl (by kernel_rfl) (by kernel_rfl) (by kernel_rfl) (fun _ _ _ h => h) (sure_yes (by rfl) (fun w => by go_simp; try with_reducible rfl)) hHeld ?_
                simp only [List.setIfInBounds_toArray, List.set_cons_zero, List.set_cons_succ]
                refine take_at (i := 5) 69 rfl rfl (by kernel_rfl) (by kernel_rfl) (by kernel_rfl) (fun _ _ _ h => h) (sure_yes (by rfl) (fun w => by go_simp; try with_reducible rfl)) hHeld ?_
                simp only [List.setIfInBounds_toArray, List.set_cons_zero, List.set_cons_succ]
                refine take_at (i := 6) 70 rfl rfl (by kernel_rfl) (by kernel_rfl) (by kernel_rfl) (fun _ _ _ h => h) (evA_yields (by rfl) 30 (.tmp 69) rfl (ad.add (k * 38)) rfl Tryz.underlying30 evSize (fun w h j u hu => cell_under12 (CF.out j u hu) h)) hHeld ?_
                simp only [List.setIfInBounds_toArray, List.set_cons_zero, List.set_cons_succ]
                refine take_at (i := 7) 71 rfl rfl (by kernel_rfl) (by kernel_rfl) (by kernel_rfl) (fun _ _ _ h => h) (evA_yields (by rfl) 30 (.tmp 3) rfl ⟨w.heap.size, 0, none⟩ rfl Tryz.underlying30 evSize (fun w h j u hu => cell_under12 (by rw [Addr.add_lit, Nat.zero_add]; exact evAt_cell E2.out j u hu) h)) hHeld ?_
                simp only [List.setIfInBounds_toArray, List.set_cons_zero, List.set_cons_succ]
                refine ready_call2 8 72 (by kernel_rfl) rfl rfl (by rfl) 40 (.tmp 70) (.tmp 71) 30 30 rfl (.agg (evC f (.slice fo fn fc))) (.agg (evC e (.slice uo un uc))) rfl rfl (enters_of Tryz.func40 (by kernel_rfl) rfl) _ (CM.out _) (fun x wz hp => ?_)
                obtain ⟨rfl, hb⟩ := hp
                refine ⟨_, rfl, below_next hHeld hb, ?_⟩
                replace hHeld := below_next hHeld hb
                clear hb
                simp only [List.setIfInBounds_toArray, List.set_cons_zero, List.set_cons_succ]
                refine take_at (i := 9) 73 rfl rfl (by kernel_rfl) (by kernel_rfl) (by kernel_rfl) (fun _ _ _ h => h) (sure_yes (by rfl) (fun w => by go_simp; try with_reducible rfl)) hHeld ?_
                simp only [List.setIfInBounds_toArray, List.set_cons_zero, List.set_cons_succ]
                refine take_at (i := 10) 74 rfl rfl (by kernel_rfl) (by kernel_rfl) (by kernel_rfl) (fun _ _ _ h => h) (sure_yes (by rfl) (fun w => by go_simp; try with_reducible rfl)) hHeld ?_
                simp only [List.setIfInBounds_toArray, List.set_cons_zero, List.set_cons_succ]
                refine wpAnyH_done (by kernel_rfl) ?_ _
                have Z6 := Lib.hid hHeld
                clear hHeld
                rename World => W7
                have O6 := Lib.hid (own_belowM HO.out Z6.out)
                have B6 := Lib.hid (below_next HB.out Z6.out)
                go_upto_region 13 with fail
                go_upto_region 14 with (first
                  | (refine load_ev_on (by rfl) 30 (.tmp 3) rfl w.heap.size rfl (evAt_kept E1.out B6.out) Tryz.underlying30 evSize ?_)
                  | (refine build_evM rfl 77 rfl (.tmp 76) rfl W7.heap.size rfl e uo un uc rfl ?_; rintro Wa hEA hBA hNA; have EA := Lib.hid hEA; have BA := Lib.hid (below_next B6.out hBA); have OA := Lib.hid (own_belowM O6.out hBA); clear hEA hBA hNA)
                  | (at_builtin; refine append_evs rfl (.tmp 75) (.tmp 77) 22 rfl W1.heap.size 30 ie Tryz.underlying22 hie HIZ.out _ _ [(e, (.slice uo un uc))] rfl OA.out (fun q hq => by rw [List.mem_singleton.1 hq]; rfl) ⟨W7.heap.size, 0, none⟩ 1 1 rfl rfl (evAt_one EA.out) (by have := HVL.out; simp; omega) BA.out.size ?_; rintro v3 Wd ho hg; have BD := Lib.hid (below_grown BA.out hg BA.out.size (fun b hb => (OA.out.lt b hb).1)); have OD := Lib.hid ho; clear ho hg))
                go_upto_region 15 with fail
                go_upto_region 10 with (first
                  | (refine load_evA_on (by rfl) 30 (.tmp 82) rfl (ad.add (k * 38)) rfl Tryz.underlying30 evSize (fun j u hu => cell_under12 (CF1.out j u hu) BD.out) ?_)
                  | (refine build_evM rfl 84 rfl (.tmp 83) rfl Wd.heap.size rfl f fo fn fc rfl ?_; rintro Wb hEA hBA hNA; have EA := Lib.hid hEA; have BB := Lib.hid (below_next BD.out hBA); have OB := Lib.hid (own_belowM OD.out hBA); clear hEA hBA hNA)
                  | (at_builtin; refine append_evs rfl (.tmp 79) (.tmp 84) 22 rfl W1.heap.size 30 ie Tryz.underlying22 hie HIZ.out _ _ [(f, (.slice fo fn fc))] rfl OB.out (fun q hq => by rw [List.mem_singleton.1 hq]; rfl) ⟨Wd.heap.size, 0, none⟩ 1 1 rfl rfl (evAt_one EA.out) (by have := HVL.out; simp; omega) BB.out.size ?_; rintro v3 Wc ho hg; have BC := Lib.hid (below_grown BB.out hg BB.out.size (fun b hb => (OB.out.lt b hb).1)); have OC := Lib.hid ho; clear ho hg))
                go_wp2
                go_roundw
                case rel => exact ⟨k + 1, _, hk1, by go_num, by rw [HKP.out, (acc_new HAN.out HAB.out).2], OC.out, by rw [List.map_append, HKP.out, (acc_new HAN.out HAB.out).1, List.map_append, HVM.out]; rfl, mem_snocU (mem_snocU HIN.out (.inr rfl)) (.inl HMX.out), by have := HVK.out; simp; omega, BC.out⟩
                case measure => simp [intOf] <;> omega
              · have q8 : decide (c > 0) = false := by simp; omega
                have HAB := Lib.hid (show aboveE e f = false by unfold aboveE; rw [HC.out]; exact decide_eq_false hc0)
                go_upto_region 12 with fail
                refine wp_region_held_drew (S := fun w' => Below wr.heap.size wr w') (by kernel_rfl) (drawS Z5.out) (fun hHeld => ?_)
                generalize W5.drew = wd at hHeld ⊢
                refine take_at (i := 0) 64 rfl rfl (by kernel_rfl) (by kernel_rfl) (by kernel_rfl) (fun _ _ _ h => h) (sure_yes (by rfl) (fun w => by go_simp; try with_reducible rfl)) hHeld ?_
                simp only [List.setIfInBounds_toArray, List.set_cons_zero, List.set_cons_succ]
                refine take_at (i := 1) 65 rfl rfl (by kernel_rfl) (by kernel_rfl) (by kernel_rfl) (fun _ _ _ h => h) (sure_yes (by rfl) (fun w => by go_simp; try with_reducible rfl)) hHeld ?_
                simp only [List.setIfInBounds_toArray, List.set_cons_zero, List.set_cons_succ]
                refine take_at (i := 2) 66 rfl rfl (by kernel_rfl) (by kernel_rfl) (by kernel_rfl) (fun _ _ _ h => h) (sure_yes (by rfl) (fun w => by go_simp; try with_reducible rfl)) hHeld ?_
                simp only [List.setIfInBounds_toArray, List.set_cons_zero, List.set_cons_succ]
                refine take_at (i := 3) 67 rfl rfl (by kernel_rfl) (by kernel_rfl) (by kernel_rfl) (fun _ _ _ h => h) (sure_yes (by rfl) (fun w => by go_simp; try with_reducible rfl)) hHeld ?_
                simp only [List.setIfInBounds_toArray, List.set_cons_zero, List.set_cons_succ]
                refine take_at (i := 4) 68 rfl rfl (by kernel_rfl) (by kernel_rfl) (by kernel_rfl) (fun _ _ _ h => h) (sure_yes (by rfl) (fun w => by go_simp; try with_reducible rfl)) hHeld ?_
                simp only [List.setIfInBounds_toArray, List.set_cons_zero, List.set_cons_succ]
                refine take_at (i := 5) 69 rfl rfl (by kernel_rfl) (by kernel_rfl) (by kernel_rfl) (fun _ _ _ h => h) (sure_yes (by rfl) (fun w => by go_simp; try with_reducible rfl)) hHeld ?_
                simp only [List.setIfInBounds_toArray, List.set_cons_zero, List.set_cons_succ]
                refine take_at (i := 6) 70 rfl rfl (by kernel_rfl) (by kernel_rfl) (by kernel_rfl) (fun _ _ _ h => h) (evA_yields (by rfl) 30 (.tmp 69) rfl (ad.add (k * 38)) rfl Tryz.underlying30 evSize (fun w h j u hu => cell_under12 (CF.out j u hu) h)) hHeld ?_
                simp only [List.setIfInBounds_toArray, List.set_cons_zero, List.set_cons_succ]
                refine take_at (i := 7) 71 rfl rfl (by kernel_rfl) (by kernel_rfl) (by kernel_rfl) (fun _ _ _ h => h) (evA_yields (by rfl) 30 (.tmp 3) rfl ⟨w.heap.size, 0, none⟩ rfl Tryz.underlying30 evSize (fun w h j u hu => cell_under12 (by rw [Addr.add_lit, Nat.zero_add]; exact evAt_cell E2.out j u hu) h)) hHeld ?_
                simp only [List.setIfInBounds_toArray, List.set_cons_zero, List.set_cons_succ]
                refine ready_call2 8 72 (by kernel_rfl) rfl rfl (by rfl) 40 (.tmp 70) (.tmp 71) 30 30 rfl (.agg (evC f (.slice fo fn fc))) (.agg (evC e (.slice uo un uc))) rfl rfl (enters_of Tryz.func40 (by kernel_rfl) rfl) _ (CM.out _) (fun x wz hp => ?_)
                obtain ⟨rfl, hb⟩ := hp
                refine ⟨_, rfl, below_next hHeld hb, ?_⟩
                replace hHeld := below_next hHeld hb
                clear hb
                simp only [List.setIfInBounds_toArray, List.set_cons_zero, List.set_cons_succ]
                refine take_at (i := 9) 73 rfl rfl (by kernel_rfl) (by kernel_rfl) (by kernel_rfl) (fun _ _ _ h => h) (sure_yes (by rfl) (fun w => by go_simp; try with_reducible rfl)) hHeld ?_
                simp only [List.setIfInBounds_toArray, List.set_cons_zero, List.set_cons_succ]
                refine take_at (i := 10) 74 rfl rfl (by kernel_rfl) (by kernel_rfl) (by kernel_rfl) (fun _ _ _ h => h) (sure_yes (by rfl) (fun w => by go_simp; try with_reducible rfl)) hHeld ?_
                simp only [List.setIfInBounds_toArray, List.set_cons_zero, List.set_cons_succ]
                refine wpAnyH_done (by kernel_rfl) ?_ _
                have Z6 := Lib.hid hHeld
                clear hHeld
                rename World => W7
                have O6 := Lib.hid (own_belowM HO.out Z6.out)
                have B6 := Lib.hid (below_next HB.out Z6.out)
                go_upto_region 15 with fail
                go_upto_region 10 with (first
                  | (refine load_evA_on (by rfl) 30 (.tmp 82) rfl (ad.add (k * 38)) rfl Tryz.underlying30 evSize (fun j u hu => cell_under12 (CF1.out j u hu) B6.out) ?_)
                  | (refine build_evM rfl 84 rfl (.tmp 83) rfl W7.heap.size rfl f fo fn fc rfl ?_; rintro Wb hEA hBA hNA; have EA := Lib.hid hEA; have BB := Lib.hid (below_next B6.out hBA); have OB := Lib.hid (own_belowM O6.out hBA); clear hEA hBA hNA)
                  | (at_builtin; refine append_evs rfl (.tmp 79) (.tmp 84) 22 rfl W1.heap.size 30 ie Tryz.underlying22 hie HIZ.out _ _ [(f, (.slice fo fn fc))] rfl OB.out (fun q hq => by rw [List.mem_singleton.1 hq]; rfl) ⟨W7.heap.size, 0, none⟩ 1 1 rfl rfl (evAt_one EA.out) (by have := HVL.out; simp; omega) BB.out.size ?_; rintro v3 Wc ho hg; have BC := Lib.hid (below_grown BB.out hg BB.out.size (fun b hb => (OB.out.lt b hb).1)); have OC := Lib.hid ho; clear ho hg))
                go_wp2
                go_roundw
                case rel => exact ⟨k + 1, _, hk1, by go_num, by rw [HKP.out, (acc_low HAN.out HAB.out).2], OC.out, by rw [List.map_append, HKP.out, (acc_low HAN.out HAB.out).1, HVM.out]; rfl, mem_snocU (HIN.out) (.inl HMX.out), by have := HVL.out; simp; omega, BC.out⟩
                case measure => simp [intOf] <;> omega
          | true =>
            have hpe : f.path = e.path := by simpa using hp
            obtain ⟨kn, hkn2⟩ : ∃ b, hasV e.deps f.r f.q = b := ⟨_, rfl⟩
            have HOU := Lib.hid (show outE e f = kn by unfold outE knE; rw [hp, hkn2]; simp)
            rw [hkn2] at KN
            clear hkn2
            go_upto_region 11 with fail
            cases kn with
            | true =>
              have HKP := Lib.hid (kept_out HFK.out HOU.out)
              refine wp_region_held_drew (S := fun w' => Below wr.heap.size wr w') (by kernel_rfl) (drawS (Below.refl _ _)) (fun hHeld => ?_)
              generalize wr.drew = wd at hHeld ⊢
              refine take_at (i := 0) 48 rfl rfl (by kernel_rfl) (by kernel_rfl) (by kernel_rfl) (fun _ _ _ h => h) (sure_yes (by rfl) (fun w => by go_simp; try with_reducible rfl)) hHeld ?_
              simp only [List.setIfInBounds_toArray, List.set_cons_zero, List.set_cons_succ]
              refine take_at (i := 1) 49 rfl rfl (by kernel_rfl) (by kernel_rfl) (by kernel_rfl) (fun _ _ _ h => h) (sure_yes (by rfl) (fun w => by go_simp; try with_reducible rfl)) hHeld ?_
              simp only [List.setIfInBounds_toArray, List.set_cons_zero, List.set_cons_succ]
              refine take_at (i := 2) 50 rfl rfl (by kernel_rfl) (by kernel_rfl) (by kernel_rfl) (fun _ _ _ h => h) (sure_yes (by rfl) (fun w => by go_simp; try with_reducible rfl)) hHeld ?_
              simp only [List.setIfInBounds_toArray, List.set_cons_zero, List.set_cons_succ]
              refine take_at (i := 3) 51 rfl rfl (by kernel_rfl) (by kernel_rfl) (by kernel_rfl) (fun _ _ _ h => h) (sure_yes (by rfl) (fun w => by go_simp; try with_reducible rfl)) hHeld ?_
              simp only [List.setIfInBounds_toArray, List.set_cons_zero, List.set_cons_succ]
              refine take_at (i := 5) 53 rfl rfl (by kernel_rfl) (by kernel_rfl) (by kernel_rfl) (fun _ _ _ h => h) (sure_yes (by rfl) (fun w => by go_simp; try with_reducible rfl)) hHeld ?_
              simp only [List.setIfInBounds_toArray, List.set_cons_zero, List.set_cons_succ]
              refine take_at (i := 4) 52 rfl rfl (by kernel_rfl) (by kernel_rfl) (by kernel_rfl) (fun _ _ _ h => h) (str_yields12 (by rfl) 9 (.tmp 51) rfl ⟨(ad.add (k * 38)).block, (ad.add (k * 38)).off + 4, none⟩ rfl (str f.path) Tryz.underlying9 (fun w h => cell_under12 (ev_fieldM CF.out 4 (by decide) _ (evC_at _ _).2.2.2.2.1) h)) hHeld ?_
              simp only [List.setIfInBounds_toArray, List.set_cons_zero, List.set_cons_succ]
              refine take_at (i := 6) 54 rfl rfl (by kernel_rfl) (by kernel_rfl) (by kernel_rfl) (fun _ _ _ h => h) (str_yields12 (by rfl) 9 (.tmp 53) rfl ⟨w.heap.size, 4, none⟩ rfl (str e.path) Tryz.underlying9 (fun w h => cell_under12 (evAt_cells E2.out).2.2.2.2.1 h)) hHeld ?_
              simp only [List.setIfInBounds_toArray, List.set_cons_zero, List.set_cons_succ]
              refine take_at (i := 7) 55 rfl rfl (by kernel_rfl) (by kernel_rfl) (by kernel_rfl) (fun _ _ _ h => h) (sure_yes (by rfl) (fun w => by go_simp; try with_reducible rfl)) hHeld ?_
              simp only [List.setIfInBounds_toArray, List.set_cons_zero, List.set_cons_succ]
              refine take_at (i := 8) 56 rfl rfl (by kernel_rfl) (by kernel_rfl) (by kernel_rfl) (fun _ _ _ h => h) (sure_yes (by rfl) (fun w => by go_simp; try with_reducible rfl)) hHeld ?_
              simp only [List.setIfInBounds_toArray, List.set_cons_zero, List.set_cons_succ]
              refine take_at (i := 10) 58 rfl rfl (by kernel_rfl) (by kernel_rfl) (by kernel_rfl) (fun _ _ _ h => h) (sure_yes (by rfl) (fun w => by go_simp; try with_reducible rfl)) hHeld ?_
              simp only [List.setIfInBounds_toArray, List.set_cons_zero, List.set_cons_succ]
              refine take_at (i := 11) 59 rfl rfl (by kernel_rfl) (by kernel_rfl) (by kernel_rfl) (fun _ _ _ h => h) (sure_yes (by rfl) (fun w => by go_simp; try with_reducible rfl)) hHeld ?_
              simp only [List.setIfInBounds_toArray, List.set_cons_zero, List.set_cons_succ]
              refine take_at (i := 12) 60 rfl rfl (by kernel_rfl) (by kernel_rfl) (by kernel_rfl) (fun _ _ _ h => h) (sure_yes (by rfl) (fun w => by go_simp; try with_reducible rfl)) hHeld ?_
              simp only [List.setIfInBounds_toArray, List.set_cons_zero, List.set_cons_succ]
              refine take_at (i := 9) 57 rfl rfl (by kernel_rfl) (by kernel_rfl) (by kernel_rfl) (fun _ _ _ h => h) (evA_yields (by rfl) 30 (.tmp 3) rfl ⟨w.heap.size, 0, none⟩ rfl Tryz.underlying30 evSize (fun w h j u hu => cell_under12 (by rw [Addr.add_lit, Nat.zero_add]; exact evAt_cell E2.out j u hu) h)) hHeld ?_
              simp only [List.setIfInBounds_toArray, List.set_cons_zero, List.set_cons_succ]
              refine take_at (i := 13) 61 rfl rfl (by kernel_rfl) (by kernel_rfl) (by kernel_rfl) (fun _ _ _ h => h) (evA_yields (by rfl) 30 (.tmp 60) rfl (ad.add (k * 38)) rfl Tryz.underlying30 evSize (fun w h j u hu => cell_under12 (CF.out j u hu) h)) hHeld ?_
              simp only [List.setIfInBounds_toArray, List.set_cons_zero, List.set_cons_succ]
              refine ready_call2 14 62 (by kernel_rfl) rfl rfl (by rfl) 41 (.tmp 57) (.tmp 61) 30 30 rfl (.agg (evC e (.slice uo un uc))) (.agg (evC f (.slice fo fn fc))) rfl rfl (enters_of Tryz.func41 (by kernel_rfl) rfl) _ (KN.out _ (dots_below HU1.out (below_next HB.out hHeld))) (fun x wz hp => ?_)
              obtain ⟨rfl, hb⟩ := hp
              refine ⟨_, rfl, below_next hHeld hb, ?_⟩
              replace hHeld := below_next hHeld hb
              clear hb
              simp only [List.setIfInBounds_toArray, List.set_cons_zero, List.set_cons_succ]
              refine take_at (i := 15) 63 rfl rfl (by kernel_rfl) (by kernel_rfl) (by kernel_rfl) (fun _ _ _ h => h) (sure_yes (by rfl) (fun w => by go_simp; try with_reducible rfl)) hHeld ?_
              simp only [List.setIfInBounds_toArray, List.set_cons_zero, List.set_cons_succ]
              refine wpAnyH_done (by kernel_rfl) ?_ _
              have Z := Lib.hid hHeld
              clear hHeld
              go_wp2
              go_roundw
              case rel => exact ⟨k + 1, vs, hk1, by go_num, by rw [HKP.out, HAN.out], own_belowM HO.out Z.out, by rw [HKP.out]; exact HVM.out, (fun z hz => HIN.out z hz), by have := HVL.out; omega, below_next HB.out Z.out⟩
              case measure => simp [intOf] <;> omega
            | false =>
              have HKP := Lib.hid (kept_in HFK.out HOU.out)
              refine wp_region_held_drew (S := fun w' => Below wr.heap.size wr w') (by kernel_rfl) (drawS (Below.refl _ _)) (fun hHeld => ?_)
              generalize wr.drew = wd at hHeld ⊢
              refine take_at (i := 0) 48 rfl rfl (by kernel_rfl) (by kernel_rfl) (by kernel_rfl) (fun _ _ _ h => h) (sure_yes (by rfl) (fun w => by go_simp; try with_reducible rfl)) hHeld ?_
              simp only [List.setIfInBounds_toArray, List.set_cons_zero, List.set_cons_succ]
              refine take_at (i := 1) 49 rfl rfl (by kernel_rfl) (by kernel_rfl) (by kernel_rfl) (fun _ _ _ h => h) (sure_yes (by rfl) (fun w => by go_simp; try with_reducible rfl)) hHeld ?_
              simp only [List.setIfInBounds_toArray, List.set_cons_zero, List.set_cons_succ]
              refine take_at (i := 2) 50 rfl rfl (by kernel_rfl) (by kernel_rfl) (by kernel_rfl) (fun _ _ _ h => h) (sure_yes (by rfl) (fun w => by go_simp; try with_reducible rfl)) hHeld ?_
              simp only [List.setIfInBounds_toArray, List.set_cons_zero, List.set_cons_succ]
              refine take_at (i := 3) 51 rfl rfl (by kernel_rfl) (by kernel_rfl) (by kernel_rfl) (fun _ _ _ h => h) (sure_yes (by rfl) (fun w => by go_simp; try with_reducible rfl)) hHeld ?_
              simp only [List.setIfInBounds_toArray, List.set_cons_zero, List.set_cons_succ]
              refine take_at (i := 5) 53 rfl rfl (by kernel_rfl) (by kernel_rfl) (by kernel_rfl) (fun _ _ _ h => h) (sure_yes (by rfl) (fun w => by go_simp; try with_reducible rfl)) hHeld ?_
              simp only [List.setIfInBounds_toArray, List.set_cons_zero, List.set_cons_succ]
              refine take_at (i := 4) 52 rfl rfl (by kernel_rfl) (by kernel_rfl) (by kernel_rfl) (fun _ _ _ h => h) (str_yields12 (by rfl) 9 (.tmp 51) rfl ⟨(ad.add (k * 38)).block, (ad.add (k * 38)).off + 4, none⟩ rfl (str f.path) Tryz.underlying9 (fun w h => cell_under12 (ev_fieldM CF.out 4 (by decide) _ (evC_at _ _).2.2.2.2.1) h)) hHeld ?_
              simp only [List.setIfInBounds_toArray, List.set_cons_zero, List.set_cons_succ]
              refine take_at (i := 6) 54 rfl rfl (by kernel_rfl) (by kernel_rfl) (by kernel_rfl) (fun _ _ _ h => h) (str_yields12 (by rfl) 9 (.tmp 53) rfl ⟨w.heap.size, 4, none⟩ rfl (str e.path) Tryz.underlying9 (fun w h => cell_under12 (evAt_cells E2.out).2.2.2.2.1 h)) hHeld ?_
              simp only [List.setIfInBounds_toArray, List.set_cons_zero, List.set_cons_succ]
              refine take_at (i := 7) 55 rfl rfl (by kernel_rfl) (by kernel_rfl) (by kernel_rfl) (fun _ _ _ h => h) (sure_yes (by rfl) (fun w => by go_simp; try with_reducible rfl)) hHeld ?_
              simp only [List.setIfInBounds_toArray, List.set_cons_zero, List.set_cons_succ]
              refine take_at (i := 8) 56 rfl rfl (by kernel_rfl) (by kernel_rfl) (by kernel_rfl) (fun _ _ _ h => h) (sure_yes (by rfl) (fun w => by go_simp; try with_reducible rfl)) hHeld ?_
              simp only [List.setIfInBounds_toArray, List.set_cons_zero, List.set_cons_succ]
              refine take_at (i := 10) 58 rfl rfl (by kernel_rfl) (by kernel_rfl) (by kernel_rfl) (fun _ _ _ h => h) (sure_yes (by rfl) (fun w => by go_simp; try with_reducible rfl)) hHeld ?_
              simp only [List.setIfInBounds_toArray, List.set_cons_zero, List.set_cons_succ]
              refine take_at (i := 11) 59 rfl rfl (by kernel_rfl) (by kernel_rfl) (by kernel_rfl) (fun _ _ _ h => h) (sure_yes (by rfl) (fun w => by go_simp; try with_reducible rfl)) hHeld ?_
              simp only [List.setIfInBounds_toArray, List.set_cons_zero, List.set_cons_succ]
              refine take_at (i := 12) 60 rfl rfl (by kernel_rfl) (by kernel_rfl) (by kernel_rfl) (fun _ _ _ h => h) (sure_yes (by rfl) (fun w => by go_simp; try with_reducible rfl)) hHeld ?_
              simp only [List.setIfInBounds_toArray, List.set_cons_zero, List.set_cons_succ]
              refine take_at (i := 9) 57 rfl rfl (by kernel_rfl) (by kernel_rfl) (by kernel_rfl) (fun _ _ _ h => h) (evA_yields (by rfl) 30 (.tmp 3) rfl ⟨w.heap.size, 0, none⟩ rfl Tryz.underlying30 evSize (fun w h j u hu => cell_under12 (by rw [Addr.add_lit, Nat.zero_add]; exact evAt_cell E2.out j u hu) h)) hHeld ?_
              simp only [List.setIfInBounds_toArray, List.set_cons_zero, List.set_cons_succ]
              refine take_at (i := 13) 61 rfl rfl (by kernel_rfl) (by kernel_rfl) (by kernel_rfl) (fun _ _ _ h => h) (evA_yields (by rfl) 30 (.tmp 60) rfl (ad.add (k * 38)) rfl Tryz.underlying30 evSize (fun w h j u hu => cell_under12 (CF.out j u hu) h)) hHeld ?_
              simp only [List.setIfInBounds_toArray, List.set_cons_zero, List.set_cons_succ]
              refine ready_call2 14 62 (by kernel_rfl) rfl rfl (by rfl) 41 (.tmp 57) (.tmp 61) 30 30 rfl (.agg (evC e (.slice uo un uc))) (.agg (evC f (.slice fo fn fc))) rfl rfl (enters_of Tryz.func41 (by kernel_rfl) rfl) _ (KN.out _ (dots_below HU1.out (below_next HB.out hHeld))) (fun x wz hp => ?_)
              obtain ⟨rfl, hb⟩ := hp
              refine ⟨_, rfl, below_next hHeld hb, ?_⟩
              replace hHeld := below_next hHeld hb
              clear hb
              simp only [List.setIfInBounds_toArray, List.set_cons_zero, List.set_cons_succ]
              refine take_at (i := 15) 63 rfl rfl (by kernel_rfl) (by kernel_rfl) (by kernel_rfl) (fun _ _ _ h => h) (sure_yes (by rfl) (fun w => by go_simp; try with_reducible rfl)) hHeld ?_
              simp only [List.setIfInBounds_toArray, List.set_cons_zero, List.set_cons_succ]
              refine wpAnyH_done (by kernel_rfl) ?_ _
              have Z5 := Lib.hid hHeld
              clear hHeld
              rename World => W5
              cases D with
              | true =>
                go_upto_region 12 with fail
                refine wp_region_held_drew (S := fun w' => Below wr.heap.size wr w') (by kernel_rfl) (drawS Z5.out) (fun hHeld => ?_)
                generalize W5.drew = wd at hHeld ⊢
                refine take_at (i := 0) 64 rfl rfl (by kernel_rfl) (by kernel_rfl) (by kernel_rfl) (fun _ _ _ h => h) (sure_yes (by rfl) (fun w => by go_simp; try with_reducible rfl)) hHeld ?_
                simp only [List.setIfInBounds_toArray, List.set_cons_zero, List.set_cons_succ]
                refine take_at (i := 1) 65 rfl rfl (by kernel_rfl) (by kernel_rfl) (by kernel_rfl) (fun _ _ _ h => h) (sure_yes (by rfl) (fun w => by go_simp; try with_reducible rfl)) hHeld ?_
                simp only [List.setIfInBounds_toArray, List.set_cons_zero, List.set_cons_succ]
                refine take_at (i := 2) 66 rfl rfl (by kernel_rfl) (by kernel_rfl) (by kernel_rfl) (fun _ _ _ h => h) (sure_yes (by rfl) (fun w => by go_simp; try with_reducible rfl)) hHeld ?_
                simp only [List.setIfInBounds_toArray, List.set_cons_zero, List.set_cons_succ]
                refine take_at (i := 3) 67 rfl rfl (by kernel_rfl) (by kernel_rfl) (by kernel_rfl) (fun _ _ _ h => h) (.inr ⟨by rfl, rfl⟩) hHeld ?_
                simp only [List.setIfInBounds_toArray, List.set_cons_zero, List.set_cons_succ]
                refine take_at (i := 4) 68 rfl rfl (by kernel_rfl) (by kernel_rfl) (by kernel_rfl) (fun _ _ _ h => h) (.inr ⟨by rfl, rfl⟩) hHeld ?_
                simp only [List.setIfInBounds_toArray, List.set_cons_zero, List.set_cons_succ]
                refine take_at (i := 5) 69 rfl rfl (by kernel_rfl) (by kernel_rfl) (by kernel_rfl) (fun _ _ _ h => h) (.inr ⟨by rfl, rfl⟩) hHeld ?_
                simp only [List.setIfInBounds_toArray, List.set_cons_zero, List.set_cons_succ]
                refine take_at (i := 6) 70 rfl rfl (by kernel_rfl) (by kernel_rfl) (by kernel_rfl) (fun _ _ _ h => h) (.inr ⟨by rfl, rfl⟩) hHeld ?_
                simp only [List.setIfInBounds_toArray, List.set_cons_zero, List.set_cons_succ]
                refine take_at (i := 7) 71 rfl rfl (by kernel_rfl) (by kernel_rfl) (by kernel_rfl) (fun _ _ _ h => h) (.inr ⟨by rfl, rfl⟩) hHeld ?_
                simp only [List.setIfInBounds_toArray, List.set_cons_zero, List.set_cons_succ]
                refine take_at (i := 8) 72 rfl rfl (by kernel_rfl) (by kernel_rfl) (by kernel_rfl) (fun _ _ _ h => h) (.inr ⟨by rfl, rfl⟩) hHeld ?_
                simp only [List.setIfInBounds_toArray, List.set_cons_zero, List.set_cons_succ]
                refine take_at (i := 9) 73 rfl rfl (by kernel_rfl) (by kernel_rfl) (by kernel_rfl) (fun _ _ _ h => h) (.inr ⟨by rfl, rfl⟩) hHeld ?_
                simp only [List.setIfInBounds_toArray, List.set_cons_zero, List.set_cons_succ]
                refine take_at (i := 10) 74 rfl rfl (by kernel_rfl) (by kernel_rfl) (by kernel_rfl) (fun _ _ _ h => h) (sure_yes (by rfl) (fun w => by go_simp; try with_reducible rfl)) hHeld ?_
                simp only [List.setIfInBounds_toArray, List.set_cons_zero, List.set_cons_succ]
                refine wpAnyH_done (by kernel_rfl) ?_ _
                have Z6 := Lib.hid hHeld
                clear hHeld
                rename World => W7
                have O6 := Lib.hid (own_belowM HO.out Z6.out)
                have B6 := Lib.hid (below_next HB.out Z6.out)
                go_upto_region 15 with fail
                go_upto_region 10 with (first
                  | (refine load_evA_on (by rfl) 30 (.tmp 82) rfl (ad.add (k * 38)) rfl Tryz.underlying30 evSize (fun j u hu => cell_under12 (CF1.out j u hu) B6.out) ?_)
                  | (refine build_evM rfl 84 rfl (.tmp 83) rfl W7.heap.size rfl f fo fn fc rfl ?_; rintro Wb hEA hBA hNA; have EA := Lib.hid hEA; have BB := Lib.hid (below_next B6.out hBA); have OB := Lib.hid (own_belowM O6.out hBA); clear hEA hBA hNA)
                  | (at_builtin; refine append_evs rfl (.tmp 79) (.tmp 84) 22 rfl W1.heap.size 30 ie Tryz.underlying22 hie HIZ.out _ _ [(f, (.slice fo fn fc))] rfl OB.out (fun q hq => by rw [List.mem_singleton.1 hq]; rfl) ⟨W7.heap.size, 0, none⟩ 1 1 rfl rfl (evAt_one EA.out) (by have := HVL.out; simp; omega) BB.out.size ?_; rintro v3 Wc ho hg; have BC := Lib.hid (below_grown BB.out hg BB.out.size (fun b hb => (OB.out.lt b hb).1)); have OC := Lib.hid ho; clear ho hg))
                go_wp2
                go_roundw
                case rel => exact ⟨k + 1, _, hk1, by go_num, by rw [HKP.out, (acc_done HAN.out).2], OC.out, by rw [List.map_append, HKP.out, (acc_done HAN.out).1, HVM.out]; rfl, mem_snocU (HIN.out) (.inl HMX.out), by have := HVL.out; simp; omega, BC.out⟩
                case measure => simp [intOf] <;> omega
              | false =>
                have HVK := Lib.hid (acc_len HAN.out HVM.out)
                obtain ⟨c, hc⟩ : ∃ c, cmpE f e = c := ⟨_, rfl⟩
                have HC := Lib.hid hc
                rw [hc] at CM
                clear hc
                by_cases hc0 : 0 < c
                · have q8 : decide (c > 0) = true := by simp; omega
                  have HAB := Lib.hid (show aboveE e f = true by unfold aboveE; rw [HC.out]; exact decide_eq_true hc0)
                  go_upto_region 12 with fail
                  refine wp_region_held_drew (S := fun w' => Below wr.heap.size wr w') (by kernel_rfl) (drawS Z5.out) (fun hHeld => ?_)
                  generalize W5.drew = wd at hHeld ⊢
                  refine take_at (i := 0) 64 rfl rfl (by kernel_rfl) (by kernel_rfl) (by kernel_rfl) (fun _ _ _ h => h) (sure_yes (by rfl) (fun w => by go_simp; try with_reducible rfl)) hHeld ?_
                  simp only [List.setIfInBounds_toArray, List.set_cons_zero, List.set_cons_succ]
                  refine take_at (i := 1) 65 rfl rfl (by kernel_rfl) (by kernel_rfl) (by kernel_rfl) (fun _ _ _ h => h) (sure_yes (by rfl) (fun w => by go_simp; try with_reducible rfl)) hHeld ?_
                  simp only [List.setIfInBounds_toArray, List.set_cons_zero, List.set_cons_succ]
                  refine take_at (i := 2) 66 rfl rfl (by kernel_rfl) (by kernel_rfl) (by kernel_rfl) (fun _ _ _ h => h) (sure_yes (by rfl) (fun w => by go_simp; try with_reducible rfl)) hHeld ?_
                  simp only [List.setIfInBounds_toArray, List.set_cons_zero, List.set_cons_succ]
                  refine take_at (i := 3) 67 rfl rfl (by kernel_rfl) (by kernel_rfl) (by kernel_rfl) (fun _ _ _ h => h) (sure_yes (by rfl) (fun w => by go_simp; try with_reducible rfl)) hHeld ?_
                  simp only [List.setIfInBounds_toArray, List.set_cons_zero, List.set_cons_succ]
                  refine take_at (i := 4) 68 rfl rfl (by kernel_rfl) (by kernel_rfl) (by kernel_rfl) (fun _ _ _ h => h) (sure_yes (by rfl) (fun w => by go_simp; try with_reducible rfl)) hHeld ?_
                  simp only [List.setIfInBounds_toArray, List.set_cons_zero, List.set_cons_succ]
                  refine take_at (i := 5) 69 rfl rfl (by kernel_rfl) (by kernel_rfl) (by kernel_rfl) (fun _ _ _ h => h) (sure_yes (by rfl) (fun w => by go_simp; try with_reducible rfl)) hHeld ?_
                  simp only [List.setIfInBounds_toArray, List.set_cons_zero, List.set_cons_succ]
                  refine take_at (i := 6) 70 rfl rfl (by kernel_rfl) (by kernel_rfl) (by kernel_rfl) (fun _ _ _ h => h) (evA_yields (by rfl) 30 (.tmp 69) rfl (ad.add (k * 38)) rfl Tryz.underlying30 evSize (fun w h j u hu => cell_under12 (CF.out j u hu) h)) hHeld ?_
                  simp only [List.setIfInBounds_toArray, List.set_cons_zero, List.set_cons_succ]
                  refine take_at (i := 7) 71 rfl rfl (by kernel_rfl) (by kernel_rfl) (by kernel_rfl) (fun _ _ _ h => h) (evA_yields (by rfl) 30 (.tmp 3) rfl ⟨w.heap.size, 0, none⟩ rfl Tryz.underlying30 evSize (fun w h j u hu => cell_under12 (by rw [Addr.add_lit, Nat.zero_add]; exact evAt_cell E2.out j u hu) h)) hHeld ?_
                  simp only [List.setIfInBounds_toArray, List.set_cons_zero, List.set_cons_succ]
                  refine ready_call2 8 72 (by kernel_rfl) rfl rfl (by rfl) 40 (.tmp 70) (.tmp 71) 30 30 rfl (.agg (evC f (.slice fo fn fc))) (.agg (evC e (.slice uo un uc))) rfl rfl (enters_of Tryz.func40 (by kernel_rfl) rfl) _ (CM.out _) (fun x wz hp => ?_)
                  obtain ⟨rfl, hb⟩ := hp
                  refine ⟨_, rfl, below_next hHeld hb, ?_⟩
                  replace hHeld := below_next hHeld hb
                  clear hb
                  simp only [List.setIfInBounds_toArray, List.set_cons_zero, List.set_cons_succ]
                  refine take_at (i := 9) 73 rfl rfl (by kernel_rfl) (by kernel_rfl) (by kernel_rfl) (fun _ _ _ h => h) (sure_yes (by rfl) (fun w => by go_simp; try with_reducible rfl)) hHeld ?_
                  simp only [List.setIfInBounds_toArray, List.set_cons_zero, List.set_cons_succ]
                  refine take_at (i := 10) 74 rfl rfl (by kernel_rfl) (by kernel_rfl) (by kernel_rfl) (fun _ _ _ h => h) (sure_yes (by rfl) (fun w => by go_simp; try with_reducible rfl)) hHeld ?_
                  simp only [List.setIfInBounds_toArray, List.set_cons_zero, List.set_cons_succ]
                  refine wpAnyH_done (by kernel_rfl) ?_ _
                  have Z6 := Lib.hid hHeld
                  clear hHeld
                  rename World => W7
                  have O6 := Lib.hid (own_belowM HO.out Z6.out)
                  have B6 := Lib.hid (below_next HB.out Z6.out)
                  go_upto_region 13 with fail
                  go_upto_region 14 with (first
                    | (refine load_ev_on (by rfl) 30 (.tmp 3) rfl w.heap.size rfl (evAt_kept E1.out B6.out) Tryz.underlying30 evSize ?_)
                    | (refine build_evM rfl 77 rfl (.tmp 76) rfl W7.heap.size rfl e uo un uc rfl ?_; rintro Wa hEA hBA hNA; have EA := Lib.hid hEA; have BA := Lib.hid (below_next B6.out hBA); have OA := Lib.hid (own_belowM O6.out hBA); clear hEA hBA hNA)
                    | (at_builtin; refine append_evs rfl (.tmp 75) (.tmp 77) 22 rfl W1.heap.size 30 ie Tryz.underlying22 hie HIZ.out _ _ [(e, (.slice uo un uc))] rfl OA.out (fun q hq => by rw [List.mem_singleton.1 hq]; rfl) ⟨W7.heap.size, 0, none⟩ 1 1 rfl rfl (evAt_one EA.out) (by have := HVL.out; simp; omega) BA.out.size ?_; rintro v3 Wd ho hg; have BD := Lib.hid (below_grown BA.out hg BA.out.size (fun b hb => (OA.out.lt b hb).1)); have OD := Lib.hid ho; clear ho hg))
                  go_upto_region 15 with fail
                  go_upto_region 10 with (first
                    | (refine load_evA_on (by rfl) 30 (.tmp 82) rfl (ad.add (k * 38)) rfl Tryz.underlying30 evSize (fun j u hu => cell_under12 (CF1.out j u hu) BD.out) ?_)
                    | (refine build_evM rfl 84 rfl (.tmp 83) rfl Wd.heap.size rfl f fo fn fc rfl ?_; rintro Wb hEA hBA hNA; have EA := Lib.hid hEA; have BB := Lib.hid (below_next BD.out hBA); have OB := Lib.hid (own_belowM OD.out hBA); clear hEA hBA hNA)
                    | (at_builtin; refine append_evs rfl (.tmp 79) (.tmp 84) 22 rfl W1.heap.size 30 ie Tryz.underlying22 hie HIZ.out _ _ [(f, (.slice fo fn fc))] rfl OB.out (fun q hq => by rw [List.mem_singleton.1 hq]; rfl) ⟨Wd.heap.size, 0, none⟩ 1 1 rfl rfl (evAt_one EA.out) (by have := HVL.out; simp; omega) BB.out.size ?_; rintro v3 Wc ho hg; have BC := Lib.hid (below_grown BB.out hg BB.out.size (fun b hb => (OB.out.lt b hb).1)); have OC := Lib.hid ho; clear ho hg))
                  go_wp2
                  go_roundw
                  case rel => exact ⟨k + 1, _, hk1, by go_num, by rw [HKP.out, (acc_new HAN.out HAB.out).2], OC.out, by rw [List.map_append, HKP.out, (acc_new HAN.out HAB.out).1, List.map_append, HVM.out]; rfl, mem_snocU (mem_snocU HIN.out (.inr rfl)) (.inl HMX.out), by have := HVK.out; simp; omega, BC.out⟩
                  case measure => simp [intOf] <;> omega
                · have q8 : decide (c > 0) = false := by simp; omega
                  have HAB := Lib.hid (show aboveE e f = false by unfold aboveE; rw [HC.out]; exact decide_eq_false hc0)
                  go_upto_region 12 with fail
                  refine wp_region_held_drew (S := fun w' => Below wr.heap.size wr w') (by kernel_rfl) (drawS Z5.out) (fun hHeld => ?_)
                  generalize W5.drew = wd at hHeld ⊢
                  refine take_at (i := 0) 64 rfl rfl (by kernel_rfl) (by kernel_rfl) (by kernel_rfl) (fun _ _ _ h => h) (sure_yes (by rfl) (fun w => by go_simp; try with_reducible rfl)) hHeld ?_
                  simp only [List.setIfInBounds_toArray, List.set_cons_zero, List.set_cons_succ]
                  refine take_at (i := 1) 65 rfl rfl (by kernel_rfl) (by kernel_rfl) (by kernel_rfl) (fun _ _ _ h => h) (sure_yes (by rfl) (fun w => by go_simp; try with_reducible rfl)) hHeld ?_
                  simp only [List.setIfInBounds_toArray, List.set_cons_zero, List.set_cons_succ]
                  refine take_at (i := 2) 66 rfl rfl (by kernel_rfl) (by kernel_rfl) (by kernel_rfl) (fun _ _ _ h => h) (sure_yes (by rfl) (fun w => by go_simp; try with_reducible rfl)) hHeld ?_
                  simp only [List.setIfInBounds_toArray, List.set_cons_zero, List.set_cons_succ]
                  refine take_at (i := 3) 67 rfl rfl (by kernel_rfl) (by kernel_rfl) (by kernel_rfl) (fun _ _ _ h => h) (sure_yes (by rfl) (fun w => by go_simp; try with_reducible rfl)) hHeld ?_
                  simp only [List.setIfInBounds_toArray, List.set_cons_zero, List.set_cons_succ]
                  refine take_at (i := 4) 68 rfl rfl (by kernel_rfl) (by kernel_rfl) (by kernel_rfl) (fun _ _ _ h => h) (sure_yes (by rfl) (fun w => by go_simp; try with_reducible rfl)) hHeld ?_
                  simp only [List.setIfInBounds_toArray, List.set_cons_zero, List.set_cons_succ]
                  refine take_at (i := 5) 69 rfl rfl (by kernel_rfl) (by kernel_rfl) (by kernel_rfl) (fun _ _ _ h => h) (sure_yes (by rfl) (fun w => by go_simp; try with_reducible rfl)) hHeld ?_
                  simp only [List.setIfInBounds_toArray, List.set_cons_zero, List.set_cons_succ]
                  refine take_at (i := 6) 70 rfl rfl (by kernel_rfl) (by kernel_rfl) (by kernel_rfl) (fun _ _ _ h => h) (evA_yields (by rfl) 30 (.tmp 69) rfl (ad.add (k * 38)) rfl Tryz.underlying30 evSize (fun w h j u hu => cell_under12 (CF.out j u hu) h)) hHeld ?_
                  simp only [List.setIfInBounds_toArray, List.set_cons_zero, List.set_cons_succ]
                  refine take_at (i := 7) 71 rfl rfl (by kernel_rfl) (by kernel_rfl) (by kernel_rfl) (fun _ _ _ h => h) (evA_yields (by rfl) 30 (.tmp 3) rfl ⟨w.heap.size, 0, none⟩ rfl Tryz.underlying30 evSize (fun w h j u hu => cell_under12 (by rw [Addr.add_lit, Nat.zero_add]; exact evAt_cell E2.out j u hu) h)) hHeld ?_
                  simp only [List.setIfInBounds_toArray, List.set_cons_zero, List.set_cons_succ]
                  refine ready_call2 8 72 (by kernel_rfl) rfl rfl (by rfl) 40 (.tmp 70) (.tmp 71) 30 30 rfl (.agg (evC f (.slice fo fn fc))) (.agg (evC e (.slice uo un uc))) rfl rfl (enters_of Tryz.func40 (by kernel_rfl) rfl) _ (CM.out _) (fun x wz hp => ?_)
                  obtain ⟨rfl, hb⟩ := hp
                  refine ⟨_, rfl, below_next hHeld hb, ?_⟩
                  replace hHeld := below_next hHeld hb
                  clear hb
                  simp only [List.setIfInBounds_toArray, List.set_cons_zero, List.set_cons_succ]
                  refine take_at (i := 9) 73 rfl rfl (by kernel_rfl) (by kernel_rfl) (by kernel_rfl) (fun _ _ _ h => h) (sure_yes (by rfl) (fun w => by go_simp; try with_reducible rfl)) hHeld ?_
                  simp only [List.setIfInBounds_toArray, List.set_cons_zero, List.set_cons_succ]
                  refine take_at (i := 10) 74 rfl rfl (by kernel_rfl) (by kernel_rfl) (by kernel_rfl) (fun _ _ _ h => h) (sure_yes (by rfl) (fun w => by go_simp; try with_reducible rfl)) hHeld ?_
                  simp only [List.setIfInBounds_toArray, List.set_cons_zero, List.set_cons_succ]
                  refine wpAnyH_done (by kernel_rfl) ?_ _
                  have Z6 := Lib.hid hHeld
                  clear hHeld
                  rename World => W7
                  have O6 := Lib.hid (own_belowM HO.out Z6.out)
                  have B6 := Lib.hid (below_next HB.out Z6.out)
                  go_upto_region 15 with fail
                  go_upto_region 10 with (first
                    | (refine load_evA_on (by rfl) 30 (.tmp 82) rfl (ad.add (k * 38)) rfl Tryz.underlying30 evSize (fun j u hu => cell_under12 (CF1.out j u hu) B6.out) ?_)
                    | (refine build_evM rfl 84 rfl (.tmp 83) rfl W7.heap.size rfl f fo fn fc rfl ?_; rintro Wb hEA hBA hNA; have EA := Lib.hid hEA; have BB := Lib.hid (below_next B6.out hBA); have OB := Lib.hid (own_belowM O6.out hBA); clear hEA hBA hNA)
                    | (at_builtin; refine append_evs rfl (.tmp 79) (.tmp 84) 22 rfl W1.heap.size 30 ie Tryz.underlying22 hie HIZ.out _ _ [(f, (.slice fo fn fc))] rfl OB.out (fun q hq => by rw [List.mem_singleton.1 hq]; rfl) ⟨W7.heap.size, 0, none⟩ 1 1 rfl rfl (evAt_one EA.out) (by have := HVL.out; simp; omega) BB.out.size ?_; rintro v3 Wc ho hg; have BC := Lib.hid (below_grown BB.out hg BB.out.size (fun b hb => (OB.out.lt b hb).1)); have OC := Lib.hid ho; clear ho hg))
                  go_wp2
                  go_roundw
                  case rel => exact ⟨k + 1, _, hk1, by go_num, by rw [HKP.out, (acc_low HAN.out HAB.out).2], OC.out, by rw [List.map_append, HKP.out, (acc_low HAN.out HAB.out).1, HVM.out]; rfl, mem_snocU (HIN.out) (.inl HMX.out), by have := HVL.out; simp; omega, BC.out⟩
                  case measure => simp [intOf] <;> omega
        · obtain rfl : k = i := by omega
          have q0 : ¬ (k : Int) < (k : Int) := by omega
          have HKA := Lib.hid (kept_all (e := e) HNL.out)
          cases D with
          | true =>
            go_wp2
            go_ret
            exact ⟨_, rfl, vs, own_holds HO.out, by rw [HVM.out, HNH.out, ← HKA.out]; unfold accE; rw [if_pos HAN.out], (fun a b h => by have := HIN.out (a, b) h; simpa using this), by have := HVL.out; have := HN.out; omega, below_next BW1.out HB.out⟩
          | false =>
            go_upto_region 17 with fail
            go_upto_region 18 with (first
              | (refine load_ev_on (by rfl) 30 (.tmp 3) rfl w.heap.size rfl (evAt_kept E1.out HB.out) Tryz.underlying30 evSize ?_)
              | (refine build_evM rfl 90 rfl (.tmp 89) rfl wr.heap.size rfl e uo un uc rfl ?_; rintro Wb hEA hBA hNA; have EA := Lib.hid hEA; have BB := Lib.hid (below_next HB.out hBA); have OB := Lib.hid (own_belowM HO.out hBA); clear hEA hBA hNA)
              | (at_builtin; refine append_evs rfl (.tmp 88) (.tmp 90) 22 rfl W1.heap.size 30 ie Tryz.underlying22 hie HIZ.out _ _ [(e, (.slice uo un uc))] rfl OB.out (fun q hq => by rw [List.mem_singleton.1 hq]; rfl) ⟨wr.heap.size, 0, none⟩ 1 1 rfl rfl (evAt_one EA.out) (by have := HVL.out; simp; omega) BB.out.size ?_; rintro v3 Wc ho hg; have BC := Lib.hid (below_grown BB.out hg BB.out.size (fun b hb => (OB.out.lt b hb).1)); have OC := Lib.hid ho; clear ho hg))
            go_wp2
            go_ret
            refine ⟨_, rfl, _, own_holds OC.out, ?_, ?_, by have := acc_len HAN.out HVM.out; have := HN.out; simp; omega, below_next BW1.out BC.out⟩
            · rw [List.map_append, HVM.out, HNH.out, ← HKA.out, insE_none HAN.out]; unfold accE; rw [if_neg (by rw [HAN.out]; simp)]; rfl
            · intro a b hz; have := mem_snocU HIN.out (.inr rfl) (a, b) hz; simpa using this
end Go.Proofs.YtcdjkjadbhejpaaGreatDoor
