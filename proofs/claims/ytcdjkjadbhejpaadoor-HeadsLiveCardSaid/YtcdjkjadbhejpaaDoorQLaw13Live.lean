/-
The walk of the statement on an event that is added.
-/
import Derived.Test.YtcdjkjadbhejpaaDoorPk8
namespace Go.Proofs.YtcdjkjadbhejpaaDoor
open Go.RowKit
theorem eql_dotsL {r q r' q' : Int} {b : Bool} (hb : b = (decide (r = r') && decide (q = q'))) : ∀ w, (binOp .eql 24 (.agg #[.int .i64 r, .int .i64 q]) (.agg #[.int .i64 r', .int .i64 q'])).run Tryd.prog w = .ok (.bool b) w := fun w => by
  subst hb
  go_simp; by_cases h1 : r = r' <;> by_cases h2 : q = q' <;> simp_all
theorem live_found (h : List Ev) (e : Ev) : (addE h e).any (hitE e) = true := by
  cases hh : h.any (hitE e) with
  | true => rw [addE_hit hh]; exact hh
  | false =>
    rw [addE_no hh]
    exact List.any_eq_true.2 ⟨e, (insE_mem _ _ _).2 (.inl rfl), (hitE_iff e e).2 ⟨rfl, .inl ((dotE_iff e e).2 ⟨rfl, rfl⟩)⟩⟩
def elseE (e : Ev) (f : Ev) : Bool := !(f.path == e.path)
theorem ins_else (l : List Ev) (e : Ev) : (insE l e).filter (elseE e) = l.filter (elseE e) := by
  have he : elseE e e = false := by simp [elseE]
  induction l with
  | nil => simp [insE, he]
  | cons f l ih =>
    rw [insE_cons]
    split
    · rw [List.filter_cons, he]; simp
    · rw [List.filter_cons, List.filter_cons, ih]
theorem live_else (h : List Ev) (e : Ev) : (addE h e).filter (elseE e) = h.filter (elseE e) := by
  cases hh : h.any (hitE e) with
  | true => rw [addE_hit hh]
  | false =>
    rw [addE_no hh, ins_else, List.filter_filter]
    congr 1
    funext f
    unfold elseE outE
    cases f.path == e.path <;> simp
theorem live_count (h : List Ev) (e : Ev) : (addE h e).length = (h.filter (elseE e)).length + (grpE (addE h e) e.path).length := by
  rw [← live_else]
  unfold grpE elseE
  generalize addE h e = X
  induction X with
  | nil => rfl
  | cons f l ih =>
    rw [List.filter_cons, List.filter_cons]
    cases f.path == e.path <;> simp <;> omega
theorem live_other {h : List Ev} {e f : Ev} (hf : f ∈ h) (hp : f.path ≠ e.path) : (grpE (addE h e) f.path).any (fun g => sameEv g f) = true := by
  have hq : elseE e f = true := by simp [elseE, hp]
  have h1 : f ∈ (addE h e).filter (elseE e) := by rw [live_else]; exact List.mem_filter.2 ⟨hf, hq⟩
  exact List.any_eq_true.2 ⟨f, List.mem_filter.2 ⟨mem_flt h1, by simp⟩, sameEv_self f⟩
theorem any_take {p : Ev → Bool} {l : List Ev} {i : Nat} {f : Ev} (hf : l[i]? = some f) : (l.take (i + 1)).any p = ((l.take i).any p || p f) := by
  rw [List.take_add_one, hf, List.any_append]; simp
theorem else_take {e : Ev} {l : List Ev} {i : Nat} {f : Ev} (hf : l[i]? = some f) : ((l.take (i + 1)).filter (elseE e)).length = ((l.take i).filter (elseE e)).length + (if elseE e f then 1 else 0) := by
  rw [List.take_add_one, hf, List.filter_append, List.length_append]
  cases h : elseE e f <;> simp [h]
theorem evs_shapeL {w : World} {v : Value} {S : List Ev} (h : HasEvs w v S) : ∃ ao cap, v = .slice ao S.length cap := by
  obtain ⟨us, h1, h2, h3⟩ := u_of_evs h
  exact holdsU_shape h3 _ (by rw [← h1, List.length_map])
set_option maxRecDepth 100000 in
set_option maxHeartbeats 16000000 in
theorem headsLive_walk (us : List (Ev × Value)) (hf : WideU us) (e : Ev) (hI1 : I64 e.r) (hI2 : I64 e.q) (hp : e.path.length < 1152921504606846976) (v u : Value) (w : World) (hv : HoldsU w v us) (hd : DepsU w us) (hu : HasDots w u e.deps) (hT : PowTab w) : Calls Tryd.prog 3 #[v, .agg (evC e u)] w fun x w' => x = .returned (.bool true) ∧ Below w.heap.size w w' := by
  have h0 := (Below.refl w.heap.size w).alloc (Nat.le_refl _) (.cells (evC e u) 30 (0, 0))
  have E0 := Lib.hid (box_ev w 30 e u)
  have B0 := Lib.hid h0
  have HT := Lib.hid hT
  have HV := Lib.hid (holdsU_below hv h0)
  have HD := Lib.hid (depsU_below hd h0)
  have HU := Lib.hid (dots_below hu h0)
  have HF := Lib.hid hf
  have HI := Lib.hid (show I64 e.r ∧ I64 e.q ∧ e.path.length < 1152921504606846976 from ⟨hI1, hI2, hp⟩)
  obtain ⟨n, hn⟩ : ∃ n, n = us.length := ⟨_, rfl⟩
  obtain ⟨un, hun⟩ : ∃ n, n = e.deps.length := ⟨_, rfl⟩
  have HN := Lib.hid hn
  have HUN := Lib.hid hun
  obtain ⟨vo, vc, e1⟩ := holdsU_shape hv n hn
  obtain ⟨uo, uc, e3⟩ := dots_shape hu _ rfl
  rw [← hun] at e3
  subst e1 e3
  clear h0 hT hv hd hu hf hI1 hI2 hp hn hun
  have S1 := Lib.hid (fun w hv hd => small_any13 us (.slice vo n vc) w hv hd)
  go_enter Tryd.func3, Tryd.ntmps3
  go_upto_region 1 with fail
  generalize w.alloc (.cells (evC e (.slice uo un uc)) 30 (0, 0)) = W0 at *
  go_upto_region 2 with (first
    | (go_at_call 4; refine (awake13_any _ (powTab_below HT.out B0.out)).mono ?_; rintro x W1 ⟨rfl, hb⟩; have B1 := Lib.hid (below_next B0.out hb); have C1 := Lib.hid hb; clear hb))
  have E1 := Lib.hid (evAt_kept E0.out C1.out)
  have c2 := (evAt_cells E1.out).2.2.1
  have HV1 := Lib.hid (holdsU_below HV.out C1.out)
  have HD1 := Lib.hid (depsU_below HD.out C1.out)
  have HU1 := Lib.hid (dots_below HU.out C1.out)
  cases hs1 : smallB us with
  | false =>
    rw [hs1] at S1
    go_wp2_with (first
      | (go_at_call 5; refine (S1.out _ HV1.out HD1.out).mono ?_; rintro x W2 ⟨rfl, hb⟩; have B2 := Lib.hid (below_next B1.out hb); have C2 := Lib.hid hb; have c3 := cell_under12 c2 hb; clear hb))
    go_ret
    exact ⟨rfl, B2.out⟩
  | true =>
    rw [hs1] at S1
    have F1 := Lib.hid (fit_small HF.out hs1)
    clear hs1
    by_cases hu6 : un ≤ 60
    · have q1 : ¬ (un : Int) > 60 := by omega
      have q1b : ¬ (60 : Int) < (un : Int) := by omega
      have FE := Lib.hid (show FitE e from ⟨HI.out.1, HI.out.2.1, by have := HUN.out; omega, HI.out.2.2⟩)
      have MY := Lib.hid (fun w (hb : Below W1.heap.size W1 w) => may_heads13 us (by have := F1.out.2; omega) F1.out.1 (.slice vo n vc) w (holdsU_below HV1.out hb) (depsU_below HD1.out hb) (powTab_below HT.out (below_next B1.out hb)))
      cases hm : mayHs (us.map (·.1)) with
      | false =>
        rw [hm] at MY
        go_wp2_with (first
          | (go_at_call 5; refine (S1.out _ HV1.out HD1.out).mono ?_; rintro x W2 ⟨rfl, hb⟩; have B2 := Lib.hid (below_next B1.out hb); have C2 := Lib.hid hb; have c3 := cell_under12 c2 hb; clear hb)
          | (go_at_call 6; refine (MY.out _ C2.out).mono ?_; rintro x W3 ⟨rfl, hb⟩; have B3 := Lib.hid (below_next B2.out hb); have C3 := Lib.hid (below_next C2.out hb); clear hb))
        go_ret
        exact ⟨rfl, B3.out⟩
      | true =>
        rw [hm] at MY
        clear hm
        go_upto_region 4 with (first
          | (go_at_call 5; refine (S1.out _ HV1.out HD1.out).mono ?_; rintro x W2 ⟨rfl, hb⟩; have B2 := Lib.hid (below_next B1.out hb); have C2 := Lib.hid hb; have c3 := cell_under12 c2 hb; clear hb)
          | (go_at_call 6; refine (MY.out _ C2.out).mono ?_; rintro x W3 ⟨rfl, hb⟩; have B3 := Lib.hid (below_next B2.out hb); have C3 := Lib.hid (below_next C2.out hb); clear hb))
        have AD := Lib.hid (add_any us (by have := F1.out.2; omega) F1.out.1 e FE.out (.slice vo n vc) (.slice uo un uc) W3 (holdsU_below HV1.out C3.out) (depsU_below HD1.out C3.out) (dots_below HU1.out C3.out))
        have E3 := Lib.hid (evAt_kept E1.out C3.out)
        go_upto_region 5 with (first
          | (refine load_ev_on (by rfl) 30 (.tmp 3) rfl w.heap.size rfl E3.out Tryd.underlying30 evSize ?_)
          | (go_at_call 7; refine AD.out.mono ?_; rintro x W4 ⟨y, rfl, hh, hb⟩; have HX := Lib.hid hh; have B4 := Lib.hid (below_next B3.out hb); have C4 := Lib.hid (below_next C3.out hb); have E4 := Lib.hid (evAt_kept E3.out hb); clear hh hb))
        have hn60 : n ≤ 60 := by have := F1.out.2; have := HN.out; omega
        obtain ⟨X, hX⟩ : ∃ X, X = addE (us.map (·.1)) e := ⟨_, rfl⟩
        obtain ⟨H, hH⟩ : ∃ H, H = us.map (·.1) := ⟨_, rfl⟩
        obtain ⟨xs, hxs, hdx, hhx⟩ := u_of_evs HX.out
        rw [← hX] at hxs
        obtain ⟨m, hm⟩ : ∃ m, m = xs.length := ⟨_, rfl⟩
        obtain ⟨xo, xc, rfl⟩ := holdsU_shape hhx m hm
        have HXL := Lib.hid (show X.length = m by rw [← hxs, List.length_map, hm])
        have HXS := Lib.hid hxs
        have HDX := Lib.hid hdx
        have HHX := Lib.hid hhx
        have HMX := Lib.hid hm
        have HXE := Lib.hid hX
        have HHE := Lib.hid hH
        have hm61 : m ≤ 61 := by
          have h1 := addE_len (us.map (·.1)) e
          rw [← hX, List.length_map] at h1
          have := HXL.out; have := F1.out.2; omega
        have HFX := Lib.hid (show ∀ x ∈ xs, x.1.deps.length < 2000000 from fun x hx => by
          have h1 : x.1 ∈ X := by rw [← hxs]; exact List.mem_map_of_mem hx
          rw [hX] at h1
          rcases addE_sub h1 with h2 | h2
          · rw [h2]; exact FE.out.2.2.1
          · obtain ⟨z, hz, hzx⟩ := List.mem_map.1 h2
            rw [← hzx]; exact (F1.out.1 z hz).2.2.1)
        have HV4 := Lib.hid (holdsU_below HV1.out C4.out)
        have HD4 := Lib.hid (depsU_below HD1.out C4.out)
        have HU4 := Lib.hid (dots_below HU1.out C4.out)
        have s2 : (str e.path).toList = e.path := str_toList _
        clear hX hH hxs hdx hhx hm HX
        go_wp2
        go_loopw [7, 8] (fun b c wr => ∃ i : Nat, i ≤ m ∧ c = .int .i64 (i : Int) ∧ b = .bool ((X.take i).any (hitE e)) ∧ Below W4.heap.size W4 wr) (fun _ c _ => m - (intOf c).toNat)
        case atStart => exact ⟨0, Nat.zero_le _, rfl, rfl, Below.refl _ _⟩
        case round =>
          obtain ⟨i, hi, rfl, rfl, hb⟩ := hrel
          have HB := Lib.hid hb
          clear hb
          by_cases him : i < m
          · have q0 : (i : Int) < (m : Int) := by omega
            have hi1 : i + 1 ≤ m := him
            obtain ⟨x, hx⟩ : ∃ x, xs[i]? = some x := ⟨_, List.getElem?_eq_getElem (by have := HMX.out; omega)⟩
            obtain ⟨xd, xc', e1, hcx⟩ := holdsU_at HHX.out m i HMX.out.symm x hx
            cases e1
            have hux := HDX.out x (List.mem_of_getElem? hx)
            have hdl := HFX.out x (List.mem_of_getElem? hx)
            have hex := fst_atM hx
            rw [HXS.out] at hex
            obtain ⟨f, fv⟩ := x
            dsimp only at hcx hux hex hdl
            have CF := Lib.hid hcx
            have HDF := Lib.hid hux
            have HFK := Lib.hid hex
            have s1 : (str f.path).toList = f.path := str_toList _
            have KN := Lib.hid (fun w hv => refKnows_any12 f e hdl fv (.slice uo un uc) w hv)
            obtain ⟨D, hD⟩ : ∃ b, (X.take i).any (hitE e) = b := ⟨_, rfl⟩
            have HAN := Lib.hid hD
            rw [hD]
            clear hx hcx hux hex hdl hi hD
            cases D with
            | true =>
              go_upto_region 9 with fail
              refine wp_region_held_drew (S := fun w' => Below W4.heap.size W4 w') (by kernel_rfl) (drawS HB.out) (fun hHeld => ?_)
              generalize wr.drew = wd at hHeld ⊢
              refine take_at (i := 0) 39 rfl rfl (by kernel_rfl) (by kernel_rfl) (by kernel_rfl) (fun _ _ _ h => h) (sure_yes (by rfl) (fun w => by go_simp; try with_reducible rfl)) hHeld ?_
              simp only [List.setIfInBounds_toArray, List.set_cons_zero, List.set_cons_succ]
              refine take_at (i := 1) 40 rfl rfl (by kernel_rfl) (by kernel_rfl) (by kernel_rfl) (fun _ _ _ h => h) (sure_yes (by rfl) (fun w => by go_simp; try with_reducible rfl)) hHeld ?_
              simp only [List.setIfInBounds_toArray, List.set_cons_zero, List.set_cons_succ]
              refine take_at (i := 2) 41 rfl rfl (by kernel_rfl) (by kernel_rfl) (by kernel_rfl) (fun _ _ _ h => h) (.inr ⟨by rfl, rfl⟩) hHeld ?_
              simp only [List.setIfInBounds_toArray, List.set_cons_zero, List.set_cons_succ]
              refine take_at (i := 3) 42 rfl rfl (by kernel_rfl) (by kernel_rfl) (by kernel_rfl) (fun _ _ _ h => h) (.inr ⟨by rfl, rfl⟩) hHeld ?_
              simp only [List.setIfInBounds_toArray, List.set_cons_zero, List.set_cons_succ]
              refine take_at (i := 4) 43 rfl rfl (by kernel_rfl) (by kernel_rfl) (by kernel_rfl) (fun _ _ _ h => h) (.inr ⟨by rfl, rfl⟩) hHeld ?_
              simp only [List.setIfInBounds_toArray, List.set_cons_zero, List.set_cons_succ]
              refine take_at (i := 5) 44 rfl rfl (by kernel_rfl) (by kernel_rfl) (by kernel_rfl) (fun _ _ _ h => h) (.inr ⟨by rfl, rfl⟩) hHeld ?_
              simp only [List.setIfInBounds_toArray, List.set_cons_zero, List.set_cons_succ]
              refine take_at (i := 7) 46 rfl rfl (by kernel_rfl) (by kernel_rfl) (by kernel_rfl) (fun _ _ _ h => h) (.inr ⟨by rfl, rfl⟩) hHeld ?_
              simp only [List.setIfInBounds_toArray, List.set_cons_zero, List.set_cons_succ]
              refine take_at (i := 6) 45 rfl rfl (by kernel_rfl) (by kernel_rfl) (by kernel_rfl) (fun _ _ _ h => h) (.inr ⟨by rfl, rfl⟩) hHeld ?_
              simp only [List.setIfInBounds_toArray, List.set_cons_zero, List.set_cons_succ]
              refine take_at (i := 8) 47 rfl rfl (by kernel_rfl) (by kernel_rfl) (by kernel_rfl) (fun _ _ _ h => h) (.inr ⟨by rfl, rfl⟩) hHeld ?_
              simp only [List.setIfInBounds_toArray, List.set_cons_zero, List.set_cons_succ]
              refine take_at (i := 9) 48 rfl rfl (by kernel_rfl) (by kernel_rfl) (by kernel_rfl) (fun _ _ _ h => h) (.inr ⟨by rfl, rfl⟩) hHeld ?_
              simp only [List.setIfInBounds_toArray, List.set_cons_zero, List.set_cons_succ]
              refine take_at (i := 10) 49 rfl rfl (by kernel_rfl) (by kernel_rfl) (by kernel_rfl) (fun _ _ _ h => h) (.inr ⟨by rfl, rfl⟩) hHeld ?_
              simp only [List.setIfInBounds_toArray, List.set_cons_zero, List.set_cons_succ]
              refine take_at (i := 11) 50 rfl rfl (by kernel_rfl) (by kernel_rfl) (by kernel_rfl) (fun _ _ _ h => h) (.inr ⟨by rfl, rfl⟩) hHeld ?_
              simp only [List.setIfInBounds_toArray, List.set_cons_zero, List.set_cons_succ]
              refine take_at (i := 12) 51 rfl rfl (by kernel_rfl) (by kernel_rfl) (by kernel_rfl) (fun _ _ _ h => h) (.inr ⟨by rfl, rfl⟩) hHeld ?_
              simp only [List.setIfInBounds_toArray, List.set_cons_zero, List.set_cons_succ]
              refine take_at (i := 13) 52 rfl rfl (by kernel_rfl) (by kernel_rfl) (by kernel_rfl) (fun _ _ _ h => h) (.inr ⟨by rfl, rfl⟩) hHeld ?_
              simp only [List.setIfInBounds_toArray, List.set_cons_zero, List.set_cons_succ]
              refine take_at (i := 14) 53 rfl rfl (by kernel_rfl) (by kernel_rfl) (by kernel_rfl) (fun _ _ _ h => h) (.inr ⟨by rfl, rfl⟩) hHeld ?_
              simp only [List.setIfInBounds_toArray, List.set_cons_zero, List.set_cons_succ]
              refine take_at (i := 16) 55 rfl rfl (by kernel_rfl) (by kernel_rfl) (by kernel_rfl) (fun _ _ _ h => h) (.inr ⟨by rfl, rfl⟩) hHeld ?_
              simp only [List.setIfInBounds_toArray, List.set_cons_zero, List.set_cons_succ]
              refine take_at (i := 15) 54 rfl rfl (by kernel_rfl) (by kernel_rfl) (by kernel_rfl) (fun _ _ _ h => h) (.inr ⟨by rfl, rfl⟩) hHeld ?_
              simp only [List.setIfInBounds_toArray, List.set_cons_zero, List.set_cons_succ]
              refine take_at (i := 17) 56 rfl rfl (by kernel_rfl) (by kernel_rfl) (by kernel_rfl) (fun _ _ _ h => h) (.inr ⟨by rfl, rfl⟩) hHeld ?_
              simp only [List.setIfInBounds_toArray, List.set_cons_zero, List.set_cons_succ]
              refine take_at (i := 18) 57 rfl rfl (by kernel_rfl) (by kernel_rfl) (by kernel_rfl) (fun _ _ _ h => h) (.inr ⟨by rfl, rfl⟩) hHeld ?_
              simp only [List.setIfInBounds_toArray, List.set_cons_zero, List.set_cons_succ]
              refine take_at (i := 19) 58 rfl rfl (by kernel_rfl) (by kernel_rfl) (by kernel_rfl) (fun _ _ _ h => h) (.inr ⟨by rfl, rfl⟩) hHeld ?_
              simp only [List.setIfInBounds_toArray, List.set_cons_zero, List.set_cons_succ]
              refine take_at (i := 20) 59 rfl rfl (by kernel_rfl) (by kernel_rfl) (by kernel_rfl) (fun _ _ _ h => h) (.inr ⟨by rfl, rfl⟩) hHeld ?_
              simp only [List.setIfInBounds_toArray, List.set_cons_zero, List.set_cons_succ]
              refine take_at (i := 21) 60 rfl rfl (by kernel_rfl) (by kernel_rfl) (by kernel_rfl) (fun _ _ _ h => h) (.inr ⟨by rfl, rfl⟩) hHeld ?_
              simp only [List.setIfInBounds_toArray, List.set_cons_zero, List.set_cons_succ]
              refine take_at (i := 22) 61 rfl rfl (by kernel_rfl) (by kernel_rfl) (by kernel_rfl) (fun _ _ _ h => h) (.inr ⟨by rfl, rfl⟩) hHeld ?_
              simp only [List.setIfInBounds_toArray, List.set_cons_zero, List.set_cons_succ]
              refine take_at (i := 23) 62 rfl rfl (by kernel_rfl) (by kernel_rfl) (by kernel_rfl) (fun _ _ _ h => h) (.inr ⟨by rfl, rfl⟩) hHeld ?_
              simp only [List.setIfInBounds_toArray, List.set_cons_zero, List.set_cons_succ]
              refine take_at (i := 24) 63 rfl rfl (by kernel_rfl) (by kernel_rfl) (by kernel_rfl) (fun _ _ _ h => h) (.inr ⟨by rfl, rfl⟩) hHeld ?_
              simp only [List.setIfInBounds_toArray, List.set_cons_zero, List.set_cons_succ]
              refine take_at (i := 25) 64 rfl rfl (by kernel_rfl) (by kernel_rfl) (by kernel_rfl) (fun _ _ _ h => h) (.inr ⟨by rfl, rfl⟩) hHeld ?_
              simp only [List.setIfInBounds_toArray, List.set_cons_zero, List.set_cons_succ]
              refine take_at (i := 26) 65 rfl rfl (by kernel_rfl) (by kernel_rfl) (by kernel_rfl) (fun _ _ _ h => h) (.inr ⟨by rfl, rfl⟩) hHeld ?_
              simp only [List.setIfInBounds_toArray, List.set_cons_zero, List.set_cons_succ]
              refine take_at (i := 27) 66 rfl rfl (by kernel_rfl) (by kernel_rfl) (by kernel_rfl) (fun _ _ _ h => h) (.inr ⟨by rfl, rfl⟩) hHeld ?_
              simp only [List.setIfInBounds_toArray, List.set_cons_zero, List.set_cons_succ]
              refine take_at (i := 28) 67 rfl rfl (by kernel_rfl) (by kernel_rfl) (by kernel_rfl) (fun _ _ _ h => h) (sure_yes (by rfl) (fun w => by go_simp; try with_reducible rfl)) hHeld ?_
              simp only [List.setIfInBounds_toArray, List.set_cons_zero, List.set_cons_succ]
              refine take_at (i := 29) 7 rfl rfl (by kernel_rfl) (by kernel_rfl) (by kernel_rfl) (fun _ _ _ h => h) (sure_yes (by rfl) (fun w => by go_simp; try with_reducible rfl)) hHeld ?_
              simp only [List.setIfInBounds_toArray, List.set_cons_zero, List.set_cons_succ]
              refine wpAnyH_done (by kernel_rfl) ?_ _
              have Z := Lib.hid hHeld
              clear hHeld
              go_wp2
              go_roundw
              case rel => exact ⟨i + 1, hi1, by go_num, by rw [any_take HFK.out, HAN.out]; simp, Z.out⟩
              case measure => simp [intOf] <;> omega
            | false =>
              cases hp : (f.path == e.path) with
              | false =>
                have HHIT := Lib.hid (show hitE e f = false by unfold hitE; rw [hp]; rfl)
                go_upto_region 9 with fail
                refine wp_region_held_drew (S := fun w' => Below W4.heap.size W4 w') (by kernel_rfl) (drawS HB.out) (fun hHeld => ?_)
                generalize wr.drew = wd at hHeld ⊢
                refine take_at (i := 0) 39 rfl rfl (by kernel_rfl) (by kernel_rfl) (by kernel_rfl) (fun _ _ _ h => h) (sure_yes (by rfl) (fun w => by go_simp; try with_reducible rfl)) hHeld ?_
                simp only [List.setIfInBounds_toArray, List.set_cons_zero, List.set_cons_succ]
                refine take_at (i := 1) 40 rfl rfl (by kernel_rfl) (by kernel_rfl) (by kernel_rfl) (fun _ _ _ h => h) (sure_yes (by rfl) (fun w => by go_simp; try with_reducible rfl)) hHeld ?_
                simp only [List.setIfInBounds_toArray, List.set_cons_zero, List.set_cons_succ]
                refine take_at (i := 2) 41 rfl rfl (by kernel_rfl) (by kernel_rfl) (by kernel_rfl) (fun _ _ _ h => h) (sure_yes (by rfl) (fun w => by go_simp; try with_reducible rfl)) hHeld ?_
                simp only [List.setIfInBounds_toArray, List.set_cons_zero, List.set_cons_succ]
                refine take_at (i := 3) 42 rfl rfl (by kernel_rfl) (by kernel_rfl) (by kernel_rfl) (fun _ _ _ h => h) (sure_yes (by rfl) (fun w => by go_simp; try with_reducible rfl)) hHeld ?_
                simp only [List.setIfInBounds_toArray, List.set_cons_zero, List.set_cons_succ]
                refine take_at (i := 4) 43 rfl rfl (by kernel_rfl) (by kernel_rfl) (by kernel_rfl) (fun _ _ _ h => h) (sure_yes (by rfl) (fun w => by go_simp; try with_reducible rfl)) hHeld ?_
                simp only [List.setIfInBounds_toArray, List.set_cons_zero, List.set_cons_succ]
                refine take_at (i := 5) 44 rfl rfl (by kernel_rfl) (by kernel_rfl) (by kernel_rfl) (fun _ _ _ h => h) (sure_yes (by rfl) (fun w => by go_simp; try with_reducible rfl)) hHeld ?_
                simp only [List.setIfInBounds_toArray, List.set_cons_zero, List.set_cons_succ]
                refine take_at (i := 7) 46 rfl rfl (by kernel_rfl) (by kernel_rfl) (by kernel_rfl) (fun _ _ _ h => h) (sure_yes (by rfl) (fun w => by go_simp; try with_reducible rfl)) hHeld ?_
                simp only [List.setIfInBounds_toArray, List.set_cons_zero, List.set_cons_succ]
                refine take_at (i := 6) 45 rfl rfl (by kernel_rfl) (by kernel_rfl) (by kernel_rfl) (fun _ _ _ h => h) (str_yields12 (by rfl) 9 (.tmp 44) rfl ⟨(xd.add (i * 38)).block, (xd.add (i * 38)).off + 4, none⟩ rfl (str f.path) Tryd.underlying9 (fun w h => cell_under12 (ev_fieldM CF.out 4 (by decide) _ (evC_at _ _).2.2.2.2.1) h)) hHeld ?_
                simp only [List.setIfInBounds_toArray, List.set_cons_zero, List.set_cons_succ]
                refine take_at (i := 8) 47 rfl rfl (by kernel_rfl) (by kernel_rfl) (by kernel_rfl) (fun _ _ _ h => h) (str_yields12 (by rfl) 9 (.tmp 46) rfl ⟨w.heap.size, 4, none⟩ rfl (str e.path) Tryd.underlying9 (fun w h => cell_under12 (evAt_cells E4.out).2.2.2.2.1 h)) hHeld ?_
                simp only [List.setIfInBounds_toArray, List.set_cons_zero, List.set_cons_succ]
                refine take_at (i := 9) 48 rfl rfl (by kernel_rfl) (by kernel_rfl) (by kernel_rfl) (fun _ _ _ h => h) (sure_yes (by rfl) (fun w => by go_simp; try with_reducible rfl)) hHeld ?_
                simp only [List.setIfInBounds_toArray, List.set_cons_zero, List.set_cons_succ]
                refine take_at (i := 10) 49 rfl rfl (by kernel_rfl) (by kernel_rfl) (by kernel_rfl) (fun _ _ _ h => h) (sure_yes (by rfl) (fun w => by go_simp; try with_reducible rfl)) hHeld ?_
                simp only [List.setIfInBounds_toArray, List.set_cons_zero, List.set_cons_succ]
                refine take_at (i := 11) 50 rfl rfl (by kernel_rfl) (by kernel_rfl) (by kernel_rfl) (fun _ _ _ h => h) (.inr ⟨by rfl, rfl⟩) hHeld ?_
                simp only [List.setIfInBounds_toArray, List.set_cons_zero, List.set_cons_succ]
                refine take_at (i := 12) 51 rfl rfl (by kernel_rfl) (by kernel_rfl) (by kernel_rfl) (fun _ _ _ h => h) (.inr ⟨by rfl, rfl⟩) hHeld ?_
                simp only [List.setIfInBounds_toArray, List.set_cons_zero, List.set_cons_succ]
                refine take_at (i := 13) 52 rfl rfl (by kernel_rfl) (by kernel_rfl) (by kernel_rfl) (fun _ _ _ h => h) (.inr ⟨by rfl, rfl⟩) hHeld ?_
                simp only [List.setIfInBounds_toArray, List.set_cons_zero, List.set_cons_succ]
                refine take_at (i := 14) 53 rfl rfl (by kernel_rfl) (by kernel_rfl) (by kernel_rfl) (fun _ _ _ h => h) (.inr ⟨by rfl, rfl⟩) hHeld ?_
                simp only [List.setIfInBounds_toArray, List.set_cons_zero, List.set_cons_succ]
                refine take_at (i := 16) 55 rfl rfl (by kernel_rfl) (by kernel_rfl) (by kernel_rfl) (fun _ _ _ h => h) (.inr ⟨by rfl, rfl⟩) hHeld ?_
                simp only [List.setIfInBounds_toArray, List.set_cons_zero, List.set_cons_succ]
                refine take_at (i := 15) 54 rfl rfl (by kernel_rfl) (by kernel_rfl) (by kernel_rfl) (fun _ _ _ h => h) (.inr ⟨by rfl, rfl⟩) hHeld ?_
                simp only [List.setIfInBounds_toArray, List.set_cons_zero, List.set_cons_succ]
                refine take_at (i := 17) 56 rfl rfl (by kernel_rfl) (by kernel_rfl) (by kernel_rfl) (fun _ _ _ h => h) (.inr ⟨by rfl, rfl⟩) hHeld ?_
                simp only [List.setIfInBounds_toArray, List.set_cons_zero, List.set_cons_succ]
                refine take_at (i := 18) 57 rfl rfl (by kernel_rfl) (by kernel_rfl) (by kernel_rfl) (fun _ _ _ h => h) (.inr ⟨by rfl, rfl⟩) hHeld ?_
                simp only [List.setIfInBounds_toArray, List.set_cons_zero, List.set_cons_succ]
                refine take_at (i := 19) 58 rfl rfl (by kernel_rfl) (by kernel_rfl) (by kernel_rfl) (fun _ _ _ h => h) (.inr ⟨by rfl, rfl⟩) hHeld ?_
                simp only [List.setIfInBounds_toArray, List.set_cons_zero, List.set_cons_succ]
                refine take_at (i := 20) 59 rfl rfl (by kernel_rfl) (by kernel_rfl) (by kernel_rfl) (fun _ _ _ h => h) (.inr ⟨by rfl, rfl⟩) hHeld ?_
                simp only [List.setIfInBounds_toArray, List.set_cons_zero, List.set_cons_succ]
                refine take_at (i := 21) 60 rfl rfl (by kernel_rfl) (by kernel_rfl) (by kernel_rfl) (fun _ _ _ h => h) (.inr ⟨by rfl, rfl⟩) hHeld ?_
                simp only [List.setIfInBounds_toArray, List.set_cons_zero, List.set_cons_succ]
                refine take_at (i := 22) 61 rfl rfl (by kernel_rfl) (by kernel_rfl) (by kernel_rfl) (fun _ _ _ h => h) (.inr ⟨by rfl, rfl⟩) hHeld ?_
                simp only [List.setIfInBounds_toArray, List.set_cons_zero, List.set_cons_succ]
                refine take_at (i := 23) 62 rfl rfl (by kernel_rfl) (by kernel_rfl) (by kernel_rfl) (fun _ _ _ h => h) (.inr ⟨by rfl, rfl⟩) hHeld ?_
                simp only [List.setIfInBounds_toArray, List.set_cons_zero, List.set_cons_succ]
                refine take_at (i := 24) 63 rfl rfl (by kernel_rfl) (by kernel_rfl) (by kernel_rfl) (fun _ _ _ h => h) (.inr ⟨by rfl, rfl⟩) hHeld ?_
                simp only [List.setIfInBounds_toArray, List.set_cons_zero, List.set_cons_succ]
                refine take_at (i := 25) 64 rfl rfl (by kernel_rfl) (by kernel_rfl) (by kernel_rfl) (fun _ _ _ h => h) (.inr ⟨by rfl, rfl⟩) hHeld ?_
                simp only [List.setIfInBounds_toArray, List.set_cons_zero, List.set_cons_succ]
                refine take_at (i := 26) 65 rfl rfl (by kernel_rfl) (by kernel_rfl) (by kernel_rfl) (fun _ _ _ h => h) (.inr ⟨by rfl, rfl⟩) hHeld ?_
                simp only [List.setIfInBounds_toArray, List.set_cons_zero, List.set_cons_succ]
                refine take_at (i := 27) 66 rfl rfl (by kernel_rfl) (by kernel_rfl) (by kernel_rfl) (fun _ _ _ h => h) (sure_yes (by rfl) (fun w => by go_simp; try with_reducible rfl)) hHeld ?_
                simp only [List.setIfInBounds_toArray, List.set_cons_zero, List.set_cons_succ]
                refine take_at (i := 28) 67 rfl rfl (by kernel_rfl) (by kernel_rfl) (by kernel_rfl) (fun _ _ _ h => h) (sure_yes (by rfl) (fun w => by go_simp; try with_reducible rfl)) hHeld ?_
                simp only [List.setIfInBounds_toArray, List.set_cons_zero, List.set_cons_succ]
                refine take_at (i := 29) 7 rfl rfl (by kernel_rfl) (by kernel_rfl) (by kernel_rfl) (fun _ _ _ h => h) (sure_yes (by rfl) (fun w => by go_simp; try with_reducible rfl)) hHeld ?_
                simp only [List.setIfInBounds_toArray, List.set_cons_zero, List.set_cons_succ]
                refine wpAnyH_done (by kernel_rfl) ?_ _
                have Z := Lib.hid hHeld
                clear hHeld
                go_wp2
                go_roundw
                case rel => exact ⟨i + 1, hi1, by go_num, by rw [any_take HFK.out, HAN.out]; simp [HHIT.out], Z.out⟩
                case measure => simp [intOf] <;> omega
              | true =>
                have hpe : f.path = e.path := by simpa using hp
                by_cases hdd : f.r = e.r ∧ f.q = e.q
                · have ED := Lib.hid (eql_dotsL (r := f.r) (q := f.q) (r' := e.r) (q' := e.q) (b := true) (by simp [hdd.1, hdd.2]))
                  have HHIT := Lib.hid (show hitE e f = true by unfold hitE; rw [hp, (dotE_iff f e).2 hdd]; rfl)
                  clear hdd
                  go_upto_region 9 with fail
                  refine wp_region_held_drew (S := fun w' => Below W4.heap.size W4 w') (by kernel_rfl) (drawS HB.out) (fun hHeld => ?_)
                  generalize wr.drew = wd at hHeld ⊢
                  refine take_at (i := 0) 39 rfl rfl (by kernel_rfl) (by kernel_rfl) (by kernel_rfl) (fun _ _ _ h => h) (sure_yes (by rfl) (fun w => by go_simp; try with_reducible rfl)) hHeld ?_
                  simp only [List.setIfInBounds_toArray, List.set_cons_zero, List.set_cons_succ]
                  refine take_at (i := 1) 40 rfl rfl (by kernel_rfl) (by kernel_rfl) (by kernel_rfl) (fun _ _ _ h => h) (sure_yes (by rfl) (fun w => by go_simp; try with_reducible rfl)) hHeld ?_
                  simp only [List.setIfInBounds_toArray, List.set_cons_zero, List.set_cons_succ]
                  refine take_at (i := 2) 41 rfl rfl (by kernel_rfl) (by kernel_rfl) (by kernel_rfl) (fun _ _ _ h => h) (sure_yes (by rfl) (fun w => by go_simp; try with_reducible rfl)) hHeld ?_
                  simp only [List.setIfInBounds_toArray, List.set_cons_zero, List.set_cons_succ]
                  refine take_at (i := 3) 42 rfl rfl (by kernel_rfl) (by kernel_rfl) (by kernel_rfl) (fun _ _ _ h => h) (sure_yes (by rfl) (fun w => by go_simp; try with_reducible rfl)) hHeld ?_
                  simp only [List.setIfInBounds_toArray, List.set_cons_zero, List.set_cons_succ]
                  refine take_at (i := 4) 43 rfl rfl (by kernel_rfl) (by kernel_rfl) (by kernel_rfl) (fun _ _ _ h => h) (sure_yes (by rfl) (fun w => by go_simp; try with_reducible rfl)) hHeld ?_
                  simp only [List.setIfInBounds_toArray, List.set_cons_zero, List.set_cons_succ]
                  refine take_at (i := 5) 44 rfl rfl (by kernel_rfl) (by kernel_rfl) (by kernel_rfl) (fun _ _ _ h => h) (sure_yes (by rfl) (fun w => by go_simp; try with_reducible rfl)) hHeld ?_
                  simp only [List.setIfInBounds_toArray, List.set_cons_zero, List.set_cons_succ]
                  refine take_at (i := 7) 46 rfl rfl (by kernel_rfl) (by kernel_rfl) (by kernel_rfl) (fun _ _ _ h => h) (sure_yes (by rfl) (fun w => by go_simp; try with_reducible rfl)) hHeld ?_
                  simp only [List.setIfInBounds_toArray, List.set_cons_zero, List.set_cons_succ]
                  refine take_at (i := 6) 45 rfl rfl (by kernel_rfl) (by kernel_rfl) (by kernel_rfl) (fun _ _ _ h => h) (str_yields12 (by rfl) 9 (.tmp 44) rfl ⟨(xd.add (i * 38)).block, (xd.add (i * 38)).off + 4, none⟩ rfl (str f.path) Tryd.underlying9 (fun w h => cell_under12 (ev_fieldM CF.out 4 (by decide) _ (evC_at _ _).2.2.2.2.1) h)) hHeld ?_
                  simp only [List.setIfInBounds_toArray, List.set_cons_zero, List.set_cons_succ]
                  refine take_at (i := 8) 47 rfl rfl (by kernel_rfl) (by kernel_rfl) (by kernel_rfl) (fun _ _ _ h => h) (str_yields12 (by rfl) 9 (.tmp 46) rfl ⟨w.heap.size, 4, none⟩ rfl (str e.path) Tryd.underlying9 (fun w h => cell_under12 (evAt_cells E4.out).2.2.2.2.1 h)) hHeld ?_
                  simp only [List.setIfInBounds_toArray, List.set_cons_zero, List.set_cons_succ]
                  refine take_at (i := 9) 48 rfl rfl (by kernel_rfl) (by kernel_rfl) (by kernel_rfl) (fun _ _ _ h => h) (sure_yes (by rfl) (fun w => by go_simp; try with_reducible rfl)) hHeld ?_
                  simp only [List.setIfInBounds_toArray, List.set_cons_zero, List.set_cons_succ]
                  refine take_at (i := 10) 49 rfl rfl (by kernel_rfl) (by kernel_rfl) (by kernel_rfl) (fun _ _ _ h => h) (sure_yes (by rfl) (fun w => by go_simp; try with_reducible rfl)) hHeld ?_
                  simp only [List.setIfInBounds_toArray, List.set_cons_zero, List.set_cons_succ]
                  refine take_at (i := 11) 50 rfl rfl (by kernel_rfl) (by kernel_rfl) (by kernel_rfl) (fun _ _ _ h => h) (sure_yes (by rfl) (fun w => by go_simp; try with_reducible rfl)) hHeld ?_
                  simp only [List.setIfInBounds_toArray, List.set_cons_zero, List.set_cons_succ]
                  refine take_at (i := 12) 51 rfl rfl (by kernel_rfl) (by kernel_rfl) (by kernel_rfl) (fun _ _ _ h => h) (sure_yes (by rfl) (fun w => by go_simp; try with_reducible rfl)) hHeld ?_
                  simp only [List.setIfInBounds_toArray, List.set_cons_zero, List.set_cons_succ]
                  refine take_at (i := 13) 52 rfl rfl (by kernel_rfl) (by kernel_rfl) (by kernel_rfl) (fun _ _ _ h => h) (sure_yes (by rfl) (fun w => by go_simp; try with_reducible rfl)) hHeld ?_
                  simp only [List.setIfInBounds_toArray, List.set_cons_zero, List.set_cons_succ]
                  refine take_at (i := 14) 53 rfl rfl (by kernel_rfl) (by kernel_rfl) (by kernel_rfl) (fun _ _ _ h => h) (sure_yes (by rfl) (fun w => by go_simp; try with_reducible rfl)) hHeld ?_
                  simp only [List.setIfInBounds_toArray, List.set_cons_zero, List.set_cons_succ]
                  refine take_at (i := 16) 55 rfl rfl (by kernel_rfl) (by kernel_rfl) (by kernel_rfl) (fun _ _ _ h => h) (sure_yes (by rfl) (fun w => by go_simp; try with_reducible rfl)) hHeld ?_
                  simp only [List.setIfInBounds_toArray, List.set_cons_zero, List.set_cons_succ]
                  refine take_at (i := 15) 54 rfl rfl (by kernel_rfl) (by kernel_rfl) (by kernel_rfl) (fun _ _ _ h => h) (dot_yields (by rfl) 24 (.tmp 53) rfl (xd.add (i * 38)) rfl f.r f.q Tryd.underlying24 (by kernel_rfl) (fun w h => ⟨cell_under12 (ev_field0L CF.out _ (evC_at _ _).1) h, cell_under12 (ev_fieldM CF.out 1 (by decide) _ (evC_at _ _).2.1) h⟩)) hHeld ?_
                  simp only [List.setIfInBounds_toArray, List.set_cons_zero, List.set_cons_succ]
                  refine take_at (i := 17) 56 rfl rfl (by kernel_rfl) (by kernel_rfl) (by kernel_rfl) (fun _ _ _ h => h) (dot_yields (by rfl) 24 (.tmp 55) rfl ⟨w.heap.size, 0, none⟩ rfl e.r e.q Tryd.underlying24 (by kernel_rfl) (fun w h => ⟨cell_under12 (evAt_dot E4.out).1 h, cell_under12 (evAt_dot E4.out).2 h⟩)) hHeld ?_
                  simp only [List.setIfInBounds_toArray, List.set_cons_zero, List.set_cons_succ]
                  refine take_at (i := 18) 57 rfl rfl (by kernel_rfl) (by kernel_rfl) (by kernel_rfl) (fun _ _ _ h => h) (sure_yes (by rfl) (eql_op rfl rfl rfl (fun w => by go_simp) ED.out)) hHeld ?_
                  simp only [List.setIfInBounds_toArray, List.set_cons_zero, List.set_cons_succ]
                  refine take_at (i := 19) 58 rfl rfl (by kernel_rfl) (by kernel_rfl) (by kernel_rfl) (fun _ _ _ h => h) (sure_yes (by rfl) (fun w => by go_simp; try with_reducible rfl)) hHeld ?_
                  simp only [List.setIfInBounds_toArray, List.set_cons_zero, List.set_cons_succ]
                  refine take_at (i := 20) 59 rfl rfl (by kernel_rfl) (by kernel_rfl) (by kernel_rfl) (fun _ _ _ h => h) (.inr ⟨by rfl, rfl⟩) hHeld ?_
                  simp only [List.setIfInBounds_toArray, List.set_cons_zero, List.set_cons_succ]
                  refine take_at (i := 21) 60 rfl rfl (by kernel_rfl) (by kernel_rfl) (by kernel_rfl) (fun _ _ _ h => h) (.inr ⟨by rfl, rfl⟩) hHeld ?_
                  simp only [List.setIfInBounds_toArray, List.set_cons_zero, List.set_cons_succ]
                  refine take_at (i := 22) 61 rfl rfl (by kernel_rfl) (by kernel_rfl) (by kernel_rfl) (fun _ _ _ h => h) (.inr ⟨by rfl, rfl⟩) hHeld ?_
                  simp only [List.setIfInBounds_toArray, List.set_cons_zero, List.set_cons_succ]
                  refine take_at (i := 23) 62 rfl rfl (by kernel_rfl) (by kernel_rfl) (by kernel_rfl) (fun _ _ _ h => h) (.inr ⟨by rfl, rfl⟩) hHeld ?_
                  simp only [List.setIfInBounds_toArray, List.set_cons_zero, List.set_cons_succ]
                  refine take_at (i := 24) 63 rfl rfl (by kernel_rfl) (by kernel_rfl) (by kernel_rfl) (fun _ _ _ h => h) (.inr ⟨by rfl, rfl⟩) hHeld ?_
                  simp only [List.setIfInBounds_toArray, List.set_cons_zero, List.set_cons_succ]
                  refine take_at (i := 25) 64 rfl rfl (by kernel_rfl) (by kernel_rfl) (by kernel_rfl) (fun _ _ _ h => h) (.inr ⟨by rfl, rfl⟩) hHeld ?_
                  simp only [List.setIfInBounds_toArray, List.set_cons_zero, List.set_cons_succ]
                  refine take_at (i := 26) 65 rfl rfl (by kernel_rfl) (by kernel_rfl) (by kernel_rfl) (fun _ _ _ h => h) (sure_yes (by rfl) (fun w => by go_simp; try with_reducible rfl)) hHeld ?_
                  simp only [List.setIfInBounds_toArray, List.set_cons_zero, List.set_cons_succ]
                  refine take_at (i := 27) 66 rfl rfl (by kernel_rfl) (by kernel_rfl) (by kernel_rfl) (fun _ _ _ h => h) (sure_yes (by rfl) (fun w => by go_simp; try with_reducible rfl)) hHeld ?_
                  simp only [List.setIfInBounds_toArray, List.set_cons_zero, List.set_cons_succ]
                  refine take_at (i := 28) 67 rfl rfl (by kernel_rfl) (by kernel_rfl) (by kernel_rfl) (fun _ _ _ h => h) (sure_yes (by rfl) (fun w => by go_simp; try with_reducible rfl)) hHeld ?_
                  simp only [List.setIfInBounds_toArray, List.set_cons_zero, List.set_cons_succ]
                  refine take_at (i := 29) 7 rfl rfl (by kernel_rfl) (by kernel_rfl) (by kernel_rfl) (fun _ _ _ h => h) (sure_yes (by rfl) (fun w => by go_simp; try with_reducible rfl)) hHeld ?_
                  simp only [List.setIfInBounds_toArray, List.set_cons_zero, List.set_cons_succ]
                  refine wpAnyH_done (by kernel_rfl) ?_ _
                  have Z := Lib.hid hHeld
                  clear hHeld
                  go_wp2
                  go_roundw
                  case rel => exact ⟨i + 1, hi1, by go_num, by rw [any_take HFK.out, HAN.out]; simp [HHIT.out], Z.out⟩
                  case measure => simp [intOf] <;> omega
                · have ED := Lib.hid (eql_dotsL (r := f.r) (q := f.q) (r' := e.r) (q' := e.q) (b := false) (by by_cases h1 : f.r = e.r <;> by_cases h2 : f.q = e.q <;> simp_all))
                  have HDD := Lib.hid (show dotE f e = false by cases h : dotE f e with | false => rfl | true => exact absurd ((dotE_iff f e).1 h) hdd)
                  have HPD := Lib.hid hp
                  clear hdd
                  obtain ⟨kn, hkn2⟩ : ∃ b, hasV f.deps e.r e.q = b := ⟨_, rfl⟩
                  have HHIT := Lib.hid (show hitE e f = kn by unfold hitE; rw [HPD.out, HDD.out]; unfold knE; rw [hkn2]; simp)
                  rw [hkn2] at KN
                  clear hkn2
                  go_upto_region 9 with fail
                  refine wp_region_held_drew (S := fun w' => Below W4.heap.size W4 w') (by kernel_rfl) (drawS HB.out) (fun hHeld => ?_)
                  generalize wr.drew = wd at hHeld ⊢
                  refine take_at (i := 0) 39 rfl rfl (by kernel_rfl) (by kernel_rfl) (by kernel_rfl) (fun _ _ _ h => h) (sure_yes (by rfl) (fun w => by go_simp; try with_reducible rfl)) hHeld ?_
                  simp only [List.setIfInBounds_toArray, List.set_cons_zero, List.set_cons_succ]
                  refine take_at (i := 1) 40 rfl rfl (by kernel_rfl) (by kernel_rfl) (by kernel_rfl) (fun _ _ _ h => h) (sure_yes (by rfl) (fun w => by go_simp; try with_reducible rfl)) hHeld ?_
                  simp only [List.setIfInBounds_toArray, List.set_cons_zero, List.set_cons_succ]
                  refine take_at (i := 2) 41 rfl rfl (by kernel_rfl) (by kernel_rfl) (by kernel_rfl) (fun _ _ _ h => h) (sure_yes (by rfl) (fun w => by go_simp; try with_reducible rfl)) hHeld ?_
                  simp only [List.setIfInBounds_toArray, List.set_cons_zero, List.set_cons_succ]
                  refine take_at (i := 3) 42 rfl rfl (by kernel_rfl) (by kernel_rfl) (by kernel_rfl) (fun _ _ _ h => h) (sure_yes (by rfl) (fun w => by go_simp; try with_reducible rfl)) hHeld ?_
                  simp only [List.setIfInBounds_toArray, List.set_cons_zero, List.set_cons_succ]
                  refine take_at (i := 4) 43 rfl rfl (by kernel_rfl) (by kernel_rfl) (by kernel_rfl) (fun _ _ _ h => h) (sure_yes (by rfl) (fun w => by go_simp; try with_reducible rfl)) hHeld ?_
                  simp only [List.setIfInBounds_toArray, List.set_cons_zero, List.set_cons_succ]
                  refine take_at (i := 5) 44 rfl rfl (by kernel_rfl) (by kernel_rfl) (by kernel_rfl) (fun _ _ _ h => h) (sure_yes (by rfl) (fun w => by go_simp; try with_reducible rfl)) hHeld ?_
                  simp only [List.setIfInBounds_toArray, List.set_cons_zero, List.set_cons_succ]
                  refine take_at (i := 7) 46 rfl rfl (by kernel_rfl) (by kernel_rfl) (by kernel_rfl) (fun _ _ _ h => h) (sure_yes (by rfl) (fun w => by go_simp; try with_reducible rfl)) hHeld ?_
                  simp only [List.setIfInBounds_toArray, List.set_cons_zero, List.set_cons_succ]
                  refine take_at (i := 6) 45 rfl rfl (by kernel_rfl) (by kernel_rfl) (by kernel_rfl) (fun _ _ _ h => h) (str_yields12 (by rfl) 9 (.tmp 44) rfl ⟨(xd.add (i * 38)).block, (xd.add (i * 38)).off + 4, none⟩ rfl (str f.path) Tryd.underlying9 (fun w h => cell_under12 (ev_fieldM CF.out 4 (by decide) _ (evC_at _ _).2.2.2.2.1) h)) hHeld ?_
                  simp only [List.setIfInBounds_toArray, List.set_cons_zero, List.set_cons_succ]
                  refine take_at (i := 8) 47 rfl rfl (by kernel_rfl) (by kernel_rfl) (by kernel_rfl) (fun _ _ _ h => h) (str_yields12 (by rfl) 9 (.tmp 46) rfl ⟨w.heap.size, 4, none⟩ rfl (str e.path) Tryd.underlying9 (fun w h => cell_under12 (evAt_cells E4.out).2.2.2.2.1 h)) hHeld ?_
                  simp only [List.setIfInBounds_toArray, List.set_cons_zero, List.set_cons_succ]
                  refine take_at (i := 9) 48 rfl rfl (by kernel_rfl) (by kernel_rfl) (by kernel_rfl) (fun _ _ _ h => h) (sure_yes (by rfl) (fun w => by go_simp; try with_reducible rfl)) hHeld ?_
                  simp only [List.setIfInBounds_toArray, List.set_cons_zero, List.set_cons_succ]
                  refine take_at (i := 10) 49 rfl rfl (by kernel_rfl) (by kernel_rfl) (by kernel_rfl) (fun _ _ _ h => h) (sure_yes (by rfl) (fun w => by go_simp; try with_reducible rfl)) hHeld ?_
                  simp only [List.setIfInBounds_toArray, List.set_cons_zero, List.set_cons_succ]
                  refine take_at (i := 11) 50 rfl rfl (by kernel_rfl) (by kernel_rfl) (by kernel_rfl) (fun _ _ _ h => h) (sure_yes (by rfl) (fun w => by go_simp; try with_reducible rfl)) hHeld ?_
                  simp only [List.setIfInBounds_toArray, List.set_cons_zero, List.set_cons_succ]
                  refine take_at (i := 12) 51 rfl rfl (by kernel_rfl) (by kernel_rfl) (by kernel_rfl) (fun _ _ _ h => h) (sure_yes (by rfl) (fun w => by go_simp; try with_reducible rfl)) hHeld ?_
                  simp only [List.setIfInBounds_toArray, List.set_cons_zero, List.set_cons_succ]
                  refine take_at (i := 13) 52 rfl rfl (by kernel_rfl) (by kernel_rfl) (by kernel_rfl) (fun _ _ _ h => h) (sure_yes (by rfl) (fun w => by go_simp; try with_reducible rfl)) hHeld ?_
                  simp only [List.setIfInBounds_toArray, List.set_cons_zero, List.set_cons_succ]
                  refine take_at (i := 14) 53 rfl rfl (by kernel_rfl) (by kernel_rfl) (by kernel_rfl) (fun _ _ _ h => h) (sure_yes (by rfl) (fun w => by go_simp; try with_reducible rfl)) hHeld ?_
                  simp only [List.setIfInBounds_toArray, List.set_cons_zero, List.set_cons_succ]
                  refine take_at (i := 16) 55 rfl rfl (by kernel_rfl) (by kernel_rfl) (by kernel_rfl) (fun _ _ _ h => h) (sure_yes (by rfl) (fun w => by go_simp; try with_reducible rfl)) hHeld ?_
                  simp only [List.setIfInBounds_toArray, List.set_cons_zero, List.set_cons_succ]
                  refine take_at (i := 15) 54 rfl rfl (by kernel_rfl) (by kernel_rfl) (by kernel_rfl) (fun _ _ _ h => h) (dot_yields (by rfl) 24 (.tmp 53) rfl (xd.add (i * 38)) rfl f.r f.q Tryd.underlying24 (by kernel_rfl) (fun w h => ⟨cell_under12 (ev_field0L CF.out _ (evC_at _ _).1) h, cell_under12 (ev_fieldM CF.out 1 (by decide) _ (evC_at _ _).2.1) h⟩)) hHeld ?_
                  simp only [List.setIfInBounds_toArray, List.set_cons_zero, List.set_cons_succ]
                  refine take_at (i := 17) 56 rfl rfl (by kernel_rfl) (by kernel_rfl) (by kernel_rfl) (fun _ _ _ h => h) (dot_yields (by rfl) 24 (.tmp 55) rfl ⟨w.heap.size, 0, none⟩ rfl e.r e.q Tryd.underlying24 (by kernel_rfl) (fun w h => ⟨cell_under12 (evAt_dot E4.out).1 h, cell_under12 (evAt_dot E4.out).2 h⟩)) hHeld ?_
                  simp only [List.setIfInBounds_toArray, List.set_cons_zero, List.set_cons_succ]
                  refine take_at (i := 18) 57 rfl rfl (by kernel_rfl) (by kernel_rfl) (by kernel_rfl) (fun _ _ _ h => h) (sure_yes (by rfl) (eql_op rfl rfl rfl (fun w => by go_simp) ED.out)) hHeld ?_
                  simp only [List.setIfInBounds_toArray, List.set_cons_zero, List.set_cons_succ]
                  refine take_at (i := 19) 58 rfl rfl (by kernel_rfl) (by kernel_rfl) (by kernel_rfl) (fun _ _ _ h => h) (sure_yes (by rfl) (fun w => by go_simp; try with_reducible rfl)) hHeld ?_
                  simp only [List.setIfInBounds_toArray, List.set_cons_zero, List.set_cons_succ]
                  refine take_at (i := 20) 59 rfl rfl (by kernel_rfl) (by kernel_rfl) (by kernel_rfl) (fun _ _ _ h => h) (sure_yes (by rfl) (fun w => by go_simp; try with_reducible rfl)) hHeld ?_
                  simp only [List.setIfInBounds_toArray, List.set_cons_zero, List.set_cons_succ]
                  refine take_at (i := 21) 60 rfl rfl (by kernel_rfl) (by kernel_rfl) (by kernel_rfl) (fun _ _ _ h => h) (sure_yes (by rfl) (fun w => by go_simp; try with_reducible rfl)) hHeld ?_
                  simp only [List.setIfInBounds_toArray, List.set_cons_zero, List.set_cons_succ]
                  refine take_at (i := 22) 61 rfl rfl (by kernel_rfl) (by kernel_rfl) (by kernel_rfl) (fun _ _ _ h => h) (sure_yes (by rfl) (fun w => by go_simp; try with_reducible rfl)) hHeld ?_
                  simp only [List.setIfInBounds_toArray, List.set_cons_zero, List.set_cons_succ]
                  refine take_at (i := 23) 62 rfl rfl (by kernel_rfl) (by kernel_rfl) (by kernel_rfl) (fun _ _ _ h => h) (evA_yields (by rfl) 30 (.tmp 61) rfl (xd.add (i * 38)) rfl Tryd.underlying30 evSize (fun w h j u hu => cell_under12 (CF.out j u hu) h)) hHeld ?_
                  simp only [List.setIfInBounds_toArray, List.set_cons_zero, List.set_cons_succ]
                  refine take_at (i := 24) 63 rfl rfl (by kernel_rfl) (by kernel_rfl) (by kernel_rfl) (fun _ _ _ h => h) (evA_yields (by rfl) 30 (.tmp 3) rfl ⟨w.heap.size, 0, none⟩ rfl Tryd.underlying30 evSize (fun w h j u hu => cell_under12 (by rw [Addr.add_lit, Nat.zero_add]; exact evAt_cell E4.out j u hu) h)) hHeld ?_
                  simp only [List.setIfInBounds_toArray, List.set_cons_zero, List.set_cons_succ]
                  refine ready_call2 25 64 (by kernel_rfl) rfl rfl (by rfl) 8 (.tmp 62) (.tmp 63) 30 30 rfl (.agg (evC f fv)) (.agg (evC e (.slice uo un uc))) rfl rfl (enters_of Tryd.func8 (by kernel_rfl) rfl) _ (KN.out _ (dots_below HDF.out hHeld)) (fun x wz hp => ?_)
                  obtain ⟨rfl, hb⟩ := hp
                  refine ⟨_, rfl, below_next hHeld hb, ?_⟩
                  replace hHeld := below_next hHeld hb
                  clear hb
                  simp only [List.setIfInBounds_toArray, List.set_cons_zero, List.set_cons_succ]
                  refine take_at (i := 26) 65 rfl rfl (by kernel_rfl) (by kernel_rfl) (by kernel_rfl) (fun _ _ _ h => h) (sure_yes (by rfl) (fun w => by go_simp; try with_reducible rfl)) hHeld ?_
                  simp only [List.setIfInBounds_toArray, List.set_cons_zero, List.set_cons_succ]
                  refine take_at (i := 27) 66 rfl rfl (by kernel_rfl) (by kernel_rfl) (by kernel_rfl) (fun _ _ _ h => h) (sure_yes (by rfl) (fun w => by go_simp; try with_reducible rfl)) hHeld ?_
                  simp only [List.setIfInBounds_toArray, List.set_cons_zero, List.set_cons_succ]
                  refine take_at (i := 28) 67 rfl rfl (by kernel_rfl) (by kernel_rfl) (by kernel_rfl) (fun _ _ _ h => h) (sure_yes (by rfl) (fun w => by go_simp; try with_reducible rfl)) hHeld ?_
                  simp only [List.setIfInBounds_toArray, List.set_cons_zero, List.set_cons_succ]
                  refine take_at (i := 29) 7 rfl rfl (by kernel_rfl) (by kernel_rfl) (by kernel_rfl) (fun _ _ _ h => h) (sure_yes (by rfl) (fun w => by go_simp; try with_reducible rfl)) hHeld ?_
                  simp only [List.setIfInBounds_toArray, List.set_cons_zero, List.set_cons_succ]
                  refine wpAnyH_done (by kernel_rfl) ?_ _
                  have Z := Lib.hid hHeld
                  clear hHeld
                  go_wp2
                  go_roundw
                  case rel => exact ⟨i + 1, hi1, by go_num, by rw [any_take HFK.out, HAN.out]; simp [HHIT.out], Z.out⟩
                  case measure => simp [intOf] <;> omega
          · obtain rfl : i = m := by omega
            have q0 : ¬ (i : Int) < (i : Int) := by omega
            have HFO := Lib.hid (show (X.take i).any (hitE e) = true by rw [List.take_of_length_le (Nat.le_of_eq HXL.out), HXE.out]; exact live_found _ _)
            rw [HFO.out]
            have HB1 := Lib.hid HB.out
            clear hi HB
            rename World => WA
            go_wp2
            go_loopw [9, 10, 11, 12, 13] (fun c j _ _ _ wr => ∃ k : Nat, k ≤ n ∧ j = .int .i64 (k : Int) ∧ c = .int .i64 ((((H.take k).filter (elseE e)).length : Nat) : Int) ∧ Below W4.heap.size W4 wr) (fun _ j _ _ _ _ => n - (intOf j).toNat)
            case atStart => exact ⟨0, Nat.zero_le _, rfl, rfl, HB1.out⟩
            case round =>
              rename World => Wo
              obtain ⟨k, hk, rfl, rfl, hb⟩ := hrel
              have HB := Lib.hid hb
              clear hb
              obtain ⟨oc, hoc⟩ : ∃ o, o = ((H.take k).filter (elseE e)).length := ⟨_, rfl⟩
              have HOC := Lib.hid hoc
              have hock : oc ≤ 60 := by
                have h1 : ((H.take k).filter (elseE e)).length ≤ (H.take k).length := List.length_filter_le _ _
                rw [List.length_take] at h1
                have h2 := HHE.out
                have h3 : H.length ≤ 60 := by rw [h2, List.length_map]; exact F1.out.2
                omega
              rw [← hoc]
              clear hoc
              by_cases hkn : k < n
              · have q0 : (k : Int) < (n : Int) := by omega
                have hk1 : k + 1 ≤ n := hkn
                obtain ⟨x, hx⟩ : ∃ x, us[k]? = some x := ⟨_, List.getElem?_eq_getElem (by have := HN.out; omega)⟩
                obtain ⟨vd, vc', e1, hcx⟩ := holdsU_at HV4.out n k HN.out.symm x hx
                cases e1
                have hux := HD4.out x (List.mem_of_getElem? hx)
                have hdl := (F1.out.1 x (List.mem_of_getElem? hx)).2.2.1
                have hex := fst_atM hx
                rw [← HHE.out] at hex
                obtain ⟨g, gv⟩ := x
                dsimp only at hcx hux hex hdl
                have CG4 := Lib.hid hcx
                have CG := Lib.hid (fun j u hu => cell_under12 (hcx j u hu) HB.out)
                have HDG := Lib.hid hux
                have HGK := Lib.hid hex
                have HGL := Lib.hid hdl
                have s1 : (str g.path).toList = g.path := str_toList _
                have EO := Lib.hid (evAt_kept E4.out HB.out)
                clear hx hcx hux hex hdl hk
                cases hp : (g.path == e.path) with
                | true =>
                  have hpe : g.path = e.path := by simpa using hp
                  have HEL := Lib.hid (show elseE e g = false by unfold elseE; rw [hp]; rfl)
                  go_upto_region 14 with fail
                  refine wp_region_held_drew (S := fun w' => Below Wo.heap.size Wo w') (by kernel_rfl) (drawS (Below.refl _ _)) (fun hHeld => ?_)
                  generalize Wo.drew = wd at hHeld ⊢
                  refine take_at (i := 0) 74 rfl rfl (by kernel_rfl) (by kernel_rfl) (by kernel_rfl) (fun _ _ _ h => h) (sure_yes (by rfl) (fun w => by go_simp; try with_reducible rfl)) hHeld ?_
                  simp only [List.setIfInBounds_toArray, List.set_cons_zero, List.set_cons_succ]
                  refine take_at (i := 1) 75 rfl rfl (by kernel_rfl) (by kernel_rfl) (by kernel_rfl) (fun _ _ _ h => h) (sure_yes (by rfl) (fun w => by go_simp; try with_reducible rfl)) hHeld ?_
                  simp only [List.setIfInBounds_toArray, List.set_cons_zero, List.set_cons_succ]
                  refine take_at (i := 2) 76 rfl rfl (by kernel_rfl) (by kernel_rfl) (by kernel_rfl) (fun _ _ _ h => h) (sure_yes (by rfl) (fun w => by go_simp; try with_reducible rfl)) hHeld ?_
                  simp only [List.setIfInBounds_toArray, List.set_cons_zero, List.set_cons_succ]
                  refine take_at (i := 3) 77 rfl rfl (by kernel_rfl) (by kernel_rfl) (by kernel_rfl) (fun _ _ _ h => h) (sure_yes (by rfl) (fun w => by go_simp; try with_reducible rfl)) hHeld ?_
                  simp only [List.setIfInBounds_toArray, List.set_cons_zero, List.set_cons_succ]
                  refine take_at (i := 5) 79 rfl rfl (by kernel_rfl) (by kernel_rfl) (by kernel_rfl) (fun _ _ _ h => h) (sure_yes (by rfl) (fun w => by go_simp; try with_reducible rfl)) hHeld ?_
                  simp only [List.setIfInBounds_toArray, List.set_cons_zero, List.set_cons_succ]
                  refine take_at (i := 4) 78 rfl rfl (by kernel_rfl) (by kernel_rfl) (by kernel_rfl) (fun _ _ _ h => h) (str_yields12 (by rfl) 9 (.tmp 77) rfl ⟨(vd.add (k * 38)).block, (vd.add (k * 38)).off + 4, none⟩ rfl (str g.path) Tryd.underlying9 (fun w h => cell_under12 (ev_fieldM CG.out 4 (by decide) _ (evC_at _ _).2.2.2.2.1) h)) hHeld ?_
                  simp only [List.setIfInBounds_toArray, List.set_cons_zero, List.set_cons_succ]
                  refine take_at (i := 6) 80 rfl rfl (by kernel_rfl) (by kernel_rfl) (by kernel_rfl) (fun _ _ _ h => h) (str_yields12 (by rfl) 9 (.tmp 79) rfl ⟨w.heap.size, 4, none⟩ rfl (str e.path) Tryd.underlying9 (fun w h => cell_under12 (evAt_cells EO.out).2.2.2.2.1 h)) hHeld ?_
                  simp only [List.setIfInBounds_toArray, List.set_cons_zero, List.set_cons_succ]
                  refine take_at (i := 7) 81 rfl rfl (by kernel_rfl) (by kernel_rfl) (by kernel_rfl) (fun _ _ _ h => h) (sure_yes (by rfl) (fun w => by go_simp; try with_reducible rfl)) hHeld ?_
                  simp only [List.setIfInBounds_toArray, List.set_cons_zero, List.set_cons_succ]
                  refine wpAnyH_done (by kernel_rfl) ?_ _
                  have Z := Lib.hid hHeld
                  clear hHeld
                  go_wp2
                  go_roundw
                  case rel => exact ⟨k + 1, hk1, by go_num, by rw [else_take HGK.out, HEL.out, ← HOC.out]; rfl, below_next HB.out Z.out⟩
                  case measure => simp [intOf] <;> omega
                | false =>
                  have HEL := Lib.hid (show elseE e g = true by unfold elseE; rw [hp]; rfl)
                  have HPN := Lib.hid (show g.path ≠ e.path from beq_eq_false_iff_ne.1 hp)
                  go_upto_region 14 with fail
                  refine wp_region_held_drew (S := fun w' => Below Wo.heap.size Wo w') (by kernel_rfl) (drawS (Below.refl _ _)) (fun hHeld => ?_)
                  generalize Wo.drew = wd at hHeld ⊢
                  refine take_at (i := 0) 74 rfl rfl (by kernel_rfl) (by kernel_rfl) (by kernel_rfl) (fun _ _ _ h => h) (sure_yes (by rfl) (fun w => by go_simp; try with_reducible rfl)) hHeld ?_
                  simp only [List.setIfInBounds_toArray, List.set_cons_zero, List.set_cons_succ]
                  refine take_at (i := 1) 75 rfl rfl (by kernel_rfl) (by kernel_rfl) (by kernel_rfl) (fun _ _ _ h => h) (sure_yes (by rfl) (fun w => by go_simp; try with_reducible rfl)) hHeld ?_
                  simp only [List.setIfInBounds_toArray, List.set_cons_zero, List.set_cons_succ]
                  refine take_at (i := 2) 76 rfl rfl (by kernel_rfl) (by kernel_rfl) (by kernel_rfl) (fun _ _ _ h => h) (sure_yes (by rfl) (fun w => by go_simp; try with_reducible rfl)) hHeld ?_
                  simp only [List.setIfInBounds_toArray, List.set_cons_zero, List.set_cons_succ]
                  refine take_at (i := 3) 77 rfl rfl (by kernel_rfl) (by kernel_rfl) (by kernel_rfl) (fun _ _ _ h => h) (sure_yes (by rfl) (fun w => by go_simp; try with_reducible rfl)) hHeld ?_
                  simp only [List.setIfInBounds_toArray, List.set_cons_zero, List.set_cons_succ]
                  refine take_at (i := 5) 79 rfl rfl (by kernel_rfl) (by kernel_rfl) (by kernel_rfl) (fun _ _ _ h => h) (sure_yes (by rfl) (fun w => by go_simp; try with_reducible rfl)) hHeld ?_
                  simp only [List.setIfInBounds_toArray, List.set_cons_zero, List.set_cons_succ]
                  refine take_at (i := 4) 78 rfl rfl (by kernel_rfl) (by kernel_rfl) (by kernel_rfl) (fun _ _ _ h => h) (str_yields12 (by rfl) 9 (.tmp 77) rfl ⟨(vd.add (k * 38)).block, (vd.add (k * 38)).off + 4, none⟩ rfl (str g.path) Tryd.underlying9 (fun w h => cell_under12 (ev_fieldM CG.out 4 (by decide) _ (evC_at _ _).2.2.2.2.1) h)) hHeld ?_
                  simp only [List.setIfInBounds_toArray, List.set_cons_zero, List.set_cons_succ]
                  refine take_at (i := 6) 80 rfl rfl (by kernel_rfl) (by kernel_rfl) (by kernel_rfl) (fun _ _ _ h => h) (str_yields12 (by rfl) 9 (.tmp 79) rfl ⟨w.heap.size, 4, none⟩ rfl (str e.path) Tryd.underlying9 (fun w h => cell_under12 (evAt_cells EO.out).2.2.2.2.1 h)) hHeld ?_
                  simp only [List.setIfInBounds_toArray, List.set_cons_zero, List.set_cons_succ]
                  refine take_at (i := 7) 81 rfl rfl (by kernel_rfl) (by kernel_rfl) (by kernel_rfl) (fun _ _ _ h => h) (sure_yes (by rfl) (fun w => by go_simp; try with_reducible rfl)) hHeld ?_
                  simp only [List.setIfInBounds_toArray, List.set_cons_zero, List.set_cons_succ]
                  refine wpAnyH_done (by kernel_rfl) ?_ _
                  have Z5 := Lib.hid hHeld
                  clear hHeld
                  rename World => W5
                  have HB5 := Lib.hid (below_next HB.out Z5.out)
                  have AT1 := Lib.hid (at_any xs (by have := HMX.out; omega) HFX.out g.path (.slice xo i xc) W5 (holdsU_below HHX.out HB5.out) (depsU_below HDX.out HB5.out))
                  rw [HXS.out] at AT1
                  have c6 := ev_fieldM (fun j u hu => cell_under12 (CG4.out j u hu) HB5.out) 4 (by decide) _ (evC_at g gv).2.2.2.2.1
                  go_upto_region 16 with fail
                  go_upto_region 17 with (first
                    | (go_at_call 9; refine AT1.out.mono ?_; rintro x W6 ⟨y6, rfl, hh, hb⟩; have HY6 := Lib.hid hh; have HB6 := Lib.hid (below_next HB5.out hb); clear hh hb))
                  clear c6
                  obtain ⟨ss, hss, hds, hhs⟩ := u_of_evs HY6.out
                  obtain ⟨sn, hsn⟩ : ∃ z, z = ss.length := ⟨_, rfl⟩
                  obtain ⟨so, sc, rfl⟩ := holdsU_shape hhs sn hsn
                  have HSS := Lib.hid hss
                  have HDS := Lib.hid hds
                  have HHS := Lib.hid hhs
                  have HSN := Lib.hid hsn
                  have hsn61 : sn ≤ 61 := by
                    have h1 := congrArg List.length hss
                    have h2 : (grpE X g.path).length ≤ X.length := List.length_filter_le _ _
                    rw [List.length_map] at h1
                    have := HXL.out; omega
                  have HSL := Lib.hid (show ∀ x ∈ ss, x.1.deps.length < 2000000 from fun x hx => by
                    have h1 : x.1 ∈ grpE X g.path := by rw [← hss]; exact List.mem_map_of_mem hx
                    have h2 := mem_flt h1
                    rw [← HXS.out] at h2
                    obtain ⟨z, hz, hzx⟩ := List.mem_map.1 h2
                    rw [← hzx]; exact HFX.out z hz)
                  have CG6 := Lib.hid (fun j u hu => cell_under12 (CG4.out j u hu) HB6.out)
                  have HDG6 := Lib.hid (dots_below HDG.out HB6.out)
                  have HOK := Lib.hid (show (grpE X g.path).any (fun z => sameEv z g) = true by
                    rw [HXE.out]; exact live_other (by rw [← HHE.out]; exact List.mem_of_getElem? HGK.out) HPN.out)
                  clear hss hds hhs hsn
                  go_wp2
                  go_loopw [12, 13] (fun b c wr => ∃ p : Nat, p ≤ sn ∧ c = .int .i64 (p : Int) ∧ b = .bool (((grpE X g.path).take p).any (fun z => sameEv z g)) ∧ Below W6.heap.size W6 wr) (fun _ c _ => sn - (intOf c).toNat)
                  case atStart => exact ⟨0, Nat.zero_le _, rfl, rfl, Below.refl _ _⟩
                  case round =>
                    obtain ⟨p, hp', rfl, rfl, hb⟩ := hrel
                    have HBI := Lib.hid hb
                    clear hb
                    by_cases hps : p < sn
                    · have q2 : (p : Int) < (sn : Int) := by omega
                      have hp1 : p + 1 ≤ sn := hps
                      obtain ⟨x, hx⟩ : ∃ x, ss[p]? = some x := ⟨_, List.getElem?_eq_getElem (by have := HSN.out; omega)⟩
                      obtain ⟨sd, sc', e1, hcx⟩ := holdsU_at HHS.out sn p HSN.out.symm x hx
                      cases e1
                      have hux := HDS.out x (List.mem_of_getElem? hx)
                      have hdl := HSL.out x (List.mem_of_getElem? hx)
                      have hex := fst_atM hx
                      rw [HSS.out] at hex
                      obtain ⟨f, fv⟩ := x
                      dsimp only at hcx hux hex hdl
                      have CF := Lib.hid hcx
                      have HDF := Lib.hid hux
                      have HFK := Lib.hid hex
                      have SM := Lib.hid (fun w hv hu => refSame_any12 f g hdl fv gv w hv hu)
                      obtain ⟨D, hD⟩ : ∃ b, ((grpE X g.path).take p).any (fun z => sameEv z g) = b := ⟨_, rfl⟩
                      have HAN := Lib.hid hD
                      obtain ⟨sb, hsb⟩ : ∃ b, sameEv f g = b := ⟨_, rfl⟩
                      have HSB := Lib.hid hsb
                      rw [hsb] at SM
                      rw [hD]
                      clear hx hcx hux hex hdl hp' hD hsb
                      cases D with
                      | true =>
                        go_upto_region 21 with fail
                        refine wp_region_held_drew (S := fun w' => Below W6.heap.size W6 w') (by kernel_rfl) (drawS HBI.out) (fun hHeld => ?_)
                        generalize wr.drew = wd at hHeld ⊢
                        refine take_at (i := 0) 97 rfl rfl (by kernel_rfl) (by kernel_rfl) (by kernel_rfl) (fun _ _ _ h => h) (sure_yes (by rfl) (fun w => by go_simp; try with_reducible rfl)) hHeld ?_
                        simp only [List.setIfInBounds_toArray, List.set_cons_zero, List.set_cons_succ]
                        refine take_at (i := 1) 98 rfl rfl (by kernel_rfl) (by kernel_rfl) (by kernel_rfl) (fun _ _ _ h => h) (sure_yes (by rfl) (fun w => by go_simp; try with_reducible rfl)) hHeld ?_
                        simp only [List.setIfInBounds_toArray, List.set_cons_zero, List.set_cons_succ]
                        refine take_at (i := 2) 99 rfl rfl (by kernel_rfl) (by kernel_rfl) (by kernel_rfl) (fun _ _ _ h => h) (.inr ⟨by rfl, rfl⟩) hHeld ?_
                        simp only [List.setIfInBounds_toArray, List.set_cons_zero, List.set_cons_succ]
                        refine take_at (i := 3) 100 rfl rfl (by kernel_rfl) (by kernel_rfl) (by kernel_rfl) (fun _ _ _ h => h) (.inr ⟨by rfl, rfl⟩) hHeld ?_
                        simp only [List.setIfInBounds_toArray, List.set_cons_zero, List.set_cons_succ]
                        refine take_at (i := 4) 101 rfl rfl (by kernel_rfl) (by kernel_rfl) (by kernel_rfl) (fun _ _ _ h => h) (.inr ⟨by rfl, rfl⟩) hHeld ?_
                        simp only [List.setIfInBounds_toArray, List.set_cons_zero, List.set_cons_succ]
                        refine take_at (i := 6) 103 rfl rfl (by kernel_rfl) (by kernel_rfl) (by kernel_rfl) (fun _ _ _ h => h) (.inr ⟨by rfl, rfl⟩) hHeld ?_
                        simp only [List.setIfInBounds_toArray, List.set_cons_zero, List.set_cons_succ]
                        refine take_at (i := 7) 104 rfl rfl (by kernel_rfl) (by kernel_rfl) (by kernel_rfl) (fun _ _ _ h => h) (.inr ⟨by rfl, rfl⟩) hHeld ?_
                        simp only [List.setIfInBounds_toArray, List.set_cons_zero, List.set_cons_succ]
                        refine take_at (i := 8) 105 rfl rfl (by kernel_rfl) (by kernel_rfl) (by kernel_rfl) (fun _ _ _ h => h) (.inr ⟨by rfl, rfl⟩) hHeld ?_
                        simp only [List.setIfInBounds_toArray, List.set_cons_zero, List.set_cons_succ]
                        refine take_at (i := 5) 102 rfl rfl (by kernel_rfl) (by kernel_rfl) (by kernel_rfl) (fun _ _ _ h => h) (.inr ⟨by rfl, rfl⟩) hHeld ?_
                        simp only [List.setIfInBounds_toArray, List.set_cons_zero, List.set_cons_succ]
                        refine take_at (i := 9) 106 rfl rfl (by kernel_rfl) (by kernel_rfl) (by kernel_rfl) (fun _ _ _ h => h) (.inr ⟨by rfl, rfl⟩) hHeld ?_
                        simp only [List.setIfInBounds_toArray, List.set_cons_zero, List.set_cons_succ]
                        refine take_at (i := 10) 107 rfl rfl (by kernel_rfl) (by kernel_rfl) (by kernel_rfl) (fun _ _ _ h => h) (.inr ⟨by rfl, rfl⟩) hHeld ?_
                        simp only [List.setIfInBounds_toArray, List.set_cons_zero, List.set_cons_succ]
                        refine take_at (i := 11) 108 rfl rfl (by kernel_rfl) (by kernel_rfl) (by kernel_rfl) (fun _ _ _ h => h) (sure_yes (by rfl) (fun w => by go_simp; try with_reducible rfl)) hHeld ?_
                        simp only [List.setIfInBounds_toArray, List.set_cons_zero, List.set_cons_succ]
                        refine take_at (i := 12) 12 rfl rfl (by kernel_rfl) (by kernel_rfl) (by kernel_rfl) (fun _ _ _ h => h) (sure_yes (by rfl) (fun w => by go_simp; try with_reducible rfl)) hHeld ?_
                        simp only [List.setIfInBounds_toArray, List.set_cons_zero, List.set_cons_succ]
                        refine wpAnyH_done (by kernel_rfl) ?_ _
                        have Z := Lib.hid hHeld
                        clear hHeld
                        go_wp2
                        go_roundw
                        case rel => exact ⟨p + 1, hp1, by go_num, by rw [any_take HFK.out, HAN.out]; simp, Z.out⟩
                        case measure => simp [intOf] <;> omega
                      | false =>
                        go_upto_region 21 with fail
                        refine wp_region_held_drew (S := fun w' => Below W6.heap.size W6 w') (by kernel_rfl) (drawS HBI.out) (fun hHeld => ?_)
                        generalize wr.drew = wd at hHeld ⊢
                        refine take_at (i := 0) 97 rfl rfl (by kernel_rfl) (by kernel_rfl) (by kernel_rfl) (fun _ _ _ h => h) (sure_yes (by rfl) (fun w => by go_simp; try with_reducible rfl)) hHeld ?_
                        simp only [List.setIfInBounds_toArray, List.set_cons_zero, List.set_cons_succ]
                        refine take_at (i := 1) 98 rfl rfl (by kernel_rfl) (by kernel_rfl) (by kernel_rfl) (fun _ _ _ h => h) (sure_yes (by rfl) (fun w => by go_simp; try with_reducible rfl)) hHeld ?_
                        simp only [List.setIfInBounds_toArray, List.set_cons_zero, List.set_cons_succ]
                        refine take_at (i := 2) 99 rfl rfl (by kernel_rfl) (by kernel_rfl) (by kernel_rfl) (fun _ _ _ h => h) (sure_yes (by rfl) (fun w => by go_simp; try with_reducible rfl)) hHeld ?_
                        simp only [List.setIfInBounds_toArray, List.set_cons_zero, List.set_cons_succ]
                        refine take_at (i := 3) 100 rfl rfl (by kernel_rfl) (by kernel_rfl) (by kernel_rfl) (fun _ _ _ h => h) (sure_yes (by rfl) (fun w => by go_simp; try with_reducible rfl)) hHeld ?_
                        simp only [List.setIfInBounds_toArray, List.set_cons_zero, List.set_cons_succ]
                        refine take_at (i := 4) 101 rfl rfl (by kernel_rfl) (by kernel_rfl) (by kernel_rfl) (fun _ _ _ h => h) (sure_yes (by rfl) (fun w => by go_simp; try with_reducible rfl)) hHeld ?_
                        simp only [List.setIfInBounds_toArray, List.set_cons_zero, List.set_cons_succ]
                        refine take_at (i := 6) 103 rfl rfl (by kernel_rfl) (by kernel_rfl) (by kernel_rfl) (fun _ _ _ h => h) (sure_yes (by rfl) (fun w => by go_simp; try with_reducible rfl)) hHeld ?_
                        simp only [List.setIfInBounds_toArray, List.set_cons_zero, List.set_cons_succ]
                        refine take_at (i := 7) 104 rfl rfl (by kernel_rfl) (by kernel_rfl) (by kernel_rfl) (fun _ _ _ h => h) (sure_yes (by rfl) (fun w => by go_simp; try with_reducible rfl)) hHeld ?_
                        simp only [List.setIfInBounds_toArray, List.set_cons_zero, List.set_cons_succ]
                        refine take_at (i := 8) 105 rfl rfl (by kernel_rfl) (by kernel_rfl) (by kernel_rfl) (fun _ _ _ h => h) (sure_yes (by rfl) (fun w => by go_simp; try with_reducible rfl)) hHeld ?_
                        simp only [List.setIfInBounds_toArray, List.set_cons_zero, List.set_cons_succ]
                        refine take_at (i := 5) 102 rfl rfl (by kernel_rfl) (by kernel_rfl) (by kernel_rfl) (fun _ _ _ h => h) (evA_yields (by rfl) 30 (.tmp 101) rfl (sd.add (p * 38)) rfl Tryd.underlying30 evSize (fun w h j u hu => cell_under12 (CF.out j u hu) h)) hHeld ?_
                        simp only [List.setIfInBounds_toArray, List.set_cons_zero, List.set_cons_succ]
                        refine take_at (i := 9) 106 rfl rfl (by kernel_rfl) (by kernel_rfl) (by kernel_rfl) (fun _ _ _ h => h) (evA_yields (by rfl) 30 (.tmp 105) rfl (vd.add (k * 38)) rfl Tryd.underlying30 evSize (fun w h j u hu => cell_under12 (CG6.out j u hu) h)) hHeld ?_
                        simp only [List.setIfInBounds_toArray, List.set_cons_zero, List.set_cons_succ]
                        refine ready_call2 10 107 (by kernel_rfl) rfl rfl (by rfl) 10 (.tmp 102) (.tmp 106) 30 30 rfl (.agg (evC f fv)) (.agg (evC g gv)) rfl rfl (enters_of Tryd.func10 (by kernel_rfl) rfl) _ (SM.out _ (dots_below HDF.out hHeld) (dots_below HDG6.out hHeld)) (fun x wz hp => ?_)
                        obtain ⟨rfl, hb⟩ := hp
                        refine ⟨_, rfl, below_next hHeld hb, ?_⟩
                        replace hHeld := below_next hHeld hb
                        clear hb
                        simp only [List.setIfInBounds_toArray, List.set_cons_zero, List.set_cons_succ]
                        refine take_at (i := 11) 108 rfl rfl (by kernel_rfl) (by kernel_rfl) (by kernel_rfl) (fun _ _ _ h => h) (sure_yes (by rfl) (fun w => by go_simp; try with_reducible rfl)) hHeld ?_
                        simp only [List.setIfInBounds_toArray, List.set_cons_zero, List.set_cons_succ]
                        refine take_at (i := 12) 12 rfl rfl (by kernel_rfl) (by kernel_rfl) (by kernel_rfl) (fun _ _ _ h => h) (sure_yes (by rfl) (fun w => by go_simp; try with_reducible rfl)) hHeld ?_
                        simp only [List.setIfInBounds_toArray, List.set_cons_zero, List.set_cons_succ]
                        refine wpAnyH_done (by kernel_rfl) ?_ _
                        have Z := Lib.hid hHeld
                        clear hHeld
                        go_wp2
                        go_roundw
                        case rel => exact ⟨p + 1, hp1, by go_num, by rw [any_take HFK.out, HAN.out, HSB.out]; simp, Z.out⟩
                        case measure => simp [intOf] <;> omega
                    · obtain rfl : p = sn := by omega
                      have q2 : ¬ (p : Int) < (p : Int) := by omega
                      have HAL := Lib.hid (show ((grpE X g.path).take p).any (fun z => sameEv z g) = true by
                        rw [List.take_of_length_le (by rw [← HSS.out, List.length_map]; exact Nat.le_of_eq HSN.out.symm)]; exact HOK.out)
                      rw [HAL.out]
                      have qo : (oc : Int) + 1 = ((oc + 1 : Nat) : Int) := by omega
                      go_wp2
                      go_roundw
                      case rel => exact ⟨k + 1, hk1, by go_num, by rw [else_take HGK.out, HEL.out, ← HOC.out]; simp, below_next HB6.out HBI.out⟩
                      case measure => simp [intOf] <;> omega
              · obtain rfl : k = n := by omega
                have q0 : ¬ (k : Int) < (k : Int) := by omega
                have AT2 := Lib.hid (at_any xs (by have := HMX.out; omega) HFX.out e.path (.slice xo i xc) Wo (holdsU_below HHX.out HB.out) (depsU_below HDX.out HB.out))
                rw [HXS.out] at AT2
                have c5 := cell_under12 (evAt_cells E4.out).2.2.2.2.1 HB.out
                have HCT := Lib.hid (show i = oc + (grpE X e.path).length by
                  have h1 := live_count (us.map (·.1)) e
                  rw [← HXE.out, ← HHE.out, HXL.out] at h1
                  rw [h1, HOC.out, List.take_of_length_le (by rw [HHE.out, List.length_map]; exact Nat.le_of_eq HN.out.symm)])
                obtain ⟨gn, hgn⟩ : ∃ z, z = (grpE X e.path).length := ⟨_, rfl⟩
                rw [← hgn] at HCT
                have hct : (oc : Int) + (gn : Int) = (i : Int) := by have := HCT.out; omega
                go_upto_region 24 with fail
                go_wp2_with (first
                  | (go_at_call 9; refine AT2.out.mono ?_; rintro x W9 ⟨y9, rfl, hh, hb⟩; obtain ⟨yo, yc, ey⟩ := evs_shapeL hh; rw [← hgn] at ey; subst ey; have B9 := Lib.hid (below_next HB.out hb); clear hh hb))
                go_ret
                exact ⟨by first | rfl | (simp_all; done), below_next B4.out B9.out⟩
    · have q1 : (un : Int) > 60 := by omega
      have q1b : (60 : Int) < (un : Int) := by omega
      go_wp2_with (first
        | (go_at_call 5; refine (S1.out _ HV1.out HD1.out).mono ?_; rintro x W2 ⟨rfl, hb⟩; have B2 := Lib.hid (below_next B1.out hb); have C2 := Lib.hid hb; have c3 := cell_under12 c2 hb; clear hb))
      go_ret
      exact ⟨rfl, B2.out⟩
end Go.Proofs.YtcdjkjadbhejpaaDoor
