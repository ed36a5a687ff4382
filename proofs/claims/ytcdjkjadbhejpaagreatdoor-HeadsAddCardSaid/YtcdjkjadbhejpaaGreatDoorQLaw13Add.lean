/-
The walk of the statement on any events that are added, and joined.
-/
import Derived.Test.YtcdjkjadbhejpaaGreatDoorPk12
namespace Go.Proofs.YtcdjkjadbhejpaaGreatDoor
open Go.RowKit
theorem refAdd_evs (us : List (Ev × Value)) (hl : us.length ≤ 40000) (hf : ∀ x ∈ us, x.1.deps.length < 2000000) (e : Ev) (hde : e.deps.length < 2000000) (v u : Value) (w : World) (hv : HoldsU w v us) (hd : DepsU w us) (hu : HasDots w u e.deps) : Calls Tryz.prog 17 #[v, .agg (evC e u)] w fun x w' => ∃ y, x = .returned y ∧ HasEvs w' y (addE (us.map (·.1)) e) ∧ Below w.heap.size w w' := by
  refine (refAdd_any13 us hl hf e hde v u w hv hd hu).mono ?_
  rintro x w' ⟨y, vs, rfl, hh, hm, hz, -, hb⟩
  refine ⟨y, rfl, ?_, hb⟩
  rw [← hm]
  exact evs_of_u hh fun z hzz => by
    rcases hz z hzz with h | h
    · exact dots_below (hd z h) hb
    · rw [h]; exact dots_below hu hb
theorem refJoin_evs (us ks : List (Ev × Value)) (hl : us.length + ks.length ≤ 40000) (hf : ∀ x ∈ us, x.1.deps.length < 2000000) (hg : ∀ x ∈ ks, x.1.deps.length < 2000000) (v u : Value) (w : World) (hv : HoldsU w v us) (hd : DepsU w us) (hu : HoldsU w u ks) (he : DepsU w ks) : Calls Tryz.prog 19 #[v, u] w fun x w' => ∃ y, x = .returned y ∧ HasEvs w' y (joinE (us.map (·.1)) (ks.map (·.1))) ∧ Below w.heap.size w w' := by
  refine (refJoin_any13 us ks hl hf hg v u w hv hd hu he).mono ?_
  rintro x w' ⟨y, vs, rfl, hh, hm, hz, -, hb⟩
  refine ⟨y, rfl, ?_, hb⟩
  rw [← hm]
  exact evs_of_u hh fun z hzz => by
    rcases hz z hzz with h | h
    · exact dots_below (hd z h) hb
    · exact dots_below (he z h) hb
set_option linter.unusedSimpArgs false in
set_option maxRecDepth 100000 in
set_option maxHeartbeats 16000000 in
theorem headsAdd_walk (us ks : List (Ev × Value)) (hf : WideU us) (hg : WideU ks) (e : Ev) (hI1 : I64 e.r) (hI2 : I64 e.q) (hp : e.path.length < 1152921504606846976) (v t u : Value) (w : World) (hv : HoldsU w v us) (hd : DepsU w us) (ht : HoldsU w t ks) (hdt : DepsU w ks) (hu : HasDots w u e.deps) (hT : PowTab w) : Calls Tryz.prog 3 #[v, t, .agg (evC e u)] w fun x w' => x = .returned (.bool true) ∧ Below w.heap.size w w' := by
  have h0 := (Below.refl w.heap.size w).alloc (Nat.le_refl _) (.cells (evC e u) 30 (0, 0))
  have E0 := Lib.hid (box_ev w 30 e u)
  have B0 := Lib.hid h0
  have HT := Lib.hid hT
  have HV := Lib.hid (holdsU_below hv h0)
  have HD := Lib.hid (depsU_below hd h0)
  have HK := Lib.hid (holdsU_below ht h0)
  have HDK := Lib.hid (depsU_below hdt h0)
  have HU := Lib.hid (dots_below hu h0)
  have HF := Lib.hid hf
  have HG := Lib.hid hg
  have HI := Lib.hid (show I64 e.r ∧ I64 e.q ∧ e.path.length < 1152921504606846976 from ⟨hI1, hI2, hp⟩)
  obtain ⟨n, hn⟩ : ∃ n, n = us.length := ⟨_, rfl⟩
  obtain ⟨m, hm⟩ : ∃ n, n = ks.length := ⟨_, rfl⟩
  obtain ⟨un, hun⟩ : ∃ n, n = e.deps.length := ⟨_, rfl⟩
  have HN := Lib.hid hn
  have HM := Lib.hid hm
  have HUN := Lib.hid hun
  obtain ⟨vo, vc, e1⟩ := holdsU_shape hv n hn
  obtain ⟨ko, kc, e2⟩ := holdsU_shape ht m hm
  obtain ⟨uo, uc, e3⟩ := dots_shape hu _ rfl
  rw [← hun] at e3
  subst e1 e2 e3
  clear h0 hT hv hd ht hdt hu hf hg hI1 hI2 hp hn hm hun
  have S1 := Lib.hid (fun w hv hd => small_any13 us (.slice vo n vc) w hv hd)
  have S2 := Lib.hid (fun w hv hd => small_any13 ks (.slice ko m kc) w hv hd)
  go_enter Tryz.func3, Tryz.ntmps3
  go_upto_region 1 with fail
  generalize w.alloc (.cells (evC e (.slice uo un uc)) 30 (0, 0)) = W0 at *
  go_upto_region 2 with (first
    | (go_at_call 11; refine (awake13_any _ (powTab_below HT.out B0.out)).mono ?_; rintro x W1 ⟨rfl, hb⟩; have B1 := Lib.hid (below_next B0.out hb); have C1 := Lib.hid hb; clear hb))
  have E1 := Lib.hid (evAt_kept E0.out C1.out)
  have c2 := (evAt_cells E1.out).2.2.1
  have HV1 := Lib.hid (holdsU_below HV.out C1.out)
  have HD1 := Lib.hid (depsU_below HD.out C1.out)
  have HK1 := Lib.hid (holdsU_below HK.out C1.out)
  have HDK1 := Lib.hid (depsU_below HDK.out C1.out)
  have HU1 := Lib.hid (dots_below HU.out C1.out)
  have BW := Lib.hid (Below.refl W1.heap.size W1)
  cases hs1 : smallB us with
  | false =>
    rw [hs1] at S1
    go_wp2_with (first
      | (go_at_call 12; (with_reducible refine (S1.out _ HV1.out HD1.out).mono ?_); rintro x W2 ⟨rfl, hb⟩; have B2 := Lib.hid (below_next B1.out hb); have C2 := Lib.hid hb; clear hb))
    go_ret
    exact ⟨rfl, B2.out⟩
  | true =>
    rw [hs1] at S1
    have F1 := Lib.hid (fit_small HF.out hs1)
    clear hs1
    cases hs2 : smallB ks with
    | false =>
      rw [hs2] at S2
      go_wp2_with (first
        | (go_at_call 12; (with_reducible refine (S1.out _ HV1.out HD1.out).mono ?_); rintro x W2 ⟨rfl, hb⟩; have B2 := Lib.hid (below_next B1.out hb); have C2 := Lib.hid hb; clear hb)
        | (go_at_call 12; (with_reducible refine (S2.out _ (holdsU_below HK1.out C2.out) (depsU_below HDK1.out C2.out)).mono ?_); rintro x W3 ⟨rfl, hb⟩; have B3 := Lib.hid (below_next B2.out hb); have C3 := Lib.hid (below_next C2.out hb); clear hb))
      go_ret
      exact ⟨rfl, B3.out⟩
    | true =>
      rw [hs2] at S2
      have F2 := Lib.hid (fit_small HG.out hs2)
      clear hs2
      by_cases hu6 : un ≤ 60
      · have q1 : ¬ (un : Int) > 60 := by omega
        have q1b : ¬ (60 : Int) < (un : Int) := by omega
        have FE := Lib.hid (show FitE e from ⟨HI.out.1, HI.out.2.1, by have := HUN.out; omega, HI.out.2.2⟩)
        have c3 := fun (W : World) (h : Below W1.heap.size W1 W) => cell_under12 c2 h
        go_upto_region 4 with (first
          | (go_at_call 12; (with_reducible refine (S1.out _ HV1.out HD1.out).mono ?_); rintro x W2 ⟨rfl, hb⟩; have B2 := Lib.hid (below_next B1.out hb); have C2 := Lib.hid hb; clear hb)
          | (go_at_call 12; (with_reducible refine (S2.out _ (holdsU_below HK1.out C2.out) (depsU_below HDK1.out C2.out)).mono ?_); rintro x W3 ⟨rfl, hb⟩; have B3 := Lib.hid (below_next B2.out hb); have C3 := Lib.hid (below_next C2.out hb); have c2 := cell_under12 c2 C3.out; clear hb))
        have HVs := Lib.hid (holdsU_below HV1.out C3.out)
        have HDs := Lib.hid (depsU_below HD1.out C3.out)
        have HKs := Lib.hid (holdsU_below HK1.out C3.out)
        have HEs := Lib.hid (depsU_below HDK1.out C3.out)
        have HUs := Lib.hid (dots_below HU1.out C3.out)
        have E1 := Lib.hid (evAt_kept E1.out C3.out)
        have HTs := Lib.hid (powTab_below HT.out B3.out)
        have MY := Lib.hid (fun w (hb : Below W3.heap.size W3 w) => may_heads13 us (by have := F1.out.2; omega) F1.out.1 (.slice vo n vc) w (holdsU_below HVs.out hb) (depsU_below HDs.out hb) (powTab_below HTs.out hb))
        have RM := Lib.hid (fun w (hb : Below W3.heap.size W3 w) => refMayH_any us (by have := F1.out.2; omega) F1.out.1 (.slice vo n vc) w (holdsU_below HVs.out hb) (depsU_below HDs.out hb))
        obtain ⟨M, hM⟩ : ∃ b, mayHs (us.map (·.1)) = b := ⟨_, rfl⟩
        rw [hM] at MY RM
        clear hM
        have fu : ∀ x ∈ us, x.1.deps.length < 2000000 := fun x hx => (F1.out.1 x hx).2.2.1
        have fk : ∀ x ∈ ks, x.1.deps.length < 2000000 := fun x hx => (F2.out.1 x hx).2.2.1
        have AD := Lib.hid (fun w (hb : Below W3.heap.size W3 w) => add_any us (by have := F1.out.2; omega) F1.out.1 e FE.out (.slice vo n vc) (.slice uo un uc) w (holdsU_below HVs.out hb) (depsU_below HDs.out hb) (dots_below HUs.out hb))
        have RA := Lib.hid (fun w (hb : Below W3.heap.size W3 w) => refAdd_evs us (by have := F1.out.2; omega) fu e FE.out.2.2.1 (.slice vo n vc) (.slice uo un uc) w (holdsU_below HVs.out hb) (depsU_below HDs.out hb) (dots_below HUs.out hb))
        have JN := Lib.hid (fun w (hb : Below W3.heap.size W3 w) => joinH_any us ks (by have := F1.out.2; have := F2.out.2; omega) F1.out.1 F2.out.1 (.slice vo n vc) (.slice ko m kc) w (holdsU_below HVs.out hb) (depsU_below HDs.out hb) (holdsU_below HKs.out hb) (depsU_below HEs.out hb))
        have RJ := Lib.hid (fun w (hb : Below W3.heap.size W3 w) => refJoin_evs us ks (by have := F1.out.2; have := F2.out.2; omega) fu fk (.slice vo n vc) (.slice ko m kc) w (holdsU_below HVs.out hb) (depsU_below HDs.out hb) (holdsU_below HKs.out hb) (depsU_below HEs.out hb))
        have fm : ∀ e ∈ us.map (·.1), FitE e := fun e he => by obtain ⟨x, hx, rfl⟩ := List.mem_map.1 he; exact F1.out.1 x hx
        have fn : ∀ e ∈ ks.map (·.1), FitE e := fun e he => by obtain ⟨x, hx, rfl⟩ := List.mem_map.1 he; exact F2.out.1 x hx
        have L1 := Lib.hid (fun w a b ha hb => list_same (addE (us.map (·.1)) e) (by have h := addE_len (us.map (·.1)) e; rw [List.length_map] at h; have := F1.out.2; omega) (fun f hf => (addE_sub hf).elim (fun h => by rw [h]; exact FE.out) (fm f)) a b w ha hb)
        have L2 := Lib.hid (fun w a b ha hb => list_same (joinE (us.map (·.1)) (ks.map (·.1))) (by have h := join_len (us.map (·.1)) (ks.map (·.1)); rw [List.length_map, List.length_map] at h; have := F1.out.2; have := F2.out.2; omega) (fun f hf => (join_sub hf).elim (fm f) (fn f)) a b w ha hb)
        clear fu fk fm fn
        generalize addE (us.map (·.1)) e = AE at *
        generalize joinE (us.map (·.1)) (ks.map (·.1)) = JE at *
        refine wp_region_held_drew (S := fun w' => Below W3.heap.size W3 w') (by kernel_rfl) (drawS (Below.refl _ _)) (fun hHeld => ?_)
        generalize W3.drew = wd at hHeld ⊢
        refine take_at (i := 0) 24 rfl rfl (by kernel_rfl) (by kernel_rfl) (by kernel_rfl) (fun _ _ _ h => h) (sure_yes (by rfl) (fun w => by go_simp; try with_reducible rfl)) hHeld ?_
        simp only [List.setIfInBounds_toArray, List.set_cons_zero, List.set_cons_succ]
        refine take_at (i := 1) 25 rfl rfl (by kernel_rfl) (by kernel_rfl) (by kernel_rfl) (fun _ _ _ h => h) (sure_yes (by rfl) (fun w => by go_simp; try with_reducible rfl)) hHeld ?_
        simp only [List.setIfInBounds_toArray, List.set_cons_zero, List.set_cons_succ]
        refine take_at (i := 2) 26 rfl rfl (by kernel_rfl) (by kernel_rfl) (by kernel_rfl) (fun _ _ _ h => h) (sure_yes (by rfl) (fun w => by go_simp; try with_reducible rfl)) hHeld ?_
        simp only [List.setIfInBounds_toArray, List.set_cons_zero, List.set_cons_succ]
        refine take_at (i := 4) 28 rfl rfl (by kernel_rfl) (by kernel_rfl) (by kernel_rfl) (fun _ _ _ h => h) (sure_yes (by rfl) (fun w => by go_simp; try with_reducible rfl)) hHeld ?_
        simp only [List.setIfInBounds_toArray, List.set_cons_zero, List.set_cons_succ]
        refine ready_one 3 (by kernel_rfl) ?_
        refine opH_c1 27 rfl rfl (by rfl) 13 (.func 13) (.tmp 26) 22 rfl rfl _ rfl (enters_of Tryz.func13 (by kernel_rfl) rfl) _ (MY.out _ hHeld) ?_
        rintro x x1 ⟨rfl, hb⟩
        refine ⟨_, rfl, below_next hHeld hb, ?_⟩
        replace hHeld := below_next hHeld hb
        clear hb
        simp only [List.setIfInBounds_toArray, List.set_cons_zero, List.set_cons_succ]
        refine ready_one 5 (by kernel_rfl) ?_
        refine opH_c1 29 rfl rfl (by rfl) 14 (.func 14) (.tmp 28) 22 rfl rfl _ rfl (enters_of Tryz.func14 (by kernel_rfl) rfl) _ (RM.out _ hHeld) ?_
        rintro x x2 ⟨rfl, hb⟩
        refine ⟨_, rfl, below_next hHeld hb, ?_⟩
        replace hHeld := below_next hHeld hb
        clear hb
        simp only [List.setIfInBounds_toArray, List.set_cons_zero, List.set_cons_succ]
        refine take_at (i := 6) (v := (.bool true)) 30 rfl rfl (by kernel_rfl) (by kernel_rfl) (by kernel_rfl) (fun _ _ _ h => h) (sure_yes (by rfl) (eql_op rfl rfl rfl (fun w => by cases M <;> go_simp) (fun w => by cases M <;> go_simp))) hHeld ?_
        simp only [List.setIfInBounds_toArray, List.set_cons_zero, List.set_cons_succ]
        refine take_at (i := 7) 31 rfl rfl (by kernel_rfl) (by kernel_rfl) (by kernel_rfl) (fun _ _ _ h => h) (sure_yes (by rfl) (fun w => by go_simp; try with_reducible rfl)) hHeld ?_
        simp only [List.setIfInBounds_toArray, List.set_cons_zero, List.set_cons_succ]
        refine take_at (i := 8) 32 rfl rfl (by kernel_rfl) (by kernel_rfl) (by kernel_rfl) (fun _ _ _ h => h) (sure_yes (by rfl) (fun w => by go_simp; try with_reducible rfl)) hHeld ?_
        simp only [List.setIfInBounds_toArray, List.set_cons_zero, List.set_cons_succ]
        refine take_at (i := 9) 33 rfl rfl (by kernel_rfl) (by kernel_rfl) (by kernel_rfl) (fun _ _ _ h => h) (sure_yes (by rfl) (fun w => by go_simp; try with_reducible rfl)) hHeld ?_
        simp only [List.setIfInBounds_toArray, List.set_cons_zero, List.set_cons_succ]
        refine take_at (i := 12) 36 rfl rfl (by kernel_rfl) (by kernel_rfl) (by kernel_rfl) (fun _ _ _ h => h) (sure_yes (by rfl) (fun w => by go_simp; try with_reducible rfl)) hHeld ?_
        simp only [List.setIfInBounds_toArray, List.set_cons_zero, List.set_cons_succ]
        refine take_at (i := 10) 34 rfl rfl (by kernel_rfl) (by kernel_rfl) (by kernel_rfl) (fun _ _ _ h => h) (evA_yields (by rfl) 30 (.tmp 5) rfl ⟨w.heap.size, 0, none⟩ rfl Tryz.underlying30 evSize (fun w h j u hu => cell_under12 (by rw [Addr.add_lit, Nat.zero_add]; exact evAt_cell E1.out j u hu) h)) hHeld ?_
        simp only [List.setIfInBounds_toArray, List.set_cons_zero, List.set_cons_succ]
        refine take_at (i := 13) 37 rfl rfl (by kernel_rfl) (by kernel_rfl) (by kernel_rfl) (fun _ _ _ h => h) (evA_yields (by rfl) 30 (.tmp 5) rfl ⟨w.heap.size, 0, none⟩ rfl Tryz.underlying30 evSize (fun w h j u hu => cell_under12 (by rw [Addr.add_lit, Nat.zero_add]; exact evAt_cell E1.out j u hu) h)) hHeld ?_
        simp only [List.setIfInBounds_toArray, List.set_cons_zero, List.set_cons_succ]
        refine ready_one 11 (by kernel_rfl) ?_
        refine opH_c2 35 rfl rfl (by rfl) 16 (.func 16) (.tmp 33) (.tmp 34) 22 30 rfl rfl _ _ rfl rfl (enters_of Tryz.func16 (by kernel_rfl) rfl) _ (AD.out _ hHeld) ?_
        rintro x x3 ⟨ya, rfl, hh, hb⟩
        refine ⟨_, rfl, below_next hHeld hb, ?_⟩
        have HYa := Lib.hid hh
        replace hHeld := below_next hHeld hb
        clear hb hh
        simp only [List.setIfInBounds_toArray, List.set_cons_zero, List.set_cons_succ]
        refine ready_one 14 (by kernel_rfl) ?_
        refine opH_c2 38 rfl rfl (by rfl) 17 (.func 17) (.tmp 36) (.tmp 37) 22 30 rfl rfl _ _ rfl rfl (enters_of Tryz.func17 (by kernel_rfl) rfl) _ (RA.out _ hHeld) ?_
        rintro x x4 ⟨yb2, rfl, hh, hb⟩
        refine ⟨_, rfl, below_next hHeld hb, ?_⟩
        replace HYa := Lib.hid (evs_below HYa.out hb)
        have HYb2 := Lib.hid hh
        replace hHeld := below_next hHeld hb
        clear hb hh
        simp only [List.setIfInBounds_toArray, List.set_cons_zero, List.set_cons_succ]
        refine ready_one 15 (by kernel_rfl) ?_
        refine opH_c2 39 rfl rfl (by rfl) 15 (.func 15) (.tmp 35) (.tmp 38) 22 22 rfl rfl _ _ rfl rfl (enters_of Tryz.func15 (by kernel_rfl) rfl) _ (L1.out _ _ _ HYa.out HYb2.out) ?_
        rintro x x5 ⟨rfl, hb⟩
        refine ⟨_, rfl, below_next hHeld hb, ?_⟩
        replace HYa := Lib.hid (evs_below HYa.out hb)
        replace HYb2 := Lib.hid (evs_below HYb2.out hb)
        replace hHeld := below_next hHeld hb
        clear hb
        simp only [List.setIfInBounds_toArray, List.set_cons_zero, List.set_cons_succ]
        refine take_at (i := 16) 40 rfl rfl (by kernel_rfl) (by kernel_rfl) (by kernel_rfl) (fun _ _ _ h => h) (sure_yes (by rfl) (fun w => by go_simp; try with_reducible rfl)) hHeld ?_
        simp only [List.setIfInBounds_toArray, List.set_cons_zero, List.set_cons_succ]
        refine take_at (i := 17) 41 rfl rfl (by kernel_rfl) (by kernel_rfl) (by kernel_rfl) (fun _ _ _ h => h) (sure_yes (by rfl) (fun w => by go_simp; try with_reducible rfl)) hHeld ?_
        simp only [List.setIfInBounds_toArray, List.set_cons_zero, List.set_cons_succ]
        refine take_at (i := 18) 42 rfl rfl (by kernel_rfl) (by kernel_rfl) (by kernel_rfl) (fun _ _ _ h => h) (sure_yes (by rfl) (fun w => by go_simp; try with_reducible rfl)) hHeld ?_
        simp only [List.setIfInBounds_toArray, List.set_cons_zero, List.set_cons_succ]
        refine take_at (i := 19) 43 rfl rfl (by kernel_rfl) (by kernel_rfl) (by kernel_rfl) (fun _ _ _ h => h) (sure_yes (by rfl) (fun w => by go_simp; try with_reducible rfl)) hHeld ?_
        simp only [List.setIfInBounds_toArray, List.set_cons_zero, List.set_cons_succ]
        refine take_at (i := 21) 45 rfl rfl (by kernel_rfl) (by kernel_rfl) (by kernel_rfl) (fun _ _ _ h => h) (sure_yes (by rfl) (fun w => by go_simp; try with_reducible rfl)) hHeld ?_
        simp only [List.setIfInBounds_toArray, List.set_cons_zero, List.set_cons_succ]
        refine take_at (i := 22) 46 rfl rfl (by kernel_rfl) (by kernel_rfl) (by kernel_rfl) (fun _ _ _ h => h) (sure_yes (by rfl) (fun w => by go_simp; try with_reducible rfl)) hHeld ?_
        simp only [List.setIfInBounds_toArray, List.set_cons_zero, List.set_cons_succ]
        refine ready_one 20 (by kernel_rfl) ?_
        refine opH_c2 44 rfl rfl (by rfl) 18 (.func 18) (.tmp 42) (.tmp 43) 22 22 rfl rfl _ _ rfl rfl (enters_of Tryz.func18 (by kernel_rfl) rfl) _ (JN.out _ hHeld) ?_
        rintro x x6 ⟨yc, rfl, hh, hb⟩
        refine ⟨_, rfl, below_next hHeld hb, ?_⟩
        replace HYa := Lib.hid (evs_below HYa.out hb)
        replace HYb2 := Lib.hid (evs_below HYb2.out hb)
        have HYc := Lib.hid hh
        replace hHeld := below_next hHeld hb
        clear hb hh
        simp only [List.setIfInBounds_toArray, List.set_cons_zero, List.set_cons_succ]
        refine ready_one 23 (by kernel_rfl) ?_
        refine opH_c2 47 rfl rfl (by rfl) 19 (.func 19) (.tmp 45) (.tmp 46) 22 22 rfl rfl _ _ rfl rfl (enters_of Tryz.func19 (by kernel_rfl) rfl) _ (RJ.out _ hHeld) ?_
        rintro x x7 ⟨yd, rfl, hh, hb⟩
        refine ⟨_, rfl, below_next hHeld hb, ?_⟩
        replace HYa := Lib.hid (evs_below HYa.out hb)
        replace HYb2 := Lib.hid (evs_below HYb2.out hb)
        replace HYc := Lib.hid (evs_below HYc.out hb)
        have HYd := Lib.hid hh
        replace hHeld := below_next hHeld hb
        clear hb hh
        simp only [List.setIfInBounds_toArray, List.set_cons_zero, List.set_cons_succ]
        refine ready_one 24 (by kernel_rfl) ?_
        refine opH_c2 48 rfl rfl (by rfl) 15 (.func 15) (.tmp 44) (.tmp 47) 22 22 rfl rfl _ _ rfl rfl (enters_of Tryz.func15 (by kernel_rfl) rfl) _ (L2.out _ _ _ HYc.out HYd.out) ?_
        rintro x x8 ⟨rfl, hb⟩
        refine ⟨_, rfl, below_next hHeld hb, ?_⟩
        replace HYa := Lib.hid (evs_below HYa.out hb)
        replace HYb2 := Lib.hid (evs_below HYb2.out hb)
        replace HYc := Lib.hid (evs_below HYc.out hb)
        replace HYd := Lib.hid (evs_below HYd.out hb)
        replace hHeld := below_next hHeld hb
        clear hb
        simp only [List.setIfInBounds_toArray, List.set_cons_zero, List.set_cons_succ]
        refine take_at (i := 25) 49 rfl rfl (by kernel_rfl) (by kernel_rfl) (by kernel_rfl) (fun _ _ _ h => h) (sure_yes (by rfl) (fun w => by go_simp; try with_reducible rfl)) hHeld ?_
        simp only [List.setIfInBounds_toArray, List.set_cons_zero, List.set_cons_succ]
        refine take_at (i := 26) 6 rfl rfl (by kernel_rfl) (by kernel_rfl) (by kernel_rfl) (fun _ _ _ h => h) (sure_yes (by rfl) (fun w => by go_simp; try with_reducible rfl)) hHeld ?_
        simp only [List.setIfInBounds_toArray, List.set_cons_zero, List.set_cons_succ]
        refine wpAnyH_done (by kernel_rfl) ?_ _
        have Z := Lib.hid hHeld
        clear hHeld
        go_wp2
        go_ret
        exact ⟨rfl, below_next B3.out Z.out⟩
      · have q1 : (un : Int) > 60 := by omega
        have q1b : (60 : Int) < (un : Int) := by omega
        go_wp2_with (first
          | (go_at_call 12; (with_reducible refine (S1.out _ HV1.out HD1.out).mono ?_); rintro x W2 ⟨rfl, hb⟩; have B2 := Lib.hid (below_next B1.out hb); have C2 := Lib.hid hb; clear hb)
          | (go_at_call 12; (with_reducible refine (S2.out _ (holdsU_below HK1.out C2.out) (depsU_below HDK1.out C2.out)).mono ?_); rintro x W3 ⟨rfl, hb⟩; have B3 := Lib.hid (below_next B2.out hb); have C3 := Lib.hid (below_next C2.out hb); have c2 := cell_under12 c2 C3.out; clear hb))
        go_ret
        exact ⟨rfl, B3.out⟩
end Go.Proofs.YtcdjkjadbhejpaaGreatDoor
