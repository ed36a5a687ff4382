/-
The walk of EventTells.
-/
import Derived.Test.YteooklnejiipkaaGreatDoorPk7
namespace Go.Proofs.YteooklnejiipkaaGreatDoor
open Go.RowKit
theorem ev_yields {P : Program} {ops : Array Oper} {S : World → Prop} {o : Oper} {a : Act} (hw : Region.wanted o (yielded ops a.tmps) = true) (ty : TypeId) (x : Operand) (ho : o.op = .load ty x) (g : Nat) (hx : a.eval x = .pointer (some ⟨g, 0, none⟩)) {T : TypeId} {e : Ev} {v : Value} {fs : Array Field}
    (hu : P.underlying ty = some (.struct fs)) (hi : (P.info? ty).map (·.size) = some 38) (hS : ∀ w, S w → EvAt w g T e v) : YieldsIf P ops S o (.agg (evC e v)) a :=
  row_yields hw ty x ho g hx T _ (0, 0) _ hu rfl (by rw [hi, evC_size]) hS
set_option maxRecDepth 100000 in
set_option maxHeartbeats 64000000 in
theorem eventTells_walk (e f : Ev) (hp : e.path.length < 1152921504606846976) (h1 : I64 e.r) (h2 : I64 e.q) (h3 : I64 f.r) (h4 : I64 f.q) (v u : Value) (w : World) (hv : HasDots w v e.deps) (hu : HasDots w u f.deps) (hT : PowTab w) :
    Calls Tryz.prog 3 #[.agg (evC e v), .agg (evC f u)] w fun e w' => e = .returned (.bool true) ∧ Below w.heap.size w w' := by
  have HT := Lib.hid hT
  obtain ⟨n, hn⟩ : ∃ n, n = e.deps.length := ⟨_, rfl⟩
  obtain ⟨m, hm⟩ : ∃ m, m = f.deps.length := ⟨_, rfl⟩
  obtain ⟨ao, cap, rfl⟩ := dots_shape hv n hn
  obtain ⟨ao2, cap2, rfl⟩ := dots_shape hu m hm
  obtain ⟨g1, g2, g3⟩ := two_evs w 29 e f (.slice ao n cap) (.slice ao2 m cap2)
  have E0 := Lib.hid g1
  have F0 := Lib.hid g2
  have B0 := Lib.hid g3
  have HE := Lib.hid hv
  have HF := Lib.hid hu
  have HI := Lib.hid (And.intro h1 (And.intro h2 (And.intro h3 h4)))
  clear g1 g2 g3 hv hu hT h1 h2 h3 h4
  by_cases q : 100 < n
  · have q1 : (100 : Int) < (n : Int) := by omega
    clear hn hm hp q
    go_enter Tryz.func3, Tryz.ntmps3
    go_upto_region 1 with fail
    generalize (w.alloc (.cells (evC e (.slice ao n cap)) 29 (0, 0))).alloc (.cells (evC f (.slice ao2 m cap2)) 29 (0, 0)) = W0 at *
    go_wp2_with (first
      | (go_at_call 5; refine (awake12_any _ (powTab_below HT.out B0.out)).mono ?_; rintro x1 w1 ⟨rfl, hb⟩; have E1 := Lib.hid (evAt_kept E0.out hb); have F1 := Lib.hid (evAt_kept F0.out hb); have B1 := Lib.hid (below_next B0.out hb); obtain ⟨-, -, c2, -, -, -⟩ := evAt_cells E1.out; obtain ⟨-, -, d2, -, -, -⟩ := evAt_cells F1.out; clear hb))
    go_ret
    exact ⟨rfl, B1.out⟩
  · have q1 : ¬ (100 : Int) < (n : Int) := by omega
    by_cases q' : 100 < m
    · have q2 : (100 : Int) < (m : Int) := by omega
      clear hn hm hp q q'
      go_enter Tryz.func3, Tryz.ntmps3
      go_upto_region 1 with fail
      generalize (w.alloc (.cells (evC e (.slice ao n cap)) 29 (0, 0))).alloc (.cells (evC f (.slice ao2 m cap2)) 29 (0, 0)) = W0 at *
      go_wp2_with (first
        | (go_at_call 5; refine (awake12_any _ (powTab_below HT.out B0.out)).mono ?_; rintro x1 w1 ⟨rfl, hb⟩; have E1 := Lib.hid (evAt_kept E0.out hb); have F1 := Lib.hid (evAt_kept F0.out hb); have B1 := Lib.hid (below_next B0.out hb); obtain ⟨-, -, c2, -, -, -⟩ := evAt_cells E1.out; obtain ⟨-, -, d2, -, -, -⟩ := evAt_cells F1.out; clear hb))
      go_ret
      exact ⟨rfl, B1.out⟩
    · have q2 : ¬ (100 : Int) < (m : Int) := by omega
      have hl : e.deps.length < 2000000 := by omega
      have C1 := Lib.hid (fun w hv hT => may_any12 ownSays e hl hp (.slice ao n cap) w hv hT)
      have D1 := Lib.hid (fun w hv => refMay_any12 e hl hp (.slice ao n cap) w hv)
      have C2 := Lib.hid (fun w hv => knows_any12 e f hl (.slice ao n cap) (.slice ao2 m cap2) w hv)
      have D2 := Lib.hid (fun w hv => refKnows_any12 e f hl (.slice ao n cap) (.slice ao2 m cap2) w hv)
      have C3 := Lib.hid (fun w => cmp_any12 e f HI.out.1 HI.out.2.1 HI.out.2.2.1 HI.out.2.2.2 (.slice ao n cap) (.slice ao2 m cap2) w)
      have D3 := Lib.hid (fun w => refCmp_any12 e f (.slice ao n cap) (.slice ao2 m cap2) w)
      have C4 := Lib.hid (fun w hv hu => same_any12 e f hl (.slice ao n cap) (.slice ao2 m cap2) w hv hu)
      have D4 := Lib.hid (fun w hv hu => refSame_any12 e f hl (.slice ao n cap) (.slice ao2 m cap2) w hv hu)
      clear hn hm hp q q' hl
      generalize mayE e = M at *
      generalize hasV e.deps f.r f.q = K at *
      generalize cmpE e f = C at *
      generalize sameEv e f = Z at *
      go_enter Tryz.func3, Tryz.ntmps3
      go_upto_region 1 with fail
      generalize (w.alloc (.cells (evC e (.slice ao n cap)) 29 (0, 0))).alloc (.cells (evC f (.slice ao2 m cap2)) 29 (0, 0)) = W0 at *
      go_upto_region 4 with (first
        | (go_at_call 5; refine (awake12_any _ (powTab_below HT.out B0.out)).mono ?_; rintro x1 w1 ⟨rfl, hb⟩; have E1 := Lib.hid (evAt_kept E0.out hb); have F1 := Lib.hid (evAt_kept F0.out hb); have B1 := Lib.hid (below_next B0.out hb); obtain ⟨-, -, c2, -, -, -⟩ := evAt_cells E1.out; obtain ⟨-, -, d2, -, -, -⟩ := evAt_cells F1.out; clear hb))
      refine wp_region_held_drew (S := fun w' => Below w.heap.size w w' ∧ EvAt w' w.heap.size 29 e (.slice ao n cap) ∧ EvAt w' (w.heap.size + 1) 29 f (.slice ao2 m cap2)) (by kernel_rfl) ⟨drawS B1.out, E1.out, F1.out⟩ (fun hHeld => ?_)
      generalize w1.drew = wd at hHeld ⊢
      refine take_at (i := 0) 18 rfl rfl (by kernel_rfl) (by kernel_rfl) (by kernel_rfl) (fun _ _ _ h => h) (sure_yes (by rfl) (fun w => by go_simp; try with_reducible rfl)) hHeld ?_
      simp only [List.setIfInBounds_toArray, List.set_cons_zero, List.set_cons_succ]
      refine take_at (i := 1) 19 rfl rfl (by kernel_rfl) (by kernel_rfl) (by kernel_rfl) (fun _ _ _ h => h) (sure_yes (by rfl) (fun w => by go_simp; try with_reducible rfl)) hHeld ?_
      simp only [List.setIfInBounds_toArray, List.set_cons_zero, List.set_cons_succ]
      refine take_at (i := 2) 20 rfl rfl (by kernel_rfl) (by kernel_rfl) (by kernel_rfl) (fun _ _ _ h => h) (ev_yields (by rfl) 29 (.tmp 2) rfl w.heap.size rfl Tryz.underlying29 evSize (fun _ h => h.2.1)) hHeld ?_
      simp only [List.setIfInBounds_toArray, List.set_cons_zero, List.set_cons_succ]
      refine take_at (i := 4) 22 rfl rfl (by kernel_rfl) (by kernel_rfl) (by kernel_rfl) (fun _ _ _ h => h) (ev_yields (by rfl) 29 (.tmp 2) rfl w.heap.size rfl Tryz.underlying29 evSize (fun _ h => h.2.1)) hHeld ?_
      simp only [List.setIfInBounds_toArray, List.set_cons_zero, List.set_cons_succ]
      refine wpAnyH_ready (rs := [3]) (by kernel_rfl) (by simp) ?_
      refine AllReadyH.cons rfl (fun CONT hCONT => ?_) AllReadyH.nil
      go_simp
      go_at_call 6
      refine (C1.out _ (dots_below HE.out hHeld.1) (powTab_below HT.out hHeld.1)).mono ?_
      rintro x wz ⟨rfl, hb⟩
      dsimp only
      refine hCONT.out _ _ ⟨below_next hHeld.1 hb, evAt_kept hHeld.2.1 hb, evAt_kept hHeld.2.2 hb⟩ (fun hHeld => ?_)
      clear hCONT CONT hb
      refine wpAnyH_ready (rs := [5]) (by kernel_rfl) (by simp) ?_
      refine AllReadyH.cons rfl (fun CONT hCONT => ?_) AllReadyH.nil
      go_simp
      go_at_call 7
      refine (D1.out _ (dots_below HE.out hHeld.1)).mono ?_
      rintro x wz ⟨rfl, hb⟩
      dsimp only
      refine hCONT.out _ _ ⟨below_next hHeld.1 hb, evAt_kept hHeld.2.1 hb, evAt_kept hHeld.2.2 hb⟩ (fun hHeld => ?_)
      clear hCONT CONT hb
      refine take_at (i := 6) 24 rfl rfl (by kernel_rfl) (by kernel_rfl) (by kernel_rfl) (fun _ _ _ h => h) (sure_yes (by rfl) (fun w => by go_simp; try with_reducible rfl)) hHeld ?_
      simp only [List.setIfInBounds_toArray, List.set_cons_zero, List.set_cons_succ]
      refine take_at (i := 7) 25 rfl rfl (by kernel_rfl) (by kernel_rfl) (by kernel_rfl) (fun _ _ _ h => h) (sure_yes (by rfl) (fun w => by go_simp; try with_reducible rfl)) hHeld ?_
      simp only [List.setIfInBounds_toArray, List.set_cons_zero, List.set_cons_succ]
      refine take_at (i := 8) 26 rfl rfl (by kernel_rfl) (by kernel_rfl) (by kernel_rfl) (fun _ _ _ h => h) (sure_yes (by rfl) (fun w => by go_simp; try with_reducible rfl)) hHeld ?_
      simp only [List.setIfInBounds_toArray, List.set_cons_zero, List.set_cons_succ]
      refine take_at (i := 9) 27 rfl rfl (by kernel_rfl) (by kernel_rfl) (by kernel_rfl) (fun _ _ _ h => h) (ev_yields (by rfl) 29 (.tmp 2) rfl w.heap.size rfl Tryz.underlying29 evSize (fun _ h => h.2.1)) hHeld ?_
      simp only [List.setIfInBounds_toArray, List.set_cons_zero, List.set_cons_succ]
      refine take_at (i := 10) 28 rfl rfl (by kernel_rfl) (by kernel_rfl) (by kernel_rfl) (fun _ _ _ h => h) (ev_yields (by rfl) 29 (.tmp 3) rfl (w.heap.size + 1) rfl Tryz.underlying29 evSize (fun _ h => h.2.2)) hHeld ?_
      simp only [List.setIfInBounds_toArray, List.set_cons_zero, List.set_cons_succ]
      refine take_at (i := 12) 30 rfl rfl (by kernel_rfl) (by kernel_rfl) (by kernel_rfl) (fun _ _ _ h => h) (ev_yields (by rfl) 29 (.tmp 2) rfl w.heap.size rfl Tryz.underlying29 evSize (fun _ h => h.2.1)) hHeld ?_
      simp only [List.setIfInBounds_toArray, List.set_cons_zero, List.set_cons_succ]
      refine take_at (i := 13) 31 rfl rfl (by kernel_rfl) (by kernel_rfl) (by kernel_rfl) (fun _ _ _ h => h) (ev_yields (by rfl) 29 (.tmp 3) rfl (w.heap.size + 1) rfl Tryz.underlying29 evSize (fun _ h => h.2.2)) hHeld ?_
      simp only [List.setIfInBounds_toArray, List.set_cons_zero, List.set_cons_succ]
      refine wpAnyH_ready (rs := [11]) (by kernel_rfl) (by simp) ?_
      refine AllReadyH.cons rfl (fun CONT hCONT => ?_) AllReadyH.nil
      go_simp
      go_at_call 8
      refine (C2.out _ (dots_below HE.out hHeld.1)).mono ?_
      rintro x wz ⟨rfl, hb⟩
      dsimp only
      refine hCONT.out _ _ ⟨below_next hHeld.1 hb, evAt_kept hHeld.2.1 hb, evAt_kept hHeld.2.2 hb⟩ (fun hHeld => ?_)
      clear hCONT CONT hb
      refine wpAnyH_ready (rs := [14]) (by kernel_rfl) (by simp) ?_
      refine AllReadyH.cons rfl (fun CONT hCONT => ?_) AllReadyH.nil
      go_simp
      go_at_call 9
      refine (D2.out _ (dots_below HE.out hHeld.1)).mono ?_
      rintro x wz ⟨rfl, hb⟩
      dsimp only
      refine hCONT.out _ _ ⟨below_next hHeld.1 hb, evAt_kept hHeld.2.1 hb, evAt_kept hHeld.2.2 hb⟩ (fun hHeld => ?_)
      clear hCONT CONT hb
      refine take_at (i := 15) 33 rfl rfl (by kernel_rfl) (by kernel_rfl) (by kernel_rfl) (fun _ _ _ h => h) (sure_yes (by rfl) (fun w => by go_simp; try with_reducible rfl)) hHeld ?_
      simp only [List.setIfInBounds_toArray, List.set_cons_zero, List.set_cons_succ]
      refine take_at (i := 16) 34 rfl rfl (by kernel_rfl) (by kernel_rfl) (by kernel_rfl) (fun _ _ _ h => h) (sure_yes (by rfl) (fun w => by go_simp; try with_reducible rfl)) hHeld ?_
      simp only [List.setIfInBounds_toArray, List.set_cons_zero, List.set_cons_succ]
      refine take_at (i := 17) 35 rfl rfl (by kernel_rfl) (by kernel_rfl) (by kernel_rfl) (fun _ _ _ h => h) (sure_yes (by rfl) (fun w => by go_simp; try with_reducible rfl)) hHeld ?_
      simp only [List.setIfInBounds_toArray, List.set_cons_zero, List.set_cons_succ]
      refine take_at (i := 18) 36 rfl rfl (by kernel_rfl) (by kernel_rfl) (by kernel_rfl) (fun _ _ _ h => h) (ev_yields (by rfl) 29 (.tmp 2) rfl w.heap.size rfl Tryz.underlying29 evSize (fun _ h => h.2.1)) hHeld ?_
      simp only [List.setIfInBounds_toArray, List.set_cons_zero, List.set_cons_succ]
      refine take_at (i := 19) 37 rfl rfl (by kernel_rfl) (by kernel_rfl) (by kernel_rfl) (fun _ _ _ h => h) (ev_yields (by rfl) 29 (.tmp 3) rfl (w.heap.size + 1) rfl Tryz.underlying29 evSize (fun _ h => h.2.2)) hHeld ?_
      simp only [List.setIfInBounds_toArray, List.set_cons_zero, List.set_cons_succ]
      refine take_at (i := 21) 39 rfl rfl (by kernel_rfl) (by kernel_rfl) (by kernel_rfl) (fun _ _ _ h => h) (ev_yields (by rfl) 29 (.tmp 2) rfl w.heap.size rfl Tryz.underlying29 evSize (fun _ h => h.2.1)) hHeld ?_
      simp only [List.setIfInBounds_toArray, List.set_cons_zero, List.set_cons_succ]
      refine take_at (i := 22) 40 rfl rfl (by kernel_rfl) (by kernel_rfl) (by kernel_rfl) (fun _ _ _ h => h) (ev_yields (by rfl) 29 (.tmp 3) rfl (w.heap.size + 1) rfl Tryz.underlying29 evSize (fun _ h => h.2.2)) hHeld ?_
      simp only [List.setIfInBounds_toArray, List.set_cons_zero, List.set_cons_succ]
      refine wpAnyH_ready (rs := [20]) (by kernel_rfl) (by simp) ?_
      refine AllReadyH.cons rfl (fun CONT hCONT => ?_) AllReadyH.nil
      go_simp
      go_at_call 10
      refine (C3.out _).mono ?_
      rintro x wz ⟨rfl, hb⟩
      dsimp only
      refine hCONT.out _ _ ⟨below_next hHeld.1 hb, evAt_kept hHeld.2.1 hb, evAt_kept hHeld.2.2 hb⟩ (fun hHeld => ?_)
      clear hCONT CONT hb
      refine wpAnyH_ready (rs := [23]) (by kernel_rfl) (by simp) ?_
      refine AllReadyH.cons rfl (fun CONT hCONT => ?_) AllReadyH.nil
      go_simp
      go_at_call 11
      refine (D3.out _).mono ?_
      rintro x wz ⟨rfl, hb⟩
      dsimp only
      refine hCONT.out _ _ ⟨below_next hHeld.1 hb, evAt_kept hHeld.2.1 hb, evAt_kept hHeld.2.2 hb⟩ (fun hHeld => ?_)
      clear hCONT CONT hb
      refine take_at (i := 24) 42 rfl rfl (by kernel_rfl) (by kernel_rfl) (by kernel_rfl) (fun _ _ _ h => h) (sure_yes (by rfl) (fun w => by go_simp; try with_reducible rfl)) hHeld ?_
      simp only [List.setIfInBounds_toArray, List.set_cons_zero, List.set_cons_succ]
      refine take_at (i := 25) 43 rfl rfl (by kernel_rfl) (by kernel_rfl) (by kernel_rfl) (fun _ _ _ h => h) (sure_yes (by rfl) (fun w => by go_simp; try with_reducible rfl)) hHeld ?_
      simp only [List.setIfInBounds_toArray, List.set_cons_zero, List.set_cons_succ]
      refine take_at (i := 26) 44 rfl rfl (by kernel_rfl) (by kernel_rfl) (by kernel_rfl) (fun _ _ _ h => h) (sure_yes (by rfl) (fun w => by go_simp; try with_reducible rfl)) hHeld ?_
      simp only [List.setIfInBounds_toArray, List.set_cons_zero, List.set_cons_succ]
      refine take_at (i := 27) 45 rfl rfl (by kernel_rfl) (by kernel_rfl) (by kernel_rfl) (fun _ _ _ h => h) (ev_yields (by rfl) 29 (.tmp 2) rfl w.heap.size rfl Tryz.underlying29 evSize (fun _ h => h.2.1)) hHeld ?_
      simp only [List.setIfInBounds_toArray, List.set_cons_zero, List.set_cons_succ]
      refine take_at (i := 28) 46 rfl rfl (by kernel_rfl) (by kernel_rfl) (by kernel_rfl) (fun _ _ _ h => h) (ev_yields (by rfl) 29 (.tmp 3) rfl (w.heap.size + 1) rfl Tryz.underlying29 evSize (fun _ h => h.2.2)) hHeld ?_
      simp only [List.setIfInBounds_toArray, List.set_cons_zero, List.set_cons_succ]
      refine take_at (i := 30) 48 rfl rfl (by kernel_rfl) (by kernel_rfl) (by kernel_rfl) (fun _ _ _ h => h) (ev_yields (by rfl) 29 (.tmp 2) rfl w.heap.size rfl Tryz.underlying29 evSize (fun _ h => h.2.1)) hHeld ?_
      simp only [List.setIfInBounds_toArray, List.set_cons_zero, List.set_cons_succ]
      refine take_at (i := 31) 49 rfl rfl (by kernel_rfl) (by kernel_rfl) (by kernel_rfl) (fun _ _ _ h => h) (ev_yields (by rfl) 29 (.tmp 3) rfl (w.heap.size + 1) rfl Tryz.underlying29 evSize (fun _ h => h.2.2)) hHeld ?_
      simp only [List.setIfInBounds_toArray, List.set_cons_zero, List.set_cons_succ]
      refine wpAnyH_ready (rs := [29]) (by kernel_rfl) (by simp) ?_
      refine AllReadyH.cons rfl (fun CONT hCONT => ?_) AllReadyH.nil
      go_simp
      go_at_call 12
      refine (C4.out _ (dots_below HE.out hHeld.1) (dots_below HF.out hHeld.1)).mono ?_
      rintro x wz ⟨rfl, hb⟩
      dsimp only
      refine hCONT.out _ _ ⟨below_next hHeld.1 hb, evAt_kept hHeld.2.1 hb, evAt_kept hHeld.2.2 hb⟩ (fun hHeld => ?_)
      clear hCONT CONT hb
      refine wpAnyH_ready (rs := [32]) (by kernel_rfl) (by simp) ?_
      refine AllReadyH.cons rfl (fun CONT hCONT => ?_) AllReadyH.nil
      go_simp
      go_at_call 13
      refine (D4.out _ (dots_below HE.out hHeld.1) (dots_below HF.out hHeld.1)).mono ?_
      rintro x wz ⟨rfl, hb⟩
      dsimp only
      refine hCONT.out _ _ ⟨below_next hHeld.1 hb, evAt_kept hHeld.2.1 hb, evAt_kept hHeld.2.2 hb⟩ (fun hHeld => ?_)
      clear hCONT CONT hb
      refine take_at (i := 33) 51 rfl rfl (by kernel_rfl) (by kernel_rfl) (by kernel_rfl) (fun _ _ _ h => h) (sure_yes (by rfl) (fun w => by go_simp; try with_reducible rfl)) hHeld ?_
      simp only [List.setIfInBounds_toArray, List.set_cons_zero, List.set_cons_succ]
      refine take_at (i := 34) 52 rfl rfl (by kernel_rfl) (by kernel_rfl) (by kernel_rfl) (fun _ _ _ h => h) (sure_yes (by rfl) (fun w => by go_simp; try with_reducible rfl)) hHeld ?_
      simp only [List.setIfInBounds_toArray, List.set_cons_zero, List.set_cons_succ]
      refine take_at (i := 35) 4 rfl rfl (by kernel_rfl) (by kernel_rfl) (by kernel_rfl) (fun _ _ _ h => h) (sure_yes (by rfl) (fun w => by go_simp; try with_reducible rfl)) hHeld ?_
      simp only [List.setIfInBounds_toArray, List.set_cons_zero, List.set_cons_succ]
      refine wpAnyH_done (by kernel_rfl) ?_ _
      go_wp2
      go_ret
      exact ⟨rfl, hHeld.1⟩
end Go.Proofs.YteooklnejiipkaaGreatDoor
