/-
The walk of the statement on histories of events.
-/
import Derived.Test.YthkojphgjlojgaaDoorPk7
namespace Go.Proofs.YthkojphgjlojgaaDoor
open Go.RowKit
theorem cell_under12 {w w' : World} {A : Addr} {u : Value} (hc : w.cell? A = some u) (hb : Below w.heap.size w w') : w'.cell? A = some u :=
  (World.cell?_of_block (hb.block A.block (World.block_lt_of_cell? w _ hc))).trans hc
theorem ev_field {w : World} {A : Addr} {e : Ev} {v : Value} (hc : ∀ j u, (evC e v)[j]? = some u → w.cell? (A.add j) = some u) (j : Nat) (hj : j ≠ 0) (u : Value) (hu : (evC e v)[j]? = some u) : w.cell? ⟨A.block, A.off + j, none⟩ = some u := by
  have h := hc j u hu
  unfold Addr.add at h
  rw [if_neg hj] at h
  exact h
theorem ev_field0 {w : World} {A : Addr} {e : Ev} {v : Value} (hc : ∀ j u, (evC e v)[j]? = some u → w.cell? (A.add j) = some u) (u : Value) (hu : (evC e v)[0]? = some u) : w.cell? A = some u := by
  have h := hc 0 u hu
  unfold Addr.add at h
  rw [if_pos rfl] at h
  exact h
set_option maxRecDepth 100000 in
set_option maxHeartbeats 16000000 in
theorem leq_any12 (a b : List D2) (ha : a.length < 2000000) (hb : b.length < 2000000) (v u : Value) (w : World) (hv : HasDots w v a) (hu : HasDots w u b) : Calls Tryd.prog 10 #[v, u] w fun e w' => e = .returned (.bool (leqV a b)) ∧ Below w.heap.size w w' := by
  have LQ := Lib.hid (refLeq_any10 a b ha hb v u w hv hu)
  clear hv hu ha hb
  go_enter Tryd.func10, Tryd.ntmps10
  go_wp2_with (first
    | (go_at_call 32; refine LQ.out.mono ?_; rintro e w1 ⟨rfl, hb⟩))
  go_ret
  exact ⟨rfl, hb⟩
set_option maxRecDepth 100000 in
set_option maxHeartbeats 16000000 in
theorem eventHistory_walk (l : List DeedT) (hs : ∀ x ∈ l, x.who < 256 ∧ x.other < 256 ∧ x.path < 256 ∧ x.size < 256) (v : Value) (w : World) (hv : HasDeeds w v l) (hT : PowTab w) : Calls Tryd.prog 3 #[v] w fun x w' => x = .returned (.bool true) ∧ Below w.heap.size w w' := by
  have HT := Lib.hid hT
  have HV := Lib.hid hv
  have HI := Lib.hid (fun v w hv => history_any l hs v w hv)
  obtain ⟨nn, hinv⟩ := inv_hist l (fun x hx => (hs x hx).2.2.2)
  have HIN := Lib.hid hinv
  have HLE := Lib.hid (show ∀ (e : Ev) {i : Nat}, (histN l).out[i]? = some e → e.deps.length < 2000000 from fun e i he => by
    have h := (hist_says hinv he he).1
    have hm : mayV e.deps = true := by
      unfold mayE knownE at h
      simp only [Bool.and_eq_true] at h
      exact h.2.1.1
    have := rising_length hm; omega)
  have HLP := Lib.hid (show ∀ (e : Ev) {i : Nat}, (histN l).out[i]? = some e → e.path.length < 1152921504606846976 from fun e i he => by
    have h := (hist_says hinv he he).1
    unfold mayE at h
    simp only [Bool.and_eq_true] at h
    have := ((own_iff _).1 h.2.2.1).2.2.1; omega)
  clear hv hT hs hinv
  go_enter Tryd.func3, Tryd.ntmps3
  go_upto_region 3 with (first
    | (go_at_call 6; refine (awake12_any _ HT.out).mono ?_; rintro x w1 ⟨rfl, hb⟩; have B1 := Lib.hid hb; clear hb)
    | (go_at_call 7; refine (HI.out _ _ (deeds_below HV.out B1.out)).mono ?_; rintro x w2 ⟨vo, a, rfl, he, ha, hb⟩; have B2 := Lib.hid (below_next B1.out hb); have HE2 := Lib.hid he; have HA1 := Lib.hid (show (#[a 0, a 1, a 2] : Array Value).all (·.oneCell') = true by
        obtain ⟨x0, y0, e0⟩ := dots_shape (ha 0 (by omega)).1 _ rfl
        obtain ⟨x1, y1, e1⟩ := dots_shape (ha 1 (by omega)).1 _ rfl
        obtain ⟨x2, y2, e2⟩ := dots_shape (ha 2 (by omega)).1 _ rfl
        rw [e0, e1, e2]; simp [Value.oneCell']); clear hb he ha)
    | (refine store_new rfl 27 (.tmp 5) (.tmp 13) rfl rfl w2 _ #[a 0, a 1, a 2] 27 rfl rfl rfl (by kernel_rfl) rfl HA1.out ?_; rintro W3 hg hb hlt; have HV3 := Lib.hid (evs_below HE2.out hb); have B3 := Lib.hid (below_next B2.out hb); have HT3 := Lib.hid (powTab_below HT.out (below_next B2.out hb)); clear hg hb hlt))
  obtain ⟨N, hN⟩ : ∃ N, (histN l).out.length = N := ⟨_, rfl⟩
  have HNL := Lib.hid hN
  have HN40 := Lib.hid (show N ≤ 40 by rw [← hN]; exact hist_len l 40)
  obtain ⟨ao, cap, rfl⟩ := evs_shape HV3.out N hN.symm
  clear hN
  go_wp2
  go_loopw [6] (fun c wr => ∃ i : Nat, i ≤ N ∧ c = .int .i64 (i : Int) ∧ Below W3.heap.size W3 wr) (fun c _ => N - (intOf c).toNat)
  case atStart => exact ⟨0, Nat.zero_le _, rfl, Below.refl _ _⟩
  case round =>
    obtain ⟨i, hi, rfl, hb⟩ := hrel
    have HB := Lib.hid hb
    clear hb
    by_cases hil : i < N
    · have q0 : (i : Int) < (N : Int) := by omega
      have q00 : (i : Int) < 40 := by have := HN40.out; omega
      obtain ⟨e, he⟩ : ∃ e, (histN l).out[i]? = some e := ⟨_, List.getElem?_eq_getElem (by have := HNL.out; omega)⟩
      obtain ⟨ad, cap', ue, e1, hde, hce⟩ := evs_at HV3.out N i HNL.out e he
      cases e1
      obtain ⟨eo, ec, hes⟩ := dots_shape hde _ rfl
      obtain ⟨en, hen⟩ : ∃ m, m = e.deps.length := ⟨_, rfl⟩
      rw [← hen] at hes
      subst hes
      have HDE := Lib.hid hde
      have CE := Lib.hid (show ∀ j u, (evC e (.slice eo en ec))[j]? = some u → W3.cell? ((ad.add (i * 38)).add j) = some u from fun j u hu => by rw [addr_add2]; exact hce j u hu)
      have HEI := Lib.hid he
      obtain ⟨s1, s2, -, -⟩ := hist_says HIN.out he he
      have MY := Lib.hid (show ∀ v w, HasDots w v e.deps → PowTab w → Calls Tryd.prog 8 #[.agg (evC e v)] w fun x w' => x = .returned (.bool true) ∧ Below w.heap.size w w' from fun v w hv hT => by
        have h := may_any12 ownSays e (HLE.out _ he) (HLP.out _ he) v w hv hT
        rwa [s1] at h)
      have KS := Lib.hid (show ∀ v u w, HasDots w v e.deps → Calls Tryd.prog 9 #[.agg (evC e v), .agg (evC e u)] w fun x w' => x = .returned (.bool false) ∧ Below w.heap.size w w' from fun v u w hv => by
        have h := knows_any12 e e (HLE.out _ he) v u w hv
        rwa [s2] at h)
      clear hde hce he s1 s2 hen
      go_upto_region 6 with fail
      refine wp_region_held_drew (S := fun w' => Below W3.heap.size W3 w') (by kernel_rfl) (drawS HB.out) (fun hHeld => ?_)
      generalize wr.drew = wd at hHeld ⊢
      refine take_at (i := 0) 20 rfl rfl (by kernel_rfl) (by kernel_rfl) (by kernel_rfl) (fun _ _ _ h => h) (sure_yes (by rfl) (fun w => by go_simp; try with_reducible rfl)) hHeld ?_
      simp only [List.setIfInBounds_toArray, List.set_cons_zero, List.set_cons_succ]
      refine take_at (i := 1) 21 rfl rfl (by kernel_rfl) (by kernel_rfl) (by kernel_rfl) (fun _ _ _ h => h) (sure_yes (by rfl) (fun w => by go_simp; try with_reducible rfl)) hHeld ?_
      simp only [List.setIfInBounds_toArray, List.set_cons_zero, List.set_cons_succ]
      refine take_at (i := 2) 22 rfl rfl (by kernel_rfl) (by kernel_rfl) (by kernel_rfl) (fun _ _ _ h => h) (sure_yes (by rfl) (fun w => by go_simp; try with_reducible rfl)) hHeld ?_
      simp only [List.setIfInBounds_toArray, List.set_cons_zero, List.set_cons_succ]
      refine take_at (i := 3) 23 rfl rfl (by kernel_rfl) (by kernel_rfl) (by kernel_rfl) (fun _ _ _ h => h) (evA_yields (by rfl) 36 (.tmp 22) rfl (ad.add (i * 38)) rfl Tryd.underlying36 evSize (fun w h j u hu => cell_under12 (CE.out j u hu) h)) hHeld ?_
      simp only [List.setIfInBounds_toArray, List.set_cons_zero, List.set_cons_succ]
      refine ready_call1 4 24 (by kernel_rfl) rfl rfl (by rfl) 8 (.tmp 23) 36 rfl (.agg (evC e (.slice eo en ec))) rfl (enters_of Tryd.func8 (by kernel_rfl) rfl) _ (MY.out _ _ (dots_below HDE.out hHeld) (powTab_below HT3.out hHeld)) (fun x wz hp => ?_)
      obtain ⟨rfl, hb⟩ := hp
      refine ⟨_, rfl, below_next hHeld hb, ?_⟩
      replace hHeld := below_next hHeld hb
      clear hb
      simp only [List.setIfInBounds_toArray, List.set_cons_zero, List.set_cons_succ]
      refine take_at (i := 5) 25 rfl rfl (by kernel_rfl) (by kernel_rfl) (by kernel_rfl) (fun _ _ _ h => h) (sure_yes (by rfl) (fun w => by go_simp; try with_reducible rfl)) hHeld ?_
      simp only [List.setIfInBounds_toArray, List.set_cons_zero, List.set_cons_succ]
      refine take_at (i := 6) 26 rfl rfl (by kernel_rfl) (by kernel_rfl) (by kernel_rfl) (fun _ _ _ h => h) (sure_yes (by rfl) (fun w => by go_simp; try with_reducible rfl)) hHeld ?_
      simp only [List.setIfInBounds_toArray, List.set_cons_zero, List.set_cons_succ]
      refine take_at (i := 7) 27 rfl rfl (by kernel_rfl) (by kernel_rfl) (by kernel_rfl) (fun _ _ _ h => h) (sure_yes (by rfl) (fun w => by go_simp; try with_reducible rfl)) hHeld ?_
      simp only [List.setIfInBounds_toArray, List.set_cons_zero, List.set_cons_succ]
      refine take_at (i := 8) 28 rfl rfl (by kernel_rfl) (by kernel_rfl) (by kernel_rfl) (fun _ _ _ h => h) (sure_yes (by rfl) (fun w => by go_simp; try with_reducible rfl)) hHeld ?_
      simp only [List.setIfInBounds_toArray, List.set_cons_zero, List.set_cons_succ]
      refine take_at (i := 9) 29 rfl rfl (by kernel_rfl) (by kernel_rfl) (by kernel_rfl) (fun _ _ _ h => h) (sure_yes (by rfl) (fun w => by go_simp; try with_reducible rfl)) hHeld ?_
      simp only [List.setIfInBounds_toArray, List.set_cons_zero, List.set_cons_succ]
      refine take_at (i := 11) 31 rfl rfl (by kernel_rfl) (by kernel_rfl) (by kernel_rfl) (fun _ _ _ h => h) (sure_yes (by rfl) (fun w => by go_simp; try with_reducible rfl)) hHeld ?_
      simp only [List.setIfInBounds_toArray, List.set_cons_zero, List.set_cons_succ]
      refine take_at (i := 12) 32 rfl rfl (by kernel_rfl) (by kernel_rfl) (by kernel_rfl) (fun _ _ _ h => h) (sure_yes (by rfl) (fun w => by go_simp; try with_reducible rfl)) hHeld ?_
      simp only [List.setIfInBounds_toArray, List.set_cons_zero, List.set_cons_succ]
      refine take_at (i := 13) 33 rfl rfl (by kernel_rfl) (by kernel_rfl) (by kernel_rfl) (fun _ _ _ h => h) (sure_yes (by rfl) (fun w => by go_simp; try with_reducible rfl)) hHeld ?_
      simp only [List.setIfInBounds_toArray, List.set_cons_zero, List.set_cons_succ]
      refine take_at (i := 10) 30 rfl rfl (by kernel_rfl) (by kernel_rfl) (by kernel_rfl) (fun _ _ _ h => h) (evA_yields (by rfl) 36 (.tmp 29) rfl (ad.add (i * 38)) rfl Tryd.underlying36 evSize (fun w h j u hu => cell_under12 (CE.out j u hu) h)) hHeld ?_
      simp only [List.setIfInBounds_toArray, List.set_cons_zero, List.set_cons_succ]
      refine take_at (i := 14) 34 rfl rfl (by kernel_rfl) (by kernel_rfl) (by kernel_rfl) (fun _ _ _ h => h) (evA_yields (by rfl) 36 (.tmp 33) rfl (ad.add (i * 38)) rfl Tryd.underlying36 evSize (fun w h j u hu => cell_under12 (CE.out j u hu) h)) hHeld ?_
      simp only [List.setIfInBounds_toArray, List.set_cons_zero, List.set_cons_succ]
      refine ready_call2 15 35 (by kernel_rfl) rfl rfl (by rfl) 9 (.tmp 30) (.tmp 34) 36 36 rfl (.agg (evC e (.slice eo en ec))) (.agg (evC e (.slice eo en ec))) rfl rfl (enters_of Tryd.func9 (by kernel_rfl) rfl) _ (KS.out _ _ _ (dots_below HDE.out hHeld)) (fun x wz hp => ?_)
      obtain ⟨rfl, hb⟩ := hp
      refine ⟨_, rfl, below_next hHeld hb, ?_⟩
      replace hHeld := below_next hHeld hb
      clear hb
      simp only [List.setIfInBounds_toArray, List.set_cons_zero, List.set_cons_succ]
      refine take_at (i := 16) 36 rfl rfl (by kernel_rfl) (by kernel_rfl) (by kernel_rfl) (fun _ _ _ h => h) (sure_yes (by rfl) (fun w => by go_simp; try with_reducible rfl)) hHeld ?_
      simp only [List.setIfInBounds_toArray, List.set_cons_zero, List.set_cons_succ]
      refine wpAnyH_done (by kernel_rfl) ?_ _
      have HXX := Lib.hid hHeld
      clear hHeld
      go_wp2
      go_loopw [7] (fun c wx => ∃ k : Nat, k ≤ N ∧ c = .int .i64 (k : Int) ∧ Below W3.heap.size W3 wx) (fun c _ => N - (intOf c).toNat)
      case atStart => exact ⟨0, Nat.zero_le _, rfl, HXX.out⟩
      case round =>
        obtain ⟨k, hk, rfl, hbk⟩ := hrel
        have HBK := Lib.hid hbk
        clear hbk
        by_cases hkl : k < N
        · have q1 : (k : Int) < (N : Int) := by omega
          have q11 : (k : Int) < 40 := by have := HN40.out; omega
          obtain ⟨f, hf⟩ : ∃ f, (histN l).out[k]? = some f := ⟨_, List.getElem?_eq_getElem (by have := HNL.out; omega)⟩
          obtain ⟨ad2, cap2, uf, e2, hdf, hcf⟩ := evs_at HV3.out N k HNL.out f hf
          cases e2
          obtain ⟨fo, fc, hfs⟩ := dots_shape hdf _ rfl
          obtain ⟨fn, hfn⟩ : ∃ m, m = f.deps.length := ⟨_, rfl⟩
          rw [← hfn] at hfs
          subst hfs
          have HDF := Lib.hid hdf
          have CF := Lib.hid (show ∀ j u, (evC f (.slice fo fn fc))[j]? = some u → W3.cell? ((ad.add (k * 38)).add j) = some u from fun j u hu => by rw [addr_add2]; exact hcf j u hu)
          have HFF := Lib.hid hf
          obtain ⟨s1, s2, s3, s4⟩ := hist_says HIN.out HEI.out hf
          obtain ⟨t1, t2, t3, t4⟩ := hist_says HIN.out hf HEI.out
          have K1 := Lib.hid (fun v u w hv => knows_any12 e f (HLE.out _ HEI.out) v u w hv)
          have K2 := Lib.hid (fun v u w hv => knows_any12 f e (HLE.out _ hf) v u w hv)
          have LQ := Lib.hid (fun v u w hv hu => leq_any12 f.deps e.deps (HLE.out _ hf) (HLE.out _ HEI.out) v u w hv hu)
          have SS := Lib.hid (And.intro s3 (And.intro s4 t4))
          have q2 : (i : Int) = (k : Int) ↔ i = k := by omega
          clear hdf hcf hf s1 s2 s3 s4 t1 t2 t3 t4 hfn
          have NE := Lib.hid (fun (h : i ≠ k) => show ∀ w, (binOp .eql 32 (.agg #[.int .i64 e.r, .int .i64 e.q]) (.agg #[.int .i64 f.r, .int .i64 f.q])).run Tryd.prog w = .ok (.bool false) w from fun w => by
            have hn := SS.out.2.1 h
            go_simp
            by_cases h1 : e.r = f.r <;> by_cases h2 : e.q = f.q <;> simp_all)
          go_upto_region 11 with fail
          cases hkik : hasV e.deps f.r f.q with
          | true =>
            have h3 := SS.out.1 hkik
            rw [hkik] at K1
            have K2 := Lib.hid (show ∀ v u w, HasDots w v f.deps → Calls Tryd.prog 9 #[.agg (evC f v), .agg (evC e u)] w fun x w' => x = .returned (.bool false) ∧ Below w.heap.size w w' from fun v u w hv => by have h := K2.out v u w hv; rwa [h3.1] at h)
            have LQ := Lib.hid (show ∀ v u w, HasDots w v f.deps → HasDots w u e.deps → Calls Tryd.prog 10 #[v, u] w fun x w' => x = .returned (.bool true) ∧ Below w.heap.size w w' from fun v u w hv hu => by have h := LQ.out v u w hv hu; rwa [h3.2] at h)
            clear h3 hkik
            by_cases hik : i = k
            · have q3 : ((i : Int) != (k : Int)) = false := by simp [hik]
              clear hik q2
              refine wp_region_held_drew (S := fun w' => Below W3.heap.size W3 w') (by kernel_rfl) (drawS HBK.out) (fun hHeld => ?_)
              generalize wr.drew = wd at hHeld ⊢
              refine take_at (i := 0) 43 rfl rfl (by kernel_rfl) (by kernel_rfl) (by kernel_rfl) (fun _ _ _ h => h) (sure_yes (by rfl) (fun w => by go_simp; try with_reducible rfl)) hHeld ?_
              simp only [List.setIfInBounds_toArray, List.set_cons_zero, List.set_cons_succ]
              refine take_at (i := 1) 44 rfl rfl (by kernel_rfl) (by kernel_rfl) (by kernel_rfl) (fun _ _ _ h => h) (sure_yes (by rfl) (fun w => by go_simp; try with_reducible rfl)) hHeld ?_
              simp only [List.setIfInBounds_toArray, List.set_cons_zero, List.set_cons_succ]
              refine take_at (i := 2) 45 rfl rfl (by kernel_rfl) (by kernel_rfl) (by kernel_rfl) (fun _ _ _ h => h) (sure_yes (by rfl) (fun w => by go_simp; try with_reducible rfl)) hHeld ?_
              simp only [List.setIfInBounds_toArray, List.set_cons_zero, List.set_cons_succ]
              refine take_at (i := 4) 47 rfl rfl (by kernel_rfl) (by kernel_rfl) (by kernel_rfl) (fun _ _ _ h => h) (sure_yes (by rfl) (fun w => by go_simp; try with_reducible rfl)) hHeld ?_
              simp only [List.setIfInBounds_toArray, List.set_cons_zero, List.set_cons_succ]
              refine take_at (i := 5) 48 rfl rfl (by kernel_rfl) (by kernel_rfl) (by kernel_rfl) (fun _ _ _ h => h) (sure_yes (by rfl) (fun w => by go_simp; try with_reducible rfl)) hHeld ?_
              simp only [List.setIfInBounds_toArray, List.set_cons_zero, List.set_cons_succ]
              refine take_at (i := 6) 49 rfl rfl (by kernel_rfl) (by kernel_rfl) (by kernel_rfl) (fun _ _ _ h => h) (sure_yes (by rfl) (fun w => by go_simp; try with_reducible rfl)) hHeld ?_
              simp only [List.setIfInBounds_toArray, List.set_cons_zero, List.set_cons_succ]
              refine take_at (i := 3) 46 rfl rfl (by kernel_rfl) (by kernel_rfl) (by kernel_rfl) (fun _ _ _ h => h) (evA_yields (by rfl) 36 (.tmp 45) rfl (ad.add (i * 38)) rfl Tryd.underlying36 evSize (fun w h j u hu => cell_under12 (CE.out j u hu) h)) hHeld ?_
              simp only [List.setIfInBounds_toArray, List.set_cons_zero, List.set_cons_succ]
              refine take_at (i := 7) 50 rfl rfl (by kernel_rfl) (by kernel_rfl) (by kernel_rfl) (fun _ _ _ h => h) (evA_yields (by rfl) 36 (.tmp 49) rfl (ad.add (k * 38)) rfl Tryd.underlying36 evSize (fun w h j u hu => cell_under12 (CF.out j u hu) h)) hHeld ?_
              simp only [List.setIfInBounds_toArray, List.set_cons_zero, List.set_cons_succ]
              refine ready_call2 8 51 (by kernel_rfl) rfl rfl (by rfl) 9 (.tmp 46) (.tmp 50) 36 36 rfl (.agg (evC e (.slice eo en ec))) (.agg (evC f (.slice fo fn fc))) rfl rfl (enters_of Tryd.func9 (by kernel_rfl) rfl) _ (K1.out _ _ _ (dots_below HDE.out hHeld)) (fun x wz hp => ?_)
              obtain ⟨rfl, hb⟩ := hp
              refine ⟨_, rfl, below_next hHeld hb, ?_⟩
              replace hHeld := below_next hHeld hb
              clear hb
              simp only [List.setIfInBounds_toArray, List.set_cons_zero, List.set_cons_succ]
              refine take_at (i := 9) 52 rfl rfl (by kernel_rfl) (by kernel_rfl) (by kernel_rfl) (fun _ _ _ h => h) (sure_yes (by rfl) (fun w => by go_simp; try with_reducible rfl)) hHeld ?_
              simp only [List.setIfInBounds_toArray, List.set_cons_zero, List.set_cons_succ]
              refine take_at (i := 10) 53 rfl rfl (by kernel_rfl) (by kernel_rfl) (by kernel_rfl) (fun _ _ _ h => h) (sure_yes (by rfl) (fun w => by go_simp; try with_reducible rfl)) hHeld ?_
              simp only [List.setIfInBounds_toArray, List.set_cons_zero, List.set_cons_succ]
              refine take_at (i := 11) 54 rfl rfl (by kernel_rfl) (by kernel_rfl) (by kernel_rfl) (fun _ _ _ h => h) (sure_yes (by rfl) (fun w => by go_simp; try with_reducible rfl)) hHeld ?_
              simp only [List.setIfInBounds_toArray, List.set_cons_zero, List.set_cons_succ]
              refine take_at (i := 12) 55 rfl rfl (by kernel_rfl) (by kernel_rfl) (by kernel_rfl) (fun _ _ _ h => h) (sure_yes (by rfl) (fun w => by go_simp; try with_reducible rfl)) hHeld ?_
              simp only [List.setIfInBounds_toArray, List.set_cons_zero, List.set_cons_succ]
              refine take_at (i := 14) 57 rfl rfl (by kernel_rfl) (by kernel_rfl) (by kernel_rfl) (fun _ _ _ h => h) (sure_yes (by rfl) (fun w => by go_simp; try with_reducible rfl)) hHeld ?_
              simp only [List.setIfInBounds_toArray, List.set_cons_zero, List.set_cons_succ]
              refine take_at (i := 15) 58 rfl rfl (by kernel_rfl) (by kernel_rfl) (by kernel_rfl) (fun _ _ _ h => h) (sure_yes (by rfl) (fun w => by go_simp; try with_reducible rfl)) hHeld ?_
              simp only [List.setIfInBounds_toArray, List.set_cons_zero, List.set_cons_succ]
              refine take_at (i := 16) 59 rfl rfl (by kernel_rfl) (by kernel_rfl) (by kernel_rfl) (fun _ _ _ h => h) (sure_yes (by rfl) (fun w => by go_simp; try with_reducible rfl)) hHeld ?_
              simp only [List.setIfInBounds_toArray, List.set_cons_zero, List.set_cons_succ]
              refine take_at (i := 13) 56 rfl rfl (by kernel_rfl) (by kernel_rfl) (by kernel_rfl) (fun _ _ _ h => h) (evA_yields (by rfl) 36 (.tmp 55) rfl (ad.add (k * 38)) rfl Tryd.underlying36 evSize (fun w h j u hu => cell_under12 (CF.out j u hu) h)) hHeld ?_
              simp only [List.setIfInBounds_toArray, List.set_cons_zero, List.set_cons_succ]
              refine take_at (i := 17) 60 rfl rfl (by kernel_rfl) (by kernel_rfl) (by kernel_rfl) (fun _ _ _ h => h) (evA_yields (by rfl) 36 (.tmp 59) rfl (ad.add (i * 38)) rfl Tryd.underlying36 evSize (fun w h j u hu => cell_under12 (CE.out j u hu) h)) hHeld ?_
              simp only [List.setIfInBounds_toArray, List.set_cons_zero, List.set_cons_succ]
              refine ready_call2 18 61 (by kernel_rfl) rfl rfl (by rfl) 9 (.tmp 56) (.tmp 60) 36 36 rfl (.agg (evC f (.slice fo fn fc))) (.agg (evC e (.slice eo en ec))) rfl rfl (enters_of Tryd.func9 (by kernel_rfl) rfl) _ (K2.out _ _ _ (dots_below HDF.out hHeld)) (fun x wz hp => ?_)
              obtain ⟨rfl, hb⟩ := hp
              refine ⟨_, rfl, below_next hHeld hb, ?_⟩
              replace hHeld := below_next hHeld hb
              clear hb
              simp only [List.setIfInBounds_toArray, List.set_cons_zero, List.set_cons_succ]
              refine take_at (i := 19) 62 rfl rfl (by kernel_rfl) (by kernel_rfl) (by kernel_rfl) (fun _ _ _ h => h) (sure_yes (by rfl) (fun w => by go_simp; try with_reducible rfl)) hHeld ?_
              simp only [List.setIfInBounds_toArray, List.set_cons_zero, List.set_cons_succ]
              refine take_at (i := 20) 63 rfl rfl (by kernel_rfl) (by kernel_rfl) (by kernel_rfl) (fun _ _ _ h => h) (sure_yes (by rfl) (fun w => by go_simp; try with_reducible rfl)) hHeld ?_
              simp only [List.setIfInBounds_toArray, List.set_cons_zero, List.set_cons_succ]
              refine take_at (i := 21) 64 rfl rfl (by kernel_rfl) (by kernel_rfl) (by kernel_rfl) (fun _ _ _ h => h) (sure_yes (by rfl) (fun w => by go_simp; try with_reducible rfl)) hHeld ?_
              simp only [List.setIfInBounds_toArray, List.set_cons_zero, List.set_cons_succ]
              refine take_at (i := 22) 65 rfl rfl (by kernel_rfl) (by kernel_rfl) (by kernel_rfl) (fun _ _ _ h => h) (sure_yes (by rfl) (fun w => by go_simp; try with_reducible rfl)) hHeld ?_
              simp only [List.setIfInBounds_toArray, List.set_cons_zero, List.set_cons_succ]
              refine take_at (i := 23) 66 rfl rfl (by kernel_rfl) (by kernel_rfl) (by kernel_rfl) (fun _ _ _ h => h) (sure_yes (by rfl) (fun w => by go_simp; try with_reducible rfl)) hHeld ?_
              simp only [List.setIfInBounds_toArray, List.set_cons_zero, List.set_cons_succ]
              refine take_at (i := 25) 68 rfl rfl (by kernel_rfl) (by kernel_rfl) (by kernel_rfl) (fun _ _ _ h => h) (sure_yes (by rfl) (fun w => by go_simp; try with_reducible rfl)) hHeld ?_
              simp only [List.setIfInBounds_toArray, List.set_cons_zero, List.set_cons_succ]
              refine take_at (i := 26) 69 rfl rfl (by kernel_rfl) (by kernel_rfl) (by kernel_rfl) (fun _ _ _ h => h) (sure_yes (by rfl) (fun w => by go_simp; try with_reducible rfl)) hHeld ?_
              simp only [List.setIfInBounds_toArray, List.set_cons_zero, List.set_cons_succ]
              refine take_at (i := 27) 70 rfl rfl (by kernel_rfl) (by kernel_rfl) (by kernel_rfl) (fun _ _ _ h => h) (sure_yes (by rfl) (fun w => by go_simp; try with_reducible rfl)) hHeld ?_
              simp only [List.setIfInBounds_toArray, List.set_cons_zero, List.set_cons_succ]
              refine take_at (i := 28) 71 rfl rfl (by kernel_rfl) (by kernel_rfl) (by kernel_rfl) (fun _ _ _ h => h) (sure_yes (by rfl) (fun w => by go_simp; try with_reducible rfl)) hHeld ?_
              simp only [List.setIfInBounds_toArray, List.set_cons_zero, List.set_cons_succ]
              refine take_at (i := 24) 67 rfl rfl (by kernel_rfl) (by kernel_rfl) (by kernel_rfl) (fun _ _ _ h => h) (slice_yields12H (by rfl) 26 (.tmp 66) rfl ⟨(ad.add (k * 38)).block, (ad.add (k * 38)).off + 2, none⟩ rfl fo fn fc Tryd.underlying26 (fun w h => cell_under12 (ev_field CF.out 2 (by decide) _ (evC_at _ _).2.2.1) h)) hHeld ?_
              simp only [List.setIfInBounds_toArray, List.set_cons_zero, List.set_cons_succ]
              refine take_at (i := 29) 72 rfl rfl (by kernel_rfl) (by kernel_rfl) (by kernel_rfl) (fun _ _ _ h => h) (slice_yields12H (by rfl) 26 (.tmp 71) rfl ⟨(ad.add (i * 38)).block, (ad.add (i * 38)).off + 2, none⟩ rfl eo en ec Tryd.underlying26 (fun w h => cell_under12 (ev_field CE.out 2 (by decide) _ (evC_at _ _).2.2.1) h)) hHeld ?_
              simp only [List.setIfInBounds_toArray, List.set_cons_zero, List.set_cons_succ]
              refine ready_call2 30 73 (by kernel_rfl) rfl rfl (by rfl) 10 (.tmp 67) (.tmp 72) 26 26 rfl (.slice fo fn fc) (.slice eo en ec) rfl rfl (enters_of Tryd.func10 (by kernel_rfl) rfl) _ (LQ.out _ _ _ (dots_below HDF.out hHeld) (dots_below HDE.out hHeld)) (fun x wz hp => ?_)
              obtain ⟨rfl, hb⟩ := hp
              refine ⟨_, rfl, below_next hHeld hb, ?_⟩
              replace hHeld := below_next hHeld hb
              clear hb
              simp only [List.setIfInBounds_toArray, List.set_cons_zero, List.set_cons_succ]
              refine take_at (i := 31) 74 rfl rfl (by kernel_rfl) (by kernel_rfl) (by kernel_rfl) (fun _ _ _ h => h) (sure_yes (by rfl) (fun w => by go_simp; try with_reducible rfl)) hHeld ?_
              simp only [List.setIfInBounds_toArray, List.set_cons_zero, List.set_cons_succ]
              refine take_at (i := 32) 75 rfl rfl (by kernel_rfl) (by kernel_rfl) (by kernel_rfl) (fun _ _ _ h => h) (sure_yes (by rfl) (fun w => by go_simp; try with_reducible rfl)) hHeld ?_
              simp only [List.setIfInBounds_toArray, List.set_cons_zero, List.set_cons_succ]
              refine take_at (i := 33) 76 rfl rfl (by kernel_rfl) (by kernel_rfl) (by kernel_rfl) (fun _ _ _ h => h) (sure_yes (by rfl) (fun w => by go_simp; try with_reducible rfl)) hHeld ?_
              simp only [List.setIfInBounds_toArray, List.set_cons_zero, List.set_cons_succ]
              refine take_at (i := 34) 77 rfl rfl (by kernel_rfl) (by kernel_rfl) (by kernel_rfl) (fun _ _ _ h => h) (sure_yes (by rfl) (fun w => by go_simp; try with_reducible rfl)) hHeld ?_
              simp only [List.setIfInBounds_toArray, List.set_cons_zero, List.set_cons_succ]
              refine take_at (i := 35) 78 rfl rfl (by kernel_rfl) (by kernel_rfl) (by kernel_rfl) (fun _ _ _ h => h) (sure_yes (by rfl) (fun w => by go_simp; try with_reducible rfl)) hHeld ?_
              simp only [List.setIfInBounds_toArray, List.set_cons_zero, List.set_cons_succ]
              refine take_at (i := 36) 79 rfl rfl (by kernel_rfl) (by kernel_rfl) (by kernel_rfl) (fun _ _ _ h => h) (sure_yes (by rfl) (fun w => by go_simp; try with_reducible rfl)) hHeld ?_
              simp only [List.setIfInBounds_toArray, List.set_cons_zero, List.set_cons_succ]
              refine take_at (i := 37) 80 rfl rfl (by kernel_rfl) (by kernel_rfl) (by kernel_rfl) (fun _ _ _ h => h) (sure_yes (by rfl) (fun w => by go_simp; try with_reducible rfl)) hHeld ?_
              simp only [List.setIfInBounds_toArray, List.set_cons_zero, List.set_cons_succ]
              refine take_at (i := 38) 81 rfl rfl (by kernel_rfl) (by kernel_rfl) (by kernel_rfl) (fun _ _ _ h => h) (sure_yes (by rfl) (fun w => by go_simp; try with_reducible rfl)) hHeld ?_
              simp only [List.setIfInBounds_toArray, List.set_cons_zero, List.set_cons_succ]
              refine take_at (i := 39) 82 rfl rfl (by kernel_rfl) (by kernel_rfl) (by kernel_rfl) (fun _ _ _ h => h) (.inr ⟨by rfl, rfl⟩) hHeld ?_
              simp only [List.setIfInBounds_toArray, List.set_cons_zero, List.set_cons_succ]
              refine take_at (i := 40) 83 rfl rfl (by kernel_rfl) (by kernel_rfl) (by kernel_rfl) (fun _ _ _ h => h) (.inr ⟨by rfl, rfl⟩) hHeld ?_
              simp only [List.setIfInBounds_toArray, List.set_cons_zero, List.set_cons_succ]
              refine take_at (i := 41) 84 rfl rfl (by kernel_rfl) (by kernel_rfl) (by kernel_rfl) (fun _ _ _ h => h) (.inr ⟨by rfl, rfl⟩) hHeld ?_
              simp only [List.setIfInBounds_toArray, List.set_cons_zero, List.set_cons_succ]
              refine take_at (i := 42) 85 rfl rfl (by kernel_rfl) (by kernel_rfl) (by kernel_rfl) (fun _ _ _ h => h) (.inr ⟨by rfl, rfl⟩) hHeld ?_
              simp only [List.setIfInBounds_toArray, List.set_cons_zero, List.set_cons_succ]
              refine take_at (i := 44) 87 rfl rfl (by kernel_rfl) (by kernel_rfl) (by kernel_rfl) (fun _ _ _ h => h) (.inr ⟨by rfl, rfl⟩) hHeld ?_
              simp only [List.setIfInBounds_toArray, List.set_cons_zero, List.set_cons_succ]
              refine take_at (i := 45) 88 rfl rfl (by kernel_rfl) (by kernel_rfl) (by kernel_rfl) (fun _ _ _ h => h) (.inr ⟨by rfl, rfl⟩) hHeld ?_
              simp only [List.setIfInBounds_toArray, List.set_cons_zero, List.set_cons_succ]
              refine take_at (i := 46) 89 rfl rfl (by kernel_rfl) (by kernel_rfl) (by kernel_rfl) (fun _ _ _ h => h) (.inr ⟨by rfl, rfl⟩) hHeld ?_
              simp only [List.setIfInBounds_toArray, List.set_cons_zero, List.set_cons_succ]
              refine take_at (i := 47) 90 rfl rfl (by kernel_rfl) (by kernel_rfl) (by kernel_rfl) (fun _ _ _ h => h) (.inr ⟨by rfl, rfl⟩) hHeld ?_
              simp only [List.setIfInBounds_toArray, List.set_cons_zero, List.set_cons_succ]
              refine take_at (i := 43) 86 rfl rfl (by kernel_rfl) (by kernel_rfl) (by kernel_rfl) (fun _ _ _ h => h) (.inr ⟨by rfl, rfl⟩) hHeld ?_
              simp only [List.setIfInBounds_toArray, List.set_cons_zero, List.set_cons_succ]
              refine take_at (i := 48) 91 rfl rfl (by kernel_rfl) (by kernel_rfl) (by kernel_rfl) (fun _ _ _ h => h) (.inr ⟨by rfl, rfl⟩) hHeld ?_
              simp only [List.setIfInBounds_toArray, List.set_cons_zero, List.set_cons_succ]
              refine take_at (i := 49) 92 rfl rfl (by kernel_rfl) (by kernel_rfl) (by kernel_rfl) (fun _ _ _ h => h) (.inr ⟨by rfl, rfl⟩) hHeld ?_
              simp only [List.setIfInBounds_toArray, List.set_cons_zero, List.set_cons_succ]
              refine take_at (i := 50) 93 rfl rfl (by kernel_rfl) (by kernel_rfl) (by kernel_rfl) (fun _ _ _ h => h) (sure_yes (by rfl) (fun w => by go_simp; try with_reducible rfl)) hHeld ?_
              simp only [List.setIfInBounds_toArray, List.set_cons_zero, List.set_cons_succ]
              refine take_at (i := 51) 94 rfl rfl (by kernel_rfl) (by kernel_rfl) (by kernel_rfl) (fun _ _ _ h => h) (sure_yes (by rfl) (fun w => by go_simp; try with_reducible rfl)) hHeld ?_
              simp only [List.setIfInBounds_toArray, List.set_cons_zero, List.set_cons_succ]
              refine wpAnyH_done (by kernel_rfl) ?_ _
              have HY := Lib.hid hHeld
              clear hHeld
              go_wp2
              go_roundw
              case rel => exact ⟨k + 1, by omega, by have := HN40.out; go_num, HY.out⟩
              case measure => have := HN40.out; simp [intOf] <;> omega
            · have q3 : ((i : Int) != (k : Int)) = true := by simp; omega
              have NE := Lib.hid (NE.out hik)
              clear hik q2
              refine wp_region_held_drew (S := fun w' => Below W3.heap.size W3 w') (by kernel_rfl) (drawS HBK.out) (fun hHeld => ?_)
              generalize wr.drew = wd at hHeld ⊢
              refine take_at (i := 0) 43 rfl rfl (by kernel_rfl) (by kernel_rfl) (by kernel_rfl) (fun _ _ _ h => h) (sure_yes (by rfl) (fun w => by go_simp; try with_reducible rfl)) hHeld ?_
              simp only [List.setIfInBounds_toArray, List.set_cons_zero, List.set_cons_succ]
              refine take_at (i := 1) 44 rfl rfl (by kernel_rfl) (by kernel_rfl) (by kernel_rfl) (fun _ _ _ h => h) (sure_yes (by rfl) (fun w => by go_simp; try with_reducible rfl)) hHeld ?_
              simp only [List.setIfInBounds_toArray, List.set_cons_zero, List.set_cons_succ]
              refine take_at (i := 2) 45 rfl rfl (by kernel_rfl) (by kernel_rfl) (by kernel_rfl) (fun _ _ _ h => h) (sure_yes (by rfl) (fun w => by go_simp; try with_reducible rfl)) hHeld ?_
              simp only [List.setIfInBounds_toArray, List.set_cons_zero, List.set_cons_succ]
              refine take_at (i := 4) 47 rfl rfl (by kernel_rfl) (by kernel_rfl) (by kernel_rfl) (fun _ _ _ h => h) (sure_yes (by rfl) (fun w => by go_simp; try with_reducible rfl)) hHeld ?_
              simp only [List.setIfInBounds_toArray, List.set_cons_zero, List.set_cons_succ]
              refine take_at (i := 5) 48 rfl rfl (by kernel_rfl) (by kernel_rfl) (by kernel_rfl) (fun _ _ _ h => h) (sure_yes (by rfl) (fun w => by go_simp; try with_reducible rfl)) hHeld ?_
              simp only [List.setIfInBounds_toArray, List.set_cons_zero, List.set_cons_succ]
              refine take_at (i := 6) 49 rfl rfl (by kernel_rfl) (by kernel_rfl) (by kernel_rfl) (fun _ _ _ h => h) (sure_yes (by rfl) (fun w => by go_simp; try with_reducible rfl)) hHeld ?_
              simp only [List.setIfInBounds_toArray, List.set_cons_zero, List.set_cons_succ]
              refine take_at (i := 3) 46 rfl rfl (by kernel_rfl) (by kernel_rfl) (by kernel_rfl) (fun _ _ _ h => h) (evA_yields (by rfl) 36 (.tmp 45) rfl (ad.add (i * 38)) rfl Tryd.underlying36 evSize (fun w h j u hu => cell_under12 (CE.out j u hu) h)) hHeld ?_
              simp only [List.setIfInBounds_toArray, List.set_cons_zero, List.set_cons_succ]
              refine take_at (i := 7) 50 rfl rfl (by kernel_rfl) (by kernel_rfl) (by kernel_rfl) (fun _ _ _ h => h) (evA_yields (by rfl) 36 (.tmp 49) rfl (ad.add (k * 38)) rfl Tryd.underlying36 evSize (fun w h j u hu => cell_under12 (CF.out j u hu) h)) hHeld ?_
              simp only [List.setIfInBounds_toArray, List.set_cons_zero, List.set_cons_succ]
              refine ready_call2 8 51 (by kernel_rfl) rfl rfl (by rfl) 9 (.tmp 46) (.tmp 50) 36 36 rfl (.agg (evC e (.slice eo en ec))) (.agg (evC f (.slice fo fn fc))) rfl rfl (enters_of Tryd.func9 (by kernel_rfl) rfl) _ (K1.out _ _ _ (dots_below HDE.out hHeld)) (fun x wz hp => ?_)
              obtain ⟨rfl, hb⟩ := hp
              refine ⟨_, rfl, below_next hHeld hb, ?_⟩
              replace hHeld := below_next hHeld hb
              clear hb
              simp only [List.setIfInBounds_toArray, List.set_cons_zero, List.set_cons_succ]
              refine take_at (i := 9) 52 rfl rfl (by kernel_rfl) (by kernel_rfl) (by kernel_rfl) (fun _ _ _ h => h) (sure_yes (by rfl) (fun w => by go_simp; try with_reducible rfl)) hHeld ?_
              simp only [List.setIfInBounds_toArray, List.set_cons_zero, List.set_cons_succ]
              refine take_at (i := 10) 53 rfl rfl (by kernel_rfl) (by kernel_rfl) (by kernel_rfl) (fun _ _ _ h => h) (sure_yes (by rfl) (fun w => by go_simp; try with_reducible rfl)) hHeld ?_
              simp only [List.setIfInBounds_toArray, List.set_cons_zero, List.set_cons_succ]
              refine take_at (i := 11) 54 rfl rfl (by kernel_rfl) (by kernel_rfl) (by kernel_rfl) (fun _ _ _ h => h) (sure_yes (by rfl) (fun w => by go_simp; try with_reducible rfl)) hHeld ?_
              simp only [List.setIfInBounds_toArray, List.set_cons_zero, List.set_cons_succ]
              refine take_at (i := 12) 55 rfl rfl (by kernel_rfl) (by kernel_rfl) (by kernel_rfl) (fun _ _ _ h => h) (sure_yes (by rfl) (fun w => by go_simp; try with_reducible rfl)) hHeld ?_
              simp only [List.setIfInBounds_toArray, List.set_cons_zero, List.set_cons_succ]
              refine take_at (i := 14) 57 rfl rfl (by kernel_rfl) (by kernel_rfl) (by kernel_rfl) (fun _ _ _ h => h) (sure_yes (by rfl) (fun w => by go_simp; try with_reducible rfl)) hHeld ?_
              simp only [List.setIfInBounds_toArray, List.set_cons_zero, List.set_cons_succ]
              refine take_at (i := 15) 58 rfl rfl (by kernel_rfl) (by kernel_rfl) (by kernel_rfl) (fun _ _ _ h => h) (sure_yes (by rfl) (fun w => by go_simp; try with_reducible rfl)) hHeld ?_
              simp only [List.setIfInBounds_toArray, List.set_cons_zero, List.set_cons_succ]
              refine take_at (i := 16) 59 rfl rfl (by kernel_rfl) (by kernel_rfl) (by kernel_rfl) (fun _ _ _ h => h) (sure_yes (by rfl) (fun w => by go_simp; try with_reducible rfl)) hHeld ?_
              simp only [List.setIfInBounds_toArray, List.set_cons_zero, List.set_cons_succ]
              refine take_at (i := 13) 56 rfl rfl (by kernel_rfl) (by kernel_rfl) (by kernel_rfl) (fun _ _ _ h => h) (evA_yields (by rfl) 36 (.tmp 55) rfl (ad.add (k * 38)) rfl Tryd.underlying36 evSize (fun w h j u hu => cell_under12 (CF.out j u hu) h)) hHeld ?_
              simp only [List.setIfInBounds_toArray, List.set_cons_zero, List.set_cons_succ]
              refine take_at (i := 17) 60 rfl rfl (by kernel_rfl) (by kernel_rfl) (by kernel_rfl) (fun _ _ _ h => h) (evA_yields (by rfl) 36 (.tmp 59) rfl (ad.add (i * 38)) rfl Tryd.underlying36 evSize (fun w h j u hu => cell_under12 (CE.out j u hu) h)) hHeld ?_
              simp only [List.setIfInBounds_toArray, List.set_cons_zero, List.set_cons_succ]
              refine ready_call2 18 61 (by kernel_rfl) rfl rfl (by rfl) 9 (.tmp 56) (.tmp 60) 36 36 rfl (.agg (evC f (.slice fo fn fc))) (.agg (evC e (.slice eo en ec))) rfl rfl (enters_of Tryd.func9 (by kernel_rfl) rfl) _ (K2.out _ _ _ (dots_below HDF.out hHeld)) (fun x wz hp => ?_)
              obtain ⟨rfl, hb⟩ := hp
              refine ⟨_, rfl, below_next hHeld hb, ?_⟩
              replace hHeld := below_next hHeld hb
              clear hb
              simp only [List.setIfInBounds_toArray, List.set_cons_zero, List.set_cons_succ]
              refine take_at (i := 19) 62 rfl rfl (by kernel_rfl) (by kernel_rfl) (by kernel_rfl) (fun _ _ _ h => h) (sure_yes (by rfl) (fun w => by go_simp; try with_reducible rfl)) hHeld ?_
              simp only [List.setIfInBounds_toArray, List.set_cons_zero, List.set_cons_succ]
              refine take_at (i := 20) 63 rfl rfl (by kernel_rfl) (by kernel_rfl) (by kernel_rfl) (fun _ _ _ h => h) (sure_yes (by rfl) (fun w => by go_simp; try with_reducible rfl)) hHeld ?_
              simp only [List.setIfInBounds_toArray, List.set_cons_zero, List.set_cons_succ]
              refine take_at (i := 21) 64 rfl rfl (by kernel_rfl) (by kernel_rfl) (by kernel_rfl) (fun _ _ _ h => h) (sure_yes (by rfl) (fun w => by go_simp; try with_reducible rfl)) hHeld ?_
              simp only [List.setIfInBounds_toArray, List.set_cons_zero, List.set_cons_succ]
              refine take_at (i := 22) 65 rfl rfl (by kernel_rfl) (by kernel_rfl) (by kernel_rfl) (fun _ _ _ h => h) (sure_yes (by rfl) (fun w => by go_simp; try with_reducible rfl)) hHeld ?_
              simp only [List.setIfInBounds_toArray, List.set_cons_zero, List.set_cons_succ]
              refine take_at (i := 23) 66 rfl rfl (by kernel_rfl) (by kernel_rfl) (by kernel_rfl) (fun _ _ _ h => h) (sure_yes (by rfl) (fun w => by go_simp; try with_reducible rfl)) hHeld ?_
              simp only [List.setIfInBounds_toArray, List.set_cons_zero, List.set_cons_succ]
              refine take_at (i := 25) 68 rfl rfl (by kernel_rfl) (by kernel_rfl) (by kernel_rfl) (fun _ _ _ h => h) (sure_yes (by rfl) (fun w => by go_simp; try with_reducible rfl)) hHeld ?_
              simp only [List.setIfInBounds_toArray, List.set_cons_zero, List.set_cons_succ]
              refine take_at (i := 26) 69 rfl rfl (by kernel_rfl) (by kernel_rfl) (by kernel_rfl) (fun _ _ _ h => h) (sure_yes (by rfl) (fun w => by go_simp; try with_reducible rfl)) hHeld ?_
              simp only [List.setIfInBounds_toArray, List.set_cons_zero, List.set_cons_succ]
              refine take_at (i := 27) 70 rfl rfl (by kernel_rfl) (by kernel_rfl) (by kernel_rfl) (fun _ _ _ h => h) (sure_yes (by rfl) (fun w => by go_simp; try with_reducible rfl)) hHeld ?_
              simp only [List.setIfInBounds_toArray, List.set_cons_zero, List.set_cons_succ]
              refine take_at (i := 28) 71 rfl rfl (by kernel_rfl) (by kernel_rfl) (by kernel_rfl) (fun _ _ _ h => h) (sure_yes (by rfl) (fun w => by go_simp; try with_reducible rfl)) hHeld ?_
              simp only [List.setIfInBounds_toArray, List.set_cons_zero, List.set_cons_succ]
              refine take_at (i := 24) 67 rfl rfl (by kernel_rfl) (by kernel_rfl) (by kernel_rfl) (fun _ _ _ h => h) (slice_yields12H (by rfl) 26 (.tmp 66) rfl ⟨(ad.add (k * 38)).block, (ad.add (k * 38)).off + 2, none⟩ rfl fo fn fc Tryd.underlying26 (fun w h => cell_under12 (ev_field CF.out 2 (by decide) _ (evC_at _ _).2.2.1) h)) hHeld ?_
              simp only [List.setIfInBounds_toArray, List.set_cons_zero, List.set_cons_succ]
              refine take_at (i := 29) 72 rfl rfl (by kernel_rfl) (by kernel_rfl) (by kernel_rfl) (fun _ _ _ h => h) (slice_yields12H (by rfl) 26 (.tmp 71) rfl ⟨(ad.add (i * 38)).block, (ad.add (i * 38)).off + 2, none⟩ rfl eo en ec Tryd.underlying26 (fun w h => cell_under12 (ev_field CE.out 2 (by decide) _ (evC_at _ _).2.2.1) h)) hHeld ?_
              simp only [List.setIfInBounds_toArray, List.set_cons_zero, List.set_cons_succ]
              refine ready_call2 30 73 (by kernel_rfl) rfl rfl (by rfl) 10 (.tmp 67) (.tmp 72) 26 26 rfl (.slice fo fn fc) (.slice eo en ec) rfl rfl (enters_of Tryd.func10 (by kernel_rfl) rfl) _ (LQ.out _ _ _ (dots_below HDF.out hHeld) (dots_below HDE.out hHeld)) (fun x wz hp => ?_)
              obtain ⟨rfl, hb⟩ := hp
              refine ⟨_, rfl, below_next hHeld hb, ?_⟩
              replace hHeld := below_next hHeld hb
              clear hb
              simp only [List.setIfInBounds_toArray, List.set_cons_zero, List.set_cons_succ]
              refine take_at (i := 31) 74 rfl rfl (by kernel_rfl) (by kernel_rfl) (by kernel_rfl) (fun _ _ _ h => h) (sure_yes (by rfl) (fun w => by go_simp; try with_reducible rfl)) hHeld ?_
              simp only [List.setIfInBounds_toArray, List.set_cons_zero, List.set_cons_succ]
              refine take_at (i := 32) 75 rfl rfl (by kernel_rfl) (by kernel_rfl) (by kernel_rfl) (fun _ _ _ h => h) (sure_yes (by rfl) (fun w => by go_simp; try with_reducible rfl)) hHeld ?_
              simp only [List.setIfInBounds_toArray, List.set_cons_zero, List.set_cons_succ]
              refine take_at (i := 33) 76 rfl rfl (by kernel_rfl) (by kernel_rfl) (by kernel_rfl) (fun _ _ _ h => h) (sure_yes (by rfl) (fun w => by go_simp; try with_reducible rfl)) hHeld ?_
              simp only [List.setIfInBounds_toArray, List.set_cons_zero, List.set_cons_succ]
              refine take_at (i := 34) 77 rfl rfl (by kernel_rfl) (by kernel_rfl) (by kernel_rfl) (fun _ _ _ h => h) (sure_yes (by rfl) (fun w => by go_simp; try with_reducible rfl)) hHeld ?_
              simp only [List.setIfInBounds_toArray, List.set_cons_zero, List.set_cons_succ]
              refine take_at (i := 35) 78 rfl rfl (by kernel_rfl) (by kernel_rfl) (by kernel_rfl) (fun _ _ _ h => h) (sure_yes (by rfl) (fun w => by go_simp; try with_reducible rfl)) hHeld ?_
              simp only [List.setIfInBounds_toArray, List.set_cons_zero, List.set_cons_succ]
              refine take_at (i := 36) 79 rfl rfl (by kernel_rfl) (by kernel_rfl) (by kernel_rfl) (fun _ _ _ h => h) (sure_yes (by rfl) (fun w => by go_simp; try with_reducible rfl)) hHeld ?_
              simp only [List.setIfInBounds_toArray, List.set_cons_zero, List.set_cons_succ]
              refine take_at (i := 37) 80 rfl rfl (by kernel_rfl) (by kernel_rfl) (by kernel_rfl) (fun _ _ _ h => h) (sure_yes (by rfl) (fun w => by go_simp; try with_reducible rfl)) hHeld ?_
              simp only [List.setIfInBounds_toArray, List.set_cons_zero, List.set_cons_succ]
              refine take_at (i := 38) 81 rfl rfl (by kernel_rfl) (by kernel_rfl) (by kernel_rfl) (fun _ _ _ h => h) (sure_yes (by rfl) (fun w => by go_simp; try with_reducible rfl)) hHeld ?_
              simp only [List.setIfInBounds_toArray, List.set_cons_zero, List.set_cons_succ]
              refine take_at (i := 39) 82 rfl rfl (by kernel_rfl) (by kernel_rfl) (by kernel_rfl) (fun _ _ _ h => h) (sure_yes (by rfl) (fun w => by go_simp; try with_reducible rfl)) hHeld ?_
              simp only [List.setIfInBounds_toArray, List.set_cons_zero, List.set_cons_succ]
              refine take_at (i := 40) 83 rfl rfl (by kernel_rfl) (by kernel_rfl) (by kernel_rfl) (fun _ _ _ h => h) (sure_yes (by rfl) (fun w => by go_simp; try with_reducible rfl)) hHeld ?_
              simp only [List.setIfInBounds_toArray, List.set_cons_zero, List.set_cons_succ]
              refine take_at (i := 41) 84 rfl rfl (by kernel_rfl) (by kernel_rfl) (by kernel_rfl) (fun _ _ _ h => h) (sure_yes (by rfl) (fun w => by go_simp; try with_reducible rfl)) hHeld ?_
              simp only [List.setIfInBounds_toArray, List.set_cons_zero, List.set_cons_succ]
              refine take_at (i := 42) 85 rfl rfl (by kernel_rfl) (by kernel_rfl) (by kernel_rfl) (fun _ _ _ h => h) (sure_yes (by rfl) (fun w => by go_simp; try with_reducible rfl)) hHeld ?_
              simp only [List.setIfInBounds_toArray, List.set_cons_zero, List.set_cons_succ]
              refine take_at (i := 44) 87 rfl rfl (by kernel_rfl) (by kernel_rfl) (by kernel_rfl) (fun _ _ _ h => h) (sure_yes (by rfl) (fun w => by go_simp; try with_reducible rfl)) hHeld ?_
              simp only [List.setIfInBounds_toArray, List.set_cons_zero, List.set_cons_succ]
              refine take_at (i := 45) 88 rfl rfl (by kernel_rfl) (by kernel_rfl) (by kernel_rfl) (fun _ _ _ h => h) (sure_yes (by rfl) (fun w => by go_simp; try with_reducible rfl)) hHeld ?_
              simp only [List.setIfInBounds_toArray, List.set_cons_zero, List.set_cons_succ]
              refine take_at (i := 46) 89 rfl rfl (by kernel_rfl) (by kernel_rfl) (by kernel_rfl) (fun _ _ _ h => h) (sure_yes (by rfl) (fun w => by go_simp; try with_reducible rfl)) hHeld ?_
              simp only [List.setIfInBounds_toArray, List.set_cons_zero, List.set_cons_succ]
              refine take_at (i := 47) 90 rfl rfl (by kernel_rfl) (by kernel_rfl) (by kernel_rfl) (fun _ _ _ h => h) (sure_yes (by rfl) (fun w => by go_simp; try with_reducible rfl)) hHeld ?_
              simp only [List.setIfInBounds_toArray, List.set_cons_zero, List.set_cons_succ]
              refine take_at (i := 43) 86 rfl rfl (by kernel_rfl) (by kernel_rfl) (by kernel_rfl) (fun _ _ _ h => h) (dot_yields (by rfl) 32 (.tmp 85) rfl (ad.add (i * 38)) rfl e.r e.q Tryd.underlying32 (by kernel_rfl) (fun w h => ⟨cell_under12 (ev_field0 CE.out _ (evC_at _ _).1) h, cell_under12 (ev_field CE.out 1 (by decide) _ (evC_at _ _).2.1) h⟩)) hHeld ?_
              simp only [List.setIfInBounds_toArray, List.set_cons_zero, List.set_cons_succ]
              refine take_at (i := 48) 91 rfl rfl (by kernel_rfl) (by kernel_rfl) (by kernel_rfl) (fun _ _ _ h => h) (dot_yields (by rfl) 32 (.tmp 90) rfl (ad.add (k * 38)) rfl f.r f.q Tryd.underlying32 (by kernel_rfl) (fun w h => ⟨cell_under12 (ev_field0 CF.out _ (evC_at _ _).1) h, cell_under12 (ev_field CF.out 1 (by decide) _ (evC_at _ _).2.1) h⟩)) hHeld ?_
              simp only [List.setIfInBounds_toArray, List.set_cons_zero, List.set_cons_succ]
              refine take_at (i := 49) 92 rfl rfl (by kernel_rfl) (by kernel_rfl) (by kernel_rfl) (fun _ _ _ h => h) (sure_yes (by rfl) (eql_op rfl rfl rfl (fun w => by go_simp) NE.out)) hHeld ?_
              simp only [List.setIfInBounds_toArray, List.set_cons_zero, List.set_cons_succ]
              refine take_at (i := 50) 93 rfl rfl (by kernel_rfl) (by kernel_rfl) (by kernel_rfl) (fun _ _ _ h => h) (sure_yes (by rfl) (fun w => by go_simp; try with_reducible rfl)) hHeld ?_
              simp only [List.setIfInBounds_toArray, List.set_cons_zero, List.set_cons_succ]
              refine take_at (i := 51) 94 rfl rfl (by kernel_rfl) (by kernel_rfl) (by kernel_rfl) (fun _ _ _ h => h) (sure_yes (by rfl) (fun w => by go_simp; try with_reducible rfl)) hHeld ?_
              simp only [List.setIfInBounds_toArray, List.set_cons_zero, List.set_cons_succ]
              refine wpAnyH_done (by kernel_rfl) ?_ _
              have HY := Lib.hid hHeld
              clear hHeld
              go_wp2
              go_roundw
              case rel => exact ⟨k + 1, by omega, by have := HN40.out; go_num, HY.out⟩
              case measure => have := HN40.out; simp [intOf] <;> omega
          | false =>
            rw [hkik] at K1
            clear hkik
            by_cases hik : i = k
            · have q3 : ((i : Int) != (k : Int)) = false := by simp [hik]
              clear hik q2
              refine wp_region_held_drew (S := fun w' => Below W3.heap.size W3 w') (by kernel_rfl) (drawS HBK.out) (fun hHeld => ?_)
              generalize wr.drew = wd at hHeld ⊢
              refine take_at (i := 0) 43 rfl rfl (by kernel_rfl) (by kernel_rfl) (by kernel_rfl) (fun _ _ _ h => h) (sure_yes (by rfl) (fun w => by go_simp; try with_reducible rfl)) hHeld ?_
              simp only [List.setIfInBounds_toArray, List.set_cons_zero, List.set_cons_succ]
              refine take_at (i := 1) 44 rfl rfl (by kernel_rfl) (by kernel_rfl) (by kernel_rfl) (fun _ _ _ h => h) (sure_yes (by rfl) (fun w => by go_simp; try with_reducible rfl)) hHeld ?_
              simp only [List.setIfInBounds_toArray, List.set_cons_zero, List.set_cons_succ]
              refine take_at (i := 2) 45 rfl rfl (by kernel_rfl) (by kernel_rfl) (by kernel_rfl) (fun _ _ _ h => h) (sure_yes (by rfl) (fun w => by go_simp; try with_reducible rfl)) hHeld ?_
              simp only [List.setIfInBounds_toArray, List.set_cons_zero, List.set_cons_succ]
              refine take_at (i := 4) 47 rfl rfl (by kernel_rfl) (by kernel_rfl) (by kernel_rfl) (fun _ _ _ h => h) (sure_yes (by rfl) (fun w => by go_simp; try with_reducible rfl)) hHeld ?_
              simp only [List.setIfInBounds_toArray, List.set_cons_zero, List.set_cons_succ]
              refine take_at (i := 5) 48 rfl rfl (by kernel_rfl) (by kernel_rfl) (by kernel_rfl) (fun _ _ _ h => h) (sure_yes (by rfl) (fun w => by go_simp; try with_reducible rfl)) hHeld ?_
              simp only [List.setIfInBounds_toArray, List.set_cons_zero, List.set_cons_succ]
              refine take_at (i := 6) 49 rfl rfl (by kernel_rfl) (by kernel_rfl) (by kernel_rfl) (fun _ _ _ h => h) (sure_yes (by rfl) (fun w => by go_simp; try with_reducible rfl)) hHeld ?_
              simp only [List.setIfInBounds_toArray, List.set_cons_zero, List.set_cons_succ]
              refine take_at (i := 3) 46 rfl rfl (by kernel_rfl) (by kernel_rfl) (by kernel_rfl) (fun _ _ _ h => h) (evA_yields (by rfl) 36 (.tmp 45) rfl (ad.add (i * 38)) rfl Tryd.underlying36 evSize (fun w h j u hu => cell_under12 (CE.out j u hu) h)) hHeld ?_
              simp only [List.setIfInBounds_toArray, List.set_cons_zero, List.set_cons_succ]
              refine take_at (i := 7) 50 rfl rfl (by kernel_rfl) (by kernel_rfl) (by kernel_rfl) (fun _ _ _ h => h) (evA_yields (by rfl) 36 (.tmp 49) rfl (ad.add (k * 38)) rfl Tryd.underlying36 evSize (fun w h j u hu => cell_under12 (CF.out j u hu) h)) hHeld ?_
              simp only [List.setIfInBounds_toArray, List.set_cons_zero, List.set_cons_succ]
              refine ready_call2 8 51 (by kernel_rfl) rfl rfl (by rfl) 9 (.tmp 46) (.tmp 50) 36 36 rfl (.agg (evC e (.slice eo en ec))) (.agg (evC f (.slice fo fn fc))) rfl rfl (enters_of Tryd.func9 (by kernel_rfl) rfl) _ (K1.out _ _ _ (dots_below HDE.out hHeld)) (fun x wz hp => ?_)
              obtain ⟨rfl, hb⟩ := hp
              refine ⟨_, rfl, below_next hHeld hb, ?_⟩
              replace hHeld := below_next hHeld hb
              clear hb
              simp only [List.setIfInBounds_toArray, List.set_cons_zero, List.set_cons_succ]
              refine take_at (i := 9) 52 rfl rfl (by kernel_rfl) (by kernel_rfl) (by kernel_rfl) (fun _ _ _ h => h) (sure_yes (by rfl) (fun w => by go_simp; try with_reducible rfl)) hHeld ?_
              simp only [List.setIfInBounds_toArray, List.set_cons_zero, List.set_cons_succ]
              refine take_at (i := 10) 53 rfl rfl (by kernel_rfl) (by kernel_rfl) (by kernel_rfl) (fun _ _ _ h => h) (.inr ⟨by rfl, rfl⟩) hHeld ?_
              simp only [List.setIfInBounds_toArray, List.set_cons_zero, List.set_cons_succ]
              refine take_at (i := 11) 54 rfl rfl (by kernel_rfl) (by kernel_rfl) (by kernel_rfl) (fun _ _ _ h => h) (.inr ⟨by rfl, rfl⟩) hHeld ?_
              simp only [List.setIfInBounds_toArray, List.set_cons_zero, List.set_cons_succ]
              refine take_at (i := 12) 55 rfl rfl (by kernel_rfl) (by kernel_rfl) (by kernel_rfl) (fun _ _ _ h => h) (.inr ⟨by rfl, rfl⟩) hHeld ?_
              simp only [List.setIfInBounds_toArray, List.set_cons_zero, List.set_cons_succ]
              refine take_at (i := 14) 57 rfl rfl (by kernel_rfl) (by kernel_rfl) (by kernel_rfl) (fun _ _ _ h => h) (.inr ⟨by rfl, rfl⟩) hHeld ?_
              simp only [List.setIfInBounds_toArray, List.set_cons_zero, List.set_cons_succ]
              refine take_at (i := 15) 58 rfl rfl (by kernel_rfl) (by kernel_rfl) (by kernel_rfl) (fun _ _ _ h => h) (.inr ⟨by rfl, rfl⟩) hHeld ?_
              simp only [List.setIfInBounds_toArray, List.set_cons_zero, List.set_cons_succ]
              refine take_at (i := 16) 59 rfl rfl (by kernel_rfl) (by kernel_rfl) (by kernel_rfl) (fun _ _ _ h => h) (.inr ⟨by rfl, rfl⟩) hHeld ?_
              simp only [List.setIfInBounds_toArray, List.set_cons_zero, List.set_cons_succ]
              refine take_at (i := 13) 56 rfl rfl (by kernel_rfl) (by kernel_rfl) (by kernel_rfl) (fun _ _ _ h => h) (.inr ⟨by rfl, rfl⟩) hHeld ?_
              simp only [List.setIfInBounds_toArray, List.set_cons_zero, List.set_cons_succ]
              refine take_at (i := 17) 60 rfl rfl (by kernel_rfl) (by kernel_rfl) (by kernel_rfl) (fun _ _ _ h => h) (.inr ⟨by rfl, rfl⟩) hHeld ?_
              simp only [List.setIfInBounds_toArray, List.set_cons_zero, List.set_cons_succ]
              refine take_at (i := 18) 61 rfl rfl (by kernel_rfl) (by kernel_rfl) (by kernel_rfl) (fun _ _ _ h => h) (.inr ⟨by rfl, rfl⟩) hHeld ?_
              simp only [List.setIfInBounds_toArray, List.set_cons_zero, List.set_cons_succ]
              refine take_at (i := 19) 62 rfl rfl (by kernel_rfl) (by kernel_rfl) (by kernel_rfl) (fun _ _ _ h => h) (.inr ⟨by rfl, rfl⟩) hHeld ?_
              simp only [List.setIfInBounds_toArray, List.set_cons_zero, List.set_cons_succ]
              refine take_at (i := 20) 63 rfl rfl (by kernel_rfl) (by kernel_rfl) (by kernel_rfl) (fun _ _ _ h => h) (.inr ⟨by rfl, rfl⟩) hHeld ?_
              simp only [List.setIfInBounds_toArray, List.set_cons_zero, List.set_cons_succ]
              refine take_at (i := 21) 64 rfl rfl (by kernel_rfl) (by kernel_rfl) (by kernel_rfl) (fun _ _ _ h => h) (.inr ⟨by rfl, rfl⟩) hHeld ?_
              simp only [List.setIfInBounds_toArray, List.set_cons_zero, List.set_cons_succ]
              refine take_at (i := 22) 65 rfl rfl (by kernel_rfl) (by kernel_rfl) (by kernel_rfl) (fun _ _ _ h => h) (.inr ⟨by rfl, rfl⟩) hHeld ?_
              simp only [List.setIfInBounds_toArray, List.set_cons_zero, List.set_cons_succ]
              refine take_at (i := 23) 66 rfl rfl (by kernel_rfl) (by kernel_rfl) (by kernel_rfl) (fun _ _ _ h => h) (.inr ⟨by rfl, rfl⟩) hHeld ?_
              simp only [List.setIfInBounds_toArray, List.set_cons_zero, List.set_cons_succ]
              refine take_at (i := 25) 68 rfl rfl (by kernel_rfl) (by kernel_rfl) (by kernel_rfl) (fun _ _ _ h => h) (.inr ⟨by rfl, rfl⟩) hHeld ?_
              simp only [List.setIfInBounds_toArray, List.set_cons_zero, List.set_cons_succ]
              refine take_at (i := 26) 69 rfl rfl (by kernel_rfl) (by kernel_rfl) (by kernel_rfl) (fun _ _ _ h => h) (.inr ⟨by rfl, rfl⟩) hHeld ?_
              simp only [List.setIfInBounds_toArray, List.set_cons_zero, List.set_cons_succ]
              refine take_at (i := 27) 70 rfl rfl (by kernel_rfl) (by kernel_rfl) (by kernel_rfl) (fun _ _ _ h => h) (.inr ⟨by rfl, rfl⟩) hHeld ?_
              simp only [List.setIfInBounds_toArray, List.set_cons_zero, List.set_cons_succ]
              refine take_at (i := 28) 71 rfl rfl (by kernel_rfl) (by kernel_rfl) (by kernel_rfl) (fun _ _ _ h => h) (.inr ⟨by rfl, rfl⟩) hHeld ?_
              simp only [List.setIfInBounds_toArray, List.set_cons_zero, List.set_cons_succ]
              refine take_at (i := 24) 67 rfl rfl (by kernel_rfl) (by kernel_rfl) (by kernel_rfl) (fun _ _ _ h => h) (.inr ⟨by rfl, rfl⟩) hHeld ?_
              simp only [List.setIfInBounds_toArray, List.set_cons_zero, List.set_cons_succ]
              refine take_at (i := 29) 72 rfl rfl (by kernel_rfl) (by kernel_rfl) (by kernel_rfl) (fun _ _ _ h => h) (.inr ⟨by rfl, rfl⟩) hHeld ?_
              simp only [List.setIfInBounds_toArray, List.set_cons_zero, List.set_cons_succ]
              refine take_at (i := 30) 73 rfl rfl (by kernel_rfl) (by kernel_rfl) (by kernel_rfl) (fun _ _ _ h => h) (.inr ⟨by rfl, rfl⟩) hHeld ?_
              simp only [List.setIfInBounds_toArray, List.set_cons_zero, List.set_cons_succ]
              refine take_at (i := 31) 74 rfl rfl (by kernel_rfl) (by kernel_rfl) (by kernel_rfl) (fun _ _ _ h => h) (.inr ⟨by rfl, rfl⟩) hHeld ?_
              simp only [List.setIfInBounds_toArray, List.set_cons_zero, List.set_cons_succ]
              refine take_at (i := 32) 75 rfl rfl (by kernel_rfl) (by kernel_rfl) (by kernel_rfl) (fun _ _ _ h => h) (.inr ⟨by rfl, rfl⟩) hHeld ?_
              simp only [List.setIfInBounds_toArray, List.set_cons_zero, List.set_cons_succ]
              refine take_at (i := 33) 76 rfl rfl (by kernel_rfl) (by kernel_rfl) (by kernel_rfl) (fun _ _ _ h => h) (sure_yes (by rfl) (fun w => by go_simp; try with_reducible rfl)) hHeld ?_
              simp only [List.setIfInBounds_toArray, List.set_cons_zero, List.set_cons_succ]
              refine take_at (i := 34) 77 rfl rfl (by kernel_rfl) (by kernel_rfl) (by kernel_rfl) (fun _ _ _ h => h) (sure_yes (by rfl) (fun w => by go_simp; try with_reducible rfl)) hHeld ?_
              simp only [List.setIfInBounds_toArray, List.set_cons_zero, List.set_cons_succ]
              refine take_at (i := 35) 78 rfl rfl (by kernel_rfl) (by kernel_rfl) (by kernel_rfl) (fun _ _ _ h => h) (sure_yes (by rfl) (fun w => by go_simp; try with_reducible rfl)) hHeld ?_
              simp only [List.setIfInBounds_toArray, List.set_cons_zero, List.set_cons_succ]
              refine take_at (i := 36) 79 rfl rfl (by kernel_rfl) (by kernel_rfl) (by kernel_rfl) (fun _ _ _ h => h) (sure_yes (by rfl) (fun w => by go_simp; try with_reducible rfl)) hHeld ?_
              simp only [List.setIfInBounds_toArray, List.set_cons_zero, List.set_cons_succ]
              refine take_at (i := 37) 80 rfl rfl (by kernel_rfl) (by kernel_rfl) (by kernel_rfl) (fun _ _ _ h => h) (sure_yes (by rfl) (fun w => by go_simp; try with_reducible rfl)) hHeld ?_
              simp only [List.setIfInBounds_toArray, List.set_cons_zero, List.set_cons_succ]
              refine take_at (i := 38) 81 rfl rfl (by kernel_rfl) (by kernel_rfl) (by kernel_rfl) (fun _ _ _ h => h) (sure_yes (by rfl) (fun w => by go_simp; try with_reducible rfl)) hHeld ?_
              simp only [List.setIfInBounds_toArray, List.set_cons_zero, List.set_cons_succ]
              refine take_at (i := 39) 82 rfl rfl (by kernel_rfl) (by kernel_rfl) (by kernel_rfl) (fun _ _ _ h => h) (.inr ⟨by rfl, rfl⟩) hHeld ?_
              simp only [List.setIfInBounds_toArray, List.set_cons_zero, List.set_cons_succ]
              refine take_at (i := 40) 83 rfl rfl (by kernel_rfl) (by kernel_rfl) (by kernel_rfl) (fun _ _ _ h => h) (.inr ⟨by rfl, rfl⟩) hHeld ?_
              simp only [List.setIfInBounds_toArray, List.set_cons_zero, List.set_cons_succ]
              refine take_at (i := 41) 84 rfl rfl (by kernel_rfl) (by kernel_rfl) (by kernel_rfl) (fun _ _ _ h => h) (.inr ⟨by rfl, rfl⟩) hHeld ?_
              simp only [List.setIfInBounds_toArray, List.set_cons_zero, List.set_cons_succ]
              refine take_at (i := 42) 85 rfl rfl (by kernel_rfl) (by kernel_rfl) (by kernel_rfl) (fun _ _ _ h => h) (.inr ⟨by rfl, rfl⟩) hHeld ?_
              simp only [List.setIfInBounds_toArray, List.set_cons_zero, List.set_cons_succ]
              refine take_at (i := 44) 87 rfl rfl (by kernel_rfl) (by kernel_rfl) (by kernel_rfl) (fun _ _ _ h => h) (.inr ⟨by rfl, rfl⟩) hHeld ?_
              simp only [List.setIfInBounds_toArray, List.set_cons_zero, List.set_cons_succ]
              refine take_at (i := 45) 88 rfl rfl (by kernel_rfl) (by kernel_rfl) (by kernel_rfl) (fun _ _ _ h => h) (.inr ⟨by rfl, rfl⟩) hHeld ?_
              simp only [List.setIfInBounds_toArray, List.set_cons_zero, List.set_cons_succ]
              refine take_at (i := 46) 89 rfl rfl (by kernel_rfl) (by kernel_rfl) (by kernel_rfl) (fun _ _ _ h => h) (.inr ⟨by rfl, rfl⟩) hHeld ?_
              simp only [List.setIfInBounds_toArray, List.set_cons_zero, List.set_cons_succ]
              refine take_at (i := 47) 90 rfl rfl (by kernel_rfl) (by kernel_rfl) (by kernel_rfl) (fun _ _ _ h => h) (.inr ⟨by rfl, rfl⟩) hHeld ?_
              simp only [List.setIfInBounds_toArray, List.set_cons_zero, List.set_cons_succ]
              refine take_at (i := 43) 86 rfl rfl (by kernel_rfl) (by kernel_rfl) (by kernel_rfl) (fun _ _ _ h => h) (.inr ⟨by rfl, rfl⟩) hHeld ?_
              simp only [List.setIfInBounds_toArray, List.set_cons_zero, List.set_cons_succ]
              refine take_at (i := 48) 91 rfl rfl (by kernel_rfl) (by kernel_rfl) (by kernel_rfl) (fun _ _ _ h => h) (.inr ⟨by rfl, rfl⟩) hHeld ?_
              simp only [List.setIfInBounds_toArray, List.set_cons_zero, List.set_cons_succ]
              refine take_at (i := 49) 92 rfl rfl (by kernel_rfl) (by kernel_rfl) (by kernel_rfl) (fun _ _ _ h => h) (.inr ⟨by rfl, rfl⟩) hHeld ?_
              simp only [List.setIfInBounds_toArray, List.set_cons_zero, List.set_cons_succ]
              refine take_at (i := 50) 93 rfl rfl (by kernel_rfl) (by kernel_rfl) (by kernel_rfl) (fun _ _ _ h => h) (sure_yes (by rfl) (fun w => by go_simp; try with_reducible rfl)) hHeld ?_
              simp only [List.setIfInBounds_toArray, List.set_cons_zero, List.set_cons_succ]
              refine take_at (i := 51) 94 rfl rfl (by kernel_rfl) (by kernel_rfl) (by kernel_rfl) (fun _ _ _ h => h) (sure_yes (by rfl) (fun w => by go_simp; try with_reducible rfl)) hHeld ?_
              simp only [List.setIfInBounds_toArray, List.set_cons_zero, List.set_cons_succ]
              refine wpAnyH_done (by kernel_rfl) ?_ _
              have HY := Lib.hid hHeld
              clear hHeld
              go_wp2
              go_roundw
              case rel => exact ⟨k + 1, by omega, by have := HN40.out; go_num, HY.out⟩
              case measure => have := HN40.out; simp [intOf] <;> omega
            · have q3 : ((i : Int) != (k : Int)) = true := by simp; omega
              have NE := Lib.hid (NE.out hik)
              clear hik q2
              refine wp_region_held_drew (S := fun w' => Below W3.heap.size W3 w') (by kernel_rfl) (drawS HBK.out) (fun hHeld => ?_)
              generalize wr.drew = wd at hHeld ⊢
              refine take_at (i := 0) 43 rfl rfl (by kernel_rfl) (by kernel_rfl) (by kernel_rfl) (fun _ _ _ h => h) (sure_yes (by rfl) (fun w => by go_simp; try with_reducible rfl)) hHeld ?_
              simp only [List.setIfInBounds_toArray, List.set_cons_zero, List.set_cons_succ]
              refine take_at (i := 1) 44 rfl rfl (by kernel_rfl) (by kernel_rfl) (by kernel_rfl) (fun _ _ _ h => h) (sure_yes (by rfl) (fun w => by go_simp; try with_reducible rfl)) hHeld ?_
              simp only [List.setIfInBounds_toArray, List.set_cons_zero, List.set_cons_succ]
              refine take_at (i := 2) 45 rfl rfl (by kernel_rfl) (by kernel_rfl) (by kernel_rfl) (fun _ _ _ h => h) (sure_yes (by rfl) (fun w => by go_simp; try with_reducible rfl)) hHeld ?_
              simp only [List.setIfInBounds_toArray, List.set_cons_zero, List.set_cons_succ]
              refine take_at (i := 4) 47 rfl rfl (by kernel_rfl) (by kernel_rfl) (by kernel_rfl) (fun _ _ _ h => h) (sure_yes (by rfl) (fun w => by go_simp; try with_reducible rfl)) hHeld ?_
              simp only [List.setIfInBounds_toArray, List.set_cons_zero, List.set_cons_succ]
              refine take_at (i := 5) 48 rfl rfl (by kernel_rfl) (by kernel_rfl) (by kernel_rfl) (fun _ _ _ h => h) (sure_yes (by rfl) (fun w => by go_simp; try with_reducible rfl)) hHeld ?_
              simp only [List.setIfInBounds_toArray, List.set_cons_zero, List.set_cons_succ]
              refine take_at (i := 6) 49 rfl rfl (by kernel_rfl) (by kernel_rfl) (by kernel_rfl) (fun _ _ _ h => h) (sure_yes (by rfl) (fun w => by go_simp; try with_reducible rfl)) hHeld ?_
              simp only [List.setIfInBounds_toArray, List.set_cons_zero, List.set_cons_succ]
              refine take_at (i := 3) 46 rfl rfl (by kernel_rfl) (by kernel_rfl) (by kernel_rfl) (fun _ _ _ h => h) (evA_yields (by rfl) 36 (.tmp 45) rfl (ad.add (i * 38)) rfl Tryd.underlying36 evSize (fun w h j u hu => cell_under12 (CE.out j u hu) h)) hHeld ?_
              simp only [List.setIfInBounds_toArray, List.set_cons_zero, List.set_cons_succ]
              refine take_at (i := 7) 50 rfl rfl (by kernel_rfl) (by kernel_rfl) (by kernel_rfl) (fun _ _ _ h => h) (evA_yields (by rfl) 36 (.tmp 49) rfl (ad.add (k * 38)) rfl Tryd.underlying36 evSize (fun w h j u hu => cell_under12 (CF.out j u hu) h)) hHeld ?_
              simp only [List.setIfInBounds_toArray, List.set_cons_zero, List.set_cons_succ]
              refine ready_call2 8 51 (by kernel_rfl) rfl rfl (by rfl) 9 (.tmp 46) (.tmp 50) 36 36 rfl (.agg (evC e (.slice eo en ec))) (.agg (evC f (.slice fo fn fc))) rfl rfl (enters_of Tryd.func9 (by kernel_rfl) rfl) _ (K1.out _ _ _ (dots_below HDE.out hHeld)) (fun x wz hp => ?_)
              obtain ⟨rfl, hb⟩ := hp
              refine ⟨_, rfl, below_next hHeld hb, ?_⟩
              replace hHeld := below_next hHeld hb
              clear hb
              simp only [List.setIfInBounds_toArray, List.set_cons_zero, List.set_cons_succ]
              refine take_at (i := 9) 52 rfl rfl (by kernel_rfl) (by kernel_rfl) (by kernel_rfl) (fun _ _ _ h => h) (sure_yes (by rfl) (fun w => by go_simp; try with_reducible rfl)) hHeld ?_
              simp only [List.setIfInBounds_toArray, List.set_cons_zero, List.set_cons_succ]
              refine take_at (i := 10) 53 rfl rfl (by kernel_rfl) (by kernel_rfl) (by kernel_rfl) (fun _ _ _ h => h) (.inr ⟨by rfl, rfl⟩) hHeld ?_
              simp only [List.setIfInBounds_toArray, List.set_cons_zero, List.set_cons_succ]
              refine take_at (i := 11) 54 rfl rfl (by kernel_rfl) (by kernel_rfl) (by kernel_rfl) (fun _ _ _ h => h) (.inr ⟨by rfl, rfl⟩) hHeld ?_
              simp only [List.setIfInBounds_toArray, List.set_cons_zero, List.set_cons_succ]
              refine take_at (i := 12) 55 rfl rfl (by kernel_rfl) (by kernel_rfl) (by kernel_rfl) (fun _ _ _ h => h) (.inr ⟨by rfl, rfl⟩) hHeld ?_
              simp only [List.setIfInBounds_toArray, List.set_cons_zero, List.set_cons_succ]
              refine take_at (i := 14) 57 rfl rfl (by kernel_rfl) (by kernel_rfl) (by kernel_rfl) (fun _ _ _ h => h) (.inr ⟨by rfl, rfl⟩) hHeld ?_
              simp only [List.setIfInBounds_toArray, List.set_cons_zero, List.set_cons_succ]
              refine take_at (i := 15) 58 rfl rfl (by kernel_rfl) (by kernel_rfl) (by kernel_rfl) (fun _ _ _ h => h) (.inr ⟨by rfl, rfl⟩) hHeld ?_
              simp only [List.setIfInBounds_toArray, List.set_cons_zero, List.set_cons_succ]
              refine take_at (i := 16) 59 rfl rfl (by kernel_rfl) (by kernel_rfl) (by kernel_rfl) (fun _ _ _ h => h) (.inr ⟨by rfl, rfl⟩) hHeld ?_
              simp only [List.setIfInBounds_toArray, List.set_cons_zero, List.set_cons_succ]
              refine take_at (i := 13) 56 rfl rfl (by kernel_rfl) (by kernel_rfl) (by kernel_rfl) (fun _ _ _ h => h) (.inr ⟨by rfl, rfl⟩) hHeld ?_
              simp only [List.setIfInBounds_toArray, List.set_cons_zero, List.set_cons_succ]
              refine take_at (i := 17) 60 rfl rfl (by kernel_rfl) (by kernel_rfl) (by kernel_rfl) (fun _ _ _ h => h) (.inr ⟨by rfl, rfl⟩) hHeld ?_
              simp only [List.setIfInBounds_toArray, List.set_cons_zero, List.set_cons_succ]
              refine take_at (i := 18) 61 rfl rfl (by kernel_rfl) (by kernel_rfl) (by kernel_rfl) (fun _ _ _ h => h) (.inr ⟨by rfl, rfl⟩) hHeld ?_
              simp only [List.setIfInBounds_toArray, List.set_cons_zero, List.set_cons_succ]
              refine take_at (i := 19) 62 rfl rfl (by kernel_rfl) (by kernel_rfl) (by kernel_rfl) (fun _ _ _ h => h) (.inr ⟨by rfl, rfl⟩) hHeld ?_
              simp only [List.setIfInBounds_toArray, List.set_cons_zero, List.set_cons_succ]
              refine take_at (i := 20) 63 rfl rfl (by kernel_rfl) (by kernel_rfl) (by kernel_rfl) (fun _ _ _ h => h) (.inr ⟨by rfl, rfl⟩) hHeld ?_
              simp only [List.setIfInBounds_toArray, List.set_cons_zero, List.set_cons_succ]
              refine take_at (i := 21) 64 rfl rfl (by kernel_rfl) (by kernel_rfl) (by kernel_rfl) (fun _ _ _ h => h) (.inr ⟨by rfl, rfl⟩) hHeld ?_
              simp only [List.setIfInBounds_toArray, List.set_cons_zero, List.set_cons_succ]
              refine take_at (i := 22) 65 rfl rfl (by kernel_rfl) (by kernel_rfl) (by kernel_rfl) (fun _ _ _ h => h) (.inr ⟨by rfl, rfl⟩) hHeld ?_
              simp only [List.setIfInBounds_toArray, List.set_cons_zero, List.set_cons_succ]
              refine take_at (i := 23) 66 rfl rfl (by kernel_rfl) (by kernel_rfl) (by kernel_rfl) (fun _ _ _ h => h) (.inr ⟨by rfl, rfl⟩) hHeld ?_
              simp only [List.setIfInBounds_toArray, List.set_cons_zero, List.set_cons_succ]
              refine take_at (i := 25) 68 rfl rfl (by kernel_rfl) (by kernel_rfl) (by kernel_rfl) (fun _ _ _ h => h) (.inr ⟨by rfl, rfl⟩) hHeld ?_
              simp only [List.setIfInBounds_toArray, List.set_cons_zero, List.set_cons_succ]
              refine take_at (i := 26) 69 rfl rfl (by kernel_rfl) (by kernel_rfl) (by kernel_rfl) (fun _ _ _ h => h) (.inr ⟨by rfl, rfl⟩) hHeld ?_
              simp only [List.setIfInBounds_toArray, List.set_cons_zero, List.set_cons_succ]
              refine take_at (i := 27) 70 rfl rfl (by kernel_rfl) (by kernel_rfl) (by kernel_rfl) (fun _ _ _ h => h) (.inr ⟨by rfl, rfl⟩) hHeld ?_
              simp only [List.setIfInBounds_toArray, List.set_cons_zero, List.set_cons_succ]
              refine take_at (i := 28) 71 rfl rfl (by kernel_rfl) (by kernel_rfl) (by kernel_rfl) (fun _ _ _ h => h) (.inr ⟨by rfl, rfl⟩) hHeld ?_
              simp only [List.setIfInBounds_toArray, List.set_cons_zero, List.set_cons_succ]
              refine take_at (i := 24) 67 rfl rfl (by kernel_rfl) (by kernel_rfl) (by kernel_rfl) (fun _ _ _ h => h) (.inr ⟨by rfl, rfl⟩) hHeld ?_
              simp only [List.setIfInBounds_toArray, List.set_cons_zero, List.set_cons_succ]
              refine take_at (i := 29) 72 rfl rfl (by kernel_rfl) (by kernel_rfl) (by kernel_rfl) (fun _ _ _ h => h) (.inr ⟨by rfl, rfl⟩) hHeld ?_
              simp only [List.setIfInBounds_toArray, List.set_cons_zero, List.set_cons_succ]
              refine take_at (i := 30) 73 rfl rfl (by kernel_rfl) (by kernel_rfl) (by kernel_rfl) (fun _ _ _ h => h) (.inr ⟨by rfl, rfl⟩) hHeld ?_
              simp only [List.setIfInBounds_toArray, List.set_cons_zero, List.set_cons_succ]
              refine take_at (i := 31) 74 rfl rfl (by kernel_rfl) (by kernel_rfl) (by kernel_rfl) (fun _ _ _ h => h) (.inr ⟨by rfl, rfl⟩) hHeld ?_
              simp only [List.setIfInBounds_toArray, List.set_cons_zero, List.set_cons_succ]
              refine take_at (i := 32) 75 rfl rfl (by kernel_rfl) (by kernel_rfl) (by kernel_rfl) (fun _ _ _ h => h) (.inr ⟨by rfl, rfl⟩) hHeld ?_
              simp only [List.setIfInBounds_toArray, List.set_cons_zero, List.set_cons_succ]
              refine take_at (i := 33) 76 rfl rfl (by kernel_rfl) (by kernel_rfl) (by kernel_rfl) (fun _ _ _ h => h) (sure_yes (by rfl) (fun w => by go_simp; try with_reducible rfl)) hHeld ?_
              simp only [List.setIfInBounds_toArray, List.set_cons_zero, List.set_cons_succ]
              refine take_at (i := 34) 77 rfl rfl (by kernel_rfl) (by kernel_rfl) (by kernel_rfl) (fun _ _ _ h => h) (sure_yes (by rfl) (fun w => by go_simp; try with_reducible rfl)) hHeld ?_
              simp only [List.setIfInBounds_toArray, List.set_cons_zero, List.set_cons_succ]
              refine take_at (i := 35) 78 rfl rfl (by kernel_rfl) (by kernel_rfl) (by kernel_rfl) (fun _ _ _ h => h) (sure_yes (by rfl) (fun w => by go_simp; try with_reducible rfl)) hHeld ?_
              simp only [List.setIfInBounds_toArray, List.set_cons_zero, List.set_cons_succ]
              refine take_at (i := 36) 79 rfl rfl (by kernel_rfl) (by kernel_rfl) (by kernel_rfl) (fun _ _ _ h => h) (sure_yes (by rfl) (fun w => by go_simp; try with_reducible rfl)) hHeld ?_
              simp only [List.setIfInBounds_toArray, List.set_cons_zero, List.set_cons_succ]
              refine take_at (i := 37) 80 rfl rfl (by kernel_rfl) (by kernel_rfl) (by kernel_rfl) (fun _ _ _ h => h) (sure_yes (by rfl) (fun w => by go_simp; try with_reducible rfl)) hHeld ?_
              simp only [List.setIfInBounds_toArray, List.set_cons_zero, List.set_cons_succ]
              refine take_at (i := 38) 81 rfl rfl (by kernel_rfl) (by kernel_rfl) (by kernel_rfl) (fun _ _ _ h => h) (sure_yes (by rfl) (fun w => by go_simp; try with_reducible rfl)) hHeld ?_
              simp only [List.setIfInBounds_toArray, List.set_cons_zero, List.set_cons_succ]
              refine take_at (i := 39) 82 rfl rfl (by kernel_rfl) (by kernel_rfl) (by kernel_rfl) (fun _ _ _ h => h) (sure_yes (by rfl) (fun w => by go_simp; try with_reducible rfl)) hHeld ?_
              simp only [List.setIfInBounds_toArray, List.set_cons_zero, List.set_cons_succ]
              refine take_at (i := 40) 83 rfl rfl (by kernel_rfl) (by kernel_rfl) (by kernel_rfl) (fun _ _ _ h => h) (sure_yes (by rfl) (fun w => by go_simp; try with_reducible rfl)) hHeld ?_
              simp only [List.setIfInBounds_toArray, List.set_cons_zero, List.set_cons_succ]
              refine take_at (i := 41) 84 rfl rfl (by kernel_rfl) (by kernel_rfl) (by kernel_rfl) (fun _ _ _ h => h) (sure_yes (by rfl) (fun w => by go_simp; try with_reducible rfl)) hHeld ?_
              simp only [List.setIfInBounds_toArray, List.set_cons_zero, List.set_cons_succ]
              refine take_at (i := 42) 85 rfl rfl (by kernel_rfl) (by kernel_rfl) (by kernel_rfl) (fun _ _ _ h => h) (sure_yes (by rfl) (fun w => by go_simp; try with_reducible rfl)) hHeld ?_
              simp only [List.setIfInBounds_toArray, List.set_cons_zero, List.set_cons_succ]
              refine take_at (i := 44) 87 rfl rfl (by kernel_rfl) (by kernel_rfl) (by kernel_rfl) (fun _ _ _ h => h) (sure_yes (by rfl) (fun w => by go_simp; try with_reducible rfl)) hHeld ?_
              simp only [List.setIfInBounds_toArray, List.set_cons_zero, List.set_cons_succ]
              refine take_at (i := 45) 88 rfl rfl (by kernel_rfl) (by kernel_rfl) (by kernel_rfl) (fun _ _ _ h => h) (sure_yes (by rfl) (fun w => by go_simp; try with_reducible rfl)) hHeld ?_
              simp only [List.setIfInBounds_toArray, List.set_cons_zero, List.set_cons_succ]
              refine take_at (i := 46) 89 rfl rfl (by kernel_rfl) (by kernel_rfl) (by kernel_rfl) (fun _ _ _ h => h) (sure_yes (by rfl) (fun w => by go_simp; try with_reducible rfl)) hHeld ?_
              simp only [List.setIfInBounds_toArray, List.set_cons_zero, List.set_cons_succ]
              refine take_at (i := 47) 90 rfl rfl (by kernel_rfl) (by kernel_rfl) (by kernel_rfl) (fun _ _ _ h => h) (sure_yes (by rfl) (fun w => by go_simp; try with_reducible rfl)) hHeld ?_
              simp only [List.setIfInBounds_toArray, List.set_cons_zero, List.set_cons_succ]
              refine take_at (i := 43) 86 rfl rfl (by kernel_rfl) (by kernel_rfl) (by kernel_rfl) (fun _ _ _ h => h) (dot_yields (by rfl) 32 (.tmp 85) rfl (ad.add (i * 38)) rfl e.r e.q Tryd.underlying32 (by kernel_rfl) (fun w h => ⟨cell_under12 (ev_field0 CE.out _ (evC_at _ _).1) h, cell_under12 (ev_field CE.out 1 (by decide) _ (evC_at _ _).2.1) h⟩)) hHeld ?_
              simp only [List.setIfInBounds_toArray, List.set_cons_zero, List.set_cons_succ]
              refine take_at (i := 48) 91 rfl rfl (by kernel_rfl) (by kernel_rfl) (by kernel_rfl) (fun _ _ _ h => h) (dot_yields (by rfl) 32 (.tmp 90) rfl (ad.add (k * 38)) rfl f.r f.q Tryd.underlying32 (by kernel_rfl) (fun w h => ⟨cell_under12 (ev_field0 CF.out _ (evC_at _ _).1) h, cell_under12 (ev_field CF.out 1 (by decide) _ (evC_at _ _).2.1) h⟩)) hHeld ?_
              simp only [List.setIfInBounds_toArray, List.set_cons_zero, List.set_cons_succ]
              refine take_at (i := 49) 92 rfl rfl (by kernel_rfl) (by kernel_rfl) (by kernel_rfl) (fun _ _ _ h => h) (sure_yes (by rfl) (eql_op rfl rfl rfl (fun w => by go_simp) NE.out)) hHeld ?_
              simp only [List.setIfInBounds_toArray, List.set_cons_zero, List.set_cons_succ]
              refine take_at (i := 50) 93 rfl rfl (by kernel_rfl) (by kernel_rfl) (by kernel_rfl) (fun _ _ _ h => h) (sure_yes (by rfl) (fun w => by go_simp; try with_reducible rfl)) hHeld ?_
              simp only [List.setIfInBounds_toArray, List.set_cons_zero, List.set_cons_succ]
              refine take_at (i := 51) 94 rfl rfl (by kernel_rfl) (by kernel_rfl) (by kernel_rfl) (fun _ _ _ h => h) (sure_yes (by rfl) (fun w => by go_simp; try with_reducible rfl)) hHeld ?_
              simp only [List.setIfInBounds_toArray, List.set_cons_zero, List.set_cons_succ]
              refine wpAnyH_done (by kernel_rfl) ?_ _
              have HY := Lib.hid hHeld
              clear hHeld
              go_wp2
              go_roundw
              case rel => exact ⟨k + 1, by omega, by have := HN40.out; go_num, HY.out⟩
              case measure => have := HN40.out; simp [intOf] <;> omega
        · have q1 : ¬ (k : Int) < (N : Int) := by omega
          go_wp2
          go_roundw
          case rel => exact ⟨i + 1, by omega, by have := HN40.out; go_num, HBK.out⟩
          case measure => have := HN40.out; simp [intOf] <;> omega
    · have q0 : ¬ (i : Int) < (N : Int) := by omega
      go_wp2
      go_ret
      exact ⟨rfl, below_next B3.out HB.out⟩
end Go.Proofs.YthkojphgjlojgaaDoor
