/-
Texts that all claims of this seat share, part 14: Law14Rises.
-/
import Derived.Test.YtlcojmligbikoaaGreatDoorPk13
namespace Go.Proofs.YtlcojmligbikoaaGreatDoor
open Go.RowKit
theorem leq_paths {a b : List UInt8} (h : Op.bytesLess a b = true) : ∀ w, (binOp .leq 9 (.string (str b)) (.string (str a))).run Tryz.prog w = .ok (.bool false) w := fun w => by
  have u := Tryz.underlying9
  go_simp
  rw [str_toList, str_toList]
  exact ⟨bl_asymm h, fun e => by rw [e, bytesLess_irrefl] at h; cases h⟩
theorem str_guard (op : BinOp) (x y : Operand) (a b : ByteArray) : ∀ w, (eqGuard op 9 x y (.string a) (.string b)).run Tryz.prog w = .ok () w := fun w => by go_simp
set_option linter.unusedSimpArgs false in
set_option maxRecDepth 100000 in
set_option maxHeartbeats 16000000 in
theorem viewRises_walk (l : List DeedT) (hs : ∀ x ∈ l, x.who < 256 ∧ x.other < 256 ∧ x.path < 256 ∧ x.size < 256) (v : Value) (w : World) (hv : HasDeeds w v l) (hT : PowTab w) (tab : Tab w) : Calls Tryz.prog 7 #[v] w fun x w' => x = .returned (.bool true) ∧ Below w.heap.size w w' := by
  have HT := Lib.hid hT
  have TB := Lib.hid tab
  have HV := Lib.hid hv
  have HI := Lib.hid (fun v w hv => history_any l hs v w hv)
  obtain ⟨nn, hinv⟩ := inv_hist l (fun x hx => (hs x hx).2.2.2)
  have HIN := Lib.hid hinv
  clear hv hT tab hs hinv
  go_enter Tryz.func7, Tryz.ntmps7
  go_upto_region 3 with (first
    | (go_at_call 10; refine (awake14_any _ HT.out TB.out).mono ?_; rintro x w1 ⟨rfl, hb⟩; have B1 := Lib.hid hb; clear hb)
    | (go_at_call 22; refine (HI.out _ _ (deeds_below HV.out B1.out)).mono ?_; rintro x w2 ⟨vo, a, rfl, he, ha, hb⟩; have B2 := Lib.hid (below_next B1.out hb); have HE2 := Lib.hid he; have HA1 := Lib.hid (show (#[a 0, a 1, a 2] : Array Value).all (·.oneCell') = true by
        obtain ⟨x0, y0, e0⟩ := dots_shape (ha 0 (by omega)).1 _ rfl
        obtain ⟨x1, y1, e1⟩ := dots_shape (ha 1 (by omega)).1 _ rfl
        obtain ⟨x2, y2, e2⟩ := dots_shape (ha 2 (by omega)).1 _ rfl
        rw [e0, e1, e2]; simp [Value.oneCell']); clear hb he ha)
    | (refine store_new rfl 57 (.tmp 5) (.tmp 16) rfl rfl w2 _ #[a 0, a 1, a 2] 57 rfl rfl rfl (by kernel_rfl) rfl HA1.out ?_; rintro W3 hg hb hlt; have HV3 := Lib.hid (evs_below HE2.out hb); have B3 := Lib.hid (below_next B2.out hb); clear hg hb hlt))
  obtain ⟨us, hus, hdu, hhu⟩ := u_of_evs HV3.out
  have HUS := Lib.hid hus
  have hul : us.length ≤ 40 := by have := congrArg List.length hus; rw [List.length_map] at this; rw [this]; exact hist_len l 40
  have HFU := Lib.hid (show ∀ x ∈ us, FitE x.1 from fun x hx => hist_fit HIN.out (by rw [← hus]; exact List.mem_map_of_mem hx))
  have LST := Lib.hid (last_any13 us (by omega) (fun x hx => (HFU.out x hx).2.2.1) vo W3 hhu hdu)
  rw [hus] at LST
  have HDU := Lib.hid hdu
  have HUL := Lib.hid hul
  clear hhu hdu hus hul
  go_upto_region 4 with (first
    | (go_at_call 23; refine LST.out.mono ?_; rintro x W4 ⟨hv4, vs, rfl, hh4, hm4, he4, hb⟩; have C4 := Lib.hid hb; have HH := Lib.hid hh4; have HM4 := Lib.hid hm4; have HE4 := Lib.hid he4; clear hb hh4 hm4 he4))
  have HFV := Lib.hid (show FitU vs from fun z hz => HFU.out z (HM4.out z hz))
  have HDV := Lib.hid (show DepsU W4 vs from fun z hz => dots_below (HDU.out z (HM4.out z hz)) C4.out)
  have B4 := Lib.hid (below_next B3.out C4.out)
  have HHD := Lib.hid (show Heads (vs.map (·.1)) by rw [HE4.out]; exact heads_hist HIN.out)
  have HVL := Lib.hid (show vs.length ≤ 40 by
    have h1 := congrArg List.length HE4.out
    rw [List.length_map] at h1
    have h2 : (lastE (histN l).out).length ≤ (histN l).out.length := last_few _
    have h3 : (histN l).out.length ≤ 40 := hist_len l 40
    omega)
  obtain ⟨n, hn⟩ : ∃ n, n = vs.length := ⟨_, rfl⟩
  obtain ⟨ho, hc, rfl⟩ := holdsU_shape HH.out n hn
  have HN := Lib.hid hn
  have hn5 : n ≤ 40 := by have := HVL.out; omega
  clear hn LST HFU HDU HM4 HV3 HE2 HI
  obtain ⟨ie, hie, hiz⟩ := infoEv
  have HIZ := Lib.hid hiz
  clear hiz
  go_wp2
  go_loopw [7, 8] (fun pv c wr => ∃ i : Nat, i ≤ n ∧ c = .int .i64 (i : Int) ∧ wr.ownsRow W4.heap.size EVT 38 pv ((vs.take i).filter fun z => putE z.1).length (evsC ((vs.take i).filter fun z => putE z.1)) ∧ Below W4.heap.size W4 wr) (fun _ c _ => n - (intOf c).toNat)
  case atStart => exact ⟨0, Nat.zero_le _, rfl, World.ownsRow_nil _ _ _ _, Below.refl _ _⟩
  case round =>
    obtain ⟨i, hi, rfl, ho, hb⟩ := hrel
    have HO := Lib.hid ho
    have HB := Lib.hid hb
    have HLF := Lib.hid (show ((vs.take i).filter fun z => putE z.1).length ≤ i from Nat.le_trans (List.length_filter_le _ _) (by rw [List.length_take]; exact Nat.min_le_left _ _))
    clear ho hb
    by_cases hin : i < n
    · have q0 : (i : Int) < (n : Int) := by omega
      have q1 : (i : Int) < 50000 := by omega
      have hi1 : i + 1 ≤ n := hin
      have hi5 : i < 50000 := by omega
      obtain ⟨x, hx⟩ : ∃ x, vs[i]? = some x := ⟨_, List.getElem?_eq_getElem (by have := HN.out; omega)⟩
      obtain ⟨ad, cap', e1, hcx⟩ := holdsU_at (holdsU_below HH.out HB.out) n i HN.out.symm x hx
      cases e1
      have hux := HDV.out x (List.mem_of_getElem? hx)
      obtain ⟨ye, yv⟩ := x
      dsimp only at hcx hux
      obtain ⟨yo, yc, rfl⟩ := dots_shape hux ye.deps.length rfl
      obtain ⟨yn, hyn⟩ : ∃ m, m = ye.deps.length := ⟨_, rfl⟩
      rw [← hyn] at hcx hx
      have HC := Lib.hid hcx
      have c2 := ev_fieldM hcx 3 (by decide) _ (evC_at ye (.slice yo yn yc)).2.2.2.1
      obtain ⟨kd, hkd⟩ : ∃ kd, ye.kind = kd := ⟨_, rfl⟩
      rw [hkd] at c2
      by_cases hk1 : kd = 1
      · subst hk1
        have hp : putE ye = true := (putE_iff ye).2 hkd
        have FS := Lib.hid (show ((vs.take (i + 1)).filter fun z => putE z.1) = ((vs.take i).filter fun z => putE z.1) ++ [(ye, .slice yo yn yc)] by rw [List.take_add_one, hx, List.filter_append]; simp [hp])
        clear hx hcx hux hyn hi hkd hp
        generalize wr = wq at *
        go_wp2_with (first
          | (refine load_evA_on (by rfl) 62 (.tmp 34) rfl (ad.add (i * 38)) rfl Tryz.underlying62 evSize HC.out ?_)
          | (refine build_evM rfl 36 rfl (.tmp 35) rfl _ rfl ye yo yn yc rfl ?_; rintro w6 hEA hBA hNA; have HEA := Lib.hid hEA; have B6 := Lib.hid (below_next HB.out hBA); have O6 := Lib.hid (own_belowM HO.out hBA); clear hEA hBA hNA)
          | (at_builtin; refine append_evs rfl (.tmp 31) (.tmp 36) 22 rfl W4.heap.size 62 ie Tryz.underlying22 hie HIZ.out _ _ [(ye, .slice yo yn yc)] rfl O6.out (fun q hq => by rw [List.mem_singleton.1 hq]; rfl) _ 1 1 rfl rfl (evAt_one HEA.out) (by have := HLF.out; simp only [List.length_singleton]; omega) B6.out.size ?_; rintro v9 W9 ho hg; have O9 := Lib.hid ho; have B9 := Lib.hid (below_grown B6.out hg B6.out.size (fun k hk => (O6.out.lt k hk).1)); clear ho hg))
        go_roundw
        case rel => exact ⟨i + 1, hi1, by go_num, by rw [FS.out]; exact O9.out, B9.out⟩
        case measure => simp [intOf] <;> omega
      · have q2 : (kd == 1) = false := beq_eq_false_iff_ne.2 hk1
        have FS := Lib.hid (show ((vs.take (i + 1)).filter fun z => putE z.1) = ((vs.take i).filter fun z => putE z.1) by
          rw [List.take_add_one, hx, List.filter_append]
          have : putE ye = false := by cases hp : putE ye with | false => rfl | true => exact absurd (hkd.symm.trans ((putE_iff ye).1 hp)) hk1
          simp [this])
        clear hx hcx hux hyn hi hkd hk1
        go_wp2
        go_roundw
        case rel => exact ⟨i + 1, hi1, by go_num, by rw [FS.out]; exact HO.out, HB.out⟩
        case measure => simp [intOf] <;> omega
    · obtain rfl : i = n := by omega
      have q0 : ¬ (i : Int) < (i : Int) := by omega
      have HPA := Lib.hid (show (vs.take i).filter (fun z => putE z.1) = vs.filter fun z => putE z.1 by rw [List.take_of_length_le (Nat.le_of_eq HN.out.symm)])
      rw [HPA.out] at HO
      obtain ⟨ks, hks⟩ : ∃ ks, ks = vs.filter fun z => putE z.1 := ⟨_, rfl⟩
      rw [← hks] at HO
      have HKM := Lib.hid (show ks.map (·.1) = (vs.map (·.1)).filter putE by rw [hks, List.filter_map]; rfl)
      have HKS := Lib.hid (show ∀ z ∈ ks, z ∈ vs from fun z hz => by rw [hks] at hz; exact (List.mem_filter.1 hz).1)
      have HKL := Lib.hid (show ks.length ≤ 40 by rw [hks]; exact Nat.le_trans (List.length_filter_le _ _) HVL.out)
      have BW := Lib.hid (below_next B4.out HB.out)
      have HHW := Lib.hid (holdsU_below HH.out HB.out)
      have HDW := Lib.hid (depsU_below HDV.out HB.out)
      clear hi hks HPA HLF
      generalize wr = w5 at *
      go_upto_region 11 with (first
        | (go_at_call 11; refine (view_any vs (by have := HVL.out; omega) HFV.out _ _ HHW.out HDW.out (powTab_below HT.out BW.out)).mono ?_; rintro x w6 ⟨sv, rfl, hvw, hb⟩; have HVW := Lib.hid hvw; have C6 := Lib.hid hb; clear hvw hb))
      obtain ⟨S, hst, hhs⟩ := HVW.out
      have HST := Lib.hid hst
      have HHS := Lib.hid hhs
      obtain ⟨m, hm⟩ : ∃ m, m = S.length := ⟨_, rfl⟩
      obtain ⟨so, sc, rfl⟩ := holdsS_shape hhs m hm
      have HMS := Lib.hid hm
      have hm5 : m ≤ 40 := by rw [hm, view_len hst]; exact Nat.le_trans (List.length_filter_le _ _) (by rw [List.length_map]; exact HVL.out)
      have HRI := Lib.hid (view_rises HHD.out hst)
      have B6 := Lib.hid (below_next BW.out C6.out)
      clear hst hhs hm
      go_wp2
      go_loopw [10] (fun c wr => ∃ k : Nat, c = .int .i64 (k : Int) ∧ 1 ≤ k ∧ k ≤ m + 1 ∧ Below w6.heap.size w6 wr) (fun c _ => m + 1 - (intOf c).toNat)
      case atStart => exact ⟨1, rfl, Nat.le_refl _, by omega, Below.refl _ _⟩
      case round =>
        obtain ⟨k, rfl, hk1, hkm, hb⟩ := hrel
        have HB7 := Lib.hid hb
        clear hb
        by_cases hkl : k < m
        · have q3 : (k : Int) < (m : Int) := by omega
          obtain ⟨j, hj⟩ : ∃ j, j = k - 1 := ⟨_, rfl⟩
          have q4 : (k : Int) - 1 = (j : Int) := by omega
          have q5 : IntKind.i64.wrap (j : Int) = (j : Int) := by rw [IntKind.wrap_i64]; omega
          have q6 : (j : Int) < (m : Int) := by omega
          have q7 : j < m := by omega
          obtain ⟨x, hx⟩ : ∃ x, S[k]? = some x := ⟨_, List.getElem?_eq_getElem (by have := HMS.out; omega)⟩
          obtain ⟨y, hy⟩ : ∃ y, S[j]? = some y := ⟨_, List.getElem?_eq_getElem (by have := HMS.out; omega)⟩
          have hlt : Op.bytesLess y.path x.path = true := by
            obtain ⟨h1, rfl⟩ := List.getElem?_eq_some_iff.1 hx
            obtain ⟨h2, rfl⟩ := List.getElem?_eq_some_iff.1 hy
            exact List.pairwise_iff_getElem.1 HRI.out j k h2 h1 (by omega)
          have HLQ := Lib.hid (leq_paths hlt)
          obtain ⟨ad, cap1, e1, hcx⟩ := holdsS_at (holdsS_below HHS.out HB7.out) m k HMS.out.symm x hx
          obtain ⟨bd, cap2, e2, hcy⟩ := holdsS_at (holdsS_below HHS.out HB7.out) m j HMS.out.symm y hy
          cases e1
          cases e2
          have HCX := Lib.hid (sh_field0 hcx _ (shC_at x).1)
          have HCY := Lib.hid (sh_field0 hcy _ (shC_at y).1)
          clear hj hx hy hlt hcx hcy
          generalize wr = w8 at *
          go_upto_region 14 with fail
          refine wp_region_held_drew (S := fun w' => Below w8.heap.size w8 w') (by kernel_rfl) (drawS (Below.refl _ _)) (fun hHeld => ?_)
          generalize w8.drew = wd at hHeld ⊢
          refine take_at (i := 0) 46 rfl rfl (by kernel_rfl) (by kernel_rfl) (by kernel_rfl) (fun _ _ _ h => h) (sure_yes (by rfl) (fun w => by go_simp; try with_reducible rfl)) hHeld ?_
          simp only [List.setIfInBounds_toArray, List.set_cons_zero, List.set_cons_succ]
          refine take_at (i := 1) 47 rfl rfl (by kernel_rfl) (by kernel_rfl) (by kernel_rfl) (fun _ _ _ h => h) (sure_yes (by rfl) (fun w => by go_simp; try with_reducible rfl)) hHeld ?_
          simp only [List.setIfInBounds_toArray, List.set_cons_zero, List.set_cons_succ]
          refine take_at (i := 2) 48 rfl rfl (by kernel_rfl) (by kernel_rfl) (by kernel_rfl) (fun _ _ _ h => h) (sure_yes (by rfl) (fun w => by go_simp; try with_reducible rfl)) hHeld ?_
          simp only [List.setIfInBounds_toArray, List.set_cons_zero, List.set_cons_succ]
          refine take_at (i := 3) 49 rfl rfl (by kernel_rfl) (by kernel_rfl) (by kernel_rfl) (fun _ _ _ h => h) (sure_yes (by rfl) (fun w => by go_simp; try with_reducible rfl)) hHeld ?_
          simp only [List.setIfInBounds_toArray, List.set_cons_zero, List.set_cons_succ]
          refine take_at (i := 5) 51 rfl rfl (by kernel_rfl) (by kernel_rfl) (by kernel_rfl) (fun _ _ _ h => h) (sure_yes (by rfl) (fun w => by go_simp; try with_reducible rfl)) hHeld ?_
          simp only [List.setIfInBounds_toArray, List.set_cons_zero, List.set_cons_succ]
          refine take_at (i := 6) 52 rfl rfl (by kernel_rfl) (by kernel_rfl) (by kernel_rfl) (fun _ _ _ h => h) (sure_yes (by rfl) (fun w => by go_simp; try with_reducible rfl)) hHeld ?_
          simp only [List.setIfInBounds_toArray, List.set_cons_zero, List.set_cons_succ]
          refine take_at (i := 7) 53 rfl rfl (by kernel_rfl) (by kernel_rfl) (by kernel_rfl) (fun _ _ _ h => h) (sure_yes (by rfl) (fun w => by go_simp; try with_reducible rfl)) hHeld ?_
          simp only [List.setIfInBounds_toArray, List.set_cons_zero, List.set_cons_succ]
          refine take_at (i := 8) 54 rfl rfl (by kernel_rfl) (by kernel_rfl) (by kernel_rfl) (fun _ _ _ h => h) (sure_yes (by rfl) (fun w => by go_simp; try with_reducible rfl)) hHeld ?_
          simp only [List.setIfInBounds_toArray, List.set_cons_zero, List.set_cons_succ]
          refine take_at (i := 9) 55 rfl rfl (by kernel_rfl) (by kernel_rfl) (by kernel_rfl) (fun _ _ _ h => h) (sure_yes (by rfl) (fun w => by go_simp; try with_reducible rfl)) hHeld ?_
          simp only [List.setIfInBounds_toArray, List.set_cons_zero, List.set_cons_succ]
          refine take_at (i := 4) 50 rfl rfl (by kernel_rfl) (by kernel_rfl) (by kernel_rfl) (fun _ _ _ h => h) (str_yields12 (by rfl) 9 (.tmp 49) rfl (ad.add (k * 36)) rfl _ Tryz.underlying9 (fun w h => cell_under12 HCX.out h)) hHeld ?_
          simp only [List.setIfInBounds_toArray, List.set_cons_zero, List.set_cons_succ]
          refine take_at (i := 10) 56 rfl rfl (by kernel_rfl) (by kernel_rfl) (by kernel_rfl) (fun _ _ _ h => h) (str_yields12 (by rfl) 9 (.tmp 55) rfl (ad.add (j * 36)) rfl _ Tryz.underlying9 (fun w h => cell_under12 HCY.out h)) hHeld ?_
          simp only [List.setIfInBounds_toArray, List.set_cons_zero, List.set_cons_succ]
          refine take_at (i := 11) 57 rfl rfl (by kernel_rfl) (by kernel_rfl) (by kernel_rfl) (fun _ _ _ h => h) (sure_yes (by rfl) (op_knownS rfl rfl rfl (str_guard _ _ _ _ _) HLQ.out)) hHeld ?_
          simp only [List.setIfInBounds_toArray, List.set_cons_zero, List.set_cons_succ]
          refine wpAnyH_done (by kernel_rfl) ?_ _
          have BB := Lib.hid (below_next HB7.out hHeld)
          clear hHeld
          go_wp2
          go_roundw
          case rel => exact ⟨k + 1, by go_num, by omega, by omega, BB.out⟩
          case measure => simp [intOf] <;> omega
        · have q3 : ¬ (k : Int) < (m : Int) := by omega
          have HS7 := Lib.hid (holdsS_below HHS.out HB7.out)
          have B7 := Lib.hid (below_next B6.out HB7.out)
          have O7 := Lib.hid (own_belowM HO.out (below_next C6.out HB7.out))
          have D7 := Lib.hid (depsU_below HDW.out (below_next C6.out HB7.out))
          have RL1 := Lib.hid (fun w hv => real_any S (by have := HMS.out; omega) (.slice so m sc) w hv)
          generalize wr = w8 at *
          go_wp2_with (first
            | (go_at_call 16; with_reducible refine (RL1.out _ HS7.out).mono ?_; rintro x w9 ⟨r1, rfl, h1, hb⟩; have HR1 := Lib.hid h1; have C9 := Lib.hid hb; clear h1 hb)
            | (go_at_call 11; refine (view_any ks (by have := HKL.out; omega) (fun z hz => HFV.out z (HKS.out z hz)) _ _ (own_holds (own_belowM O7.out C9.out)) (fun z hz => dots_below (D7.out z (HKS.out z hz)) C9.out) (powTab_below HT.out (below_next B7.out C9.out))).mono ?_; rintro x w10 ⟨sv2, rfl, hvw, hb⟩; obtain ⟨S2, hs1, hs2⟩ := hvw; have HS2 := Lib.hid (show HoldsS w10 sv2 S from by rw [HKM.out, shows_puts] at hs1; rw [stable_one HST.out hs1]; exact hs2); have C10 := Lib.hid hb; clear hs1 hs2 hb)
            | (go_at_call 16; refine (real_any S (by have := HMS.out; omega) sv2 w10 HS2.out).mono ?_; rintro x w11 ⟨r2, rfl, h1, hb⟩; have HR2 := Lib.hid h1; have C11 := Lib.hid hb; clear h1 hb)
            | (go_at_call 15; refine (sameS_any S (by have := HMS.out; omega) r1 r2 w11 (holdsS_below HR1.out (below_next C10.out C11.out)) HR2.out).mono ?_; rintro x w12 ⟨rfl, hb⟩; have B12 := Lib.hid (below_next B7.out (below_next C9.out (below_next C10.out (below_next C11.out hb)))); clear hb))
          go_ret
          exact ⟨rfl, B12.out⟩
end Go.Proofs.YtlcojmligbikoaaGreatDoor
