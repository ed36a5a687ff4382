/-
Texts that all claims of this seat share, part 10: HeadsMayAll, RefHistory.
-/
import Derived.WideMake
import Derived.Deep.DeepCutAuto
import Derived.Test.YtcdjkjadbhejpaaGreatDoorPk9
namespace Go.Proofs.YtcdjkjadbhejpaaGreatDoor
open Go.RowKit
attribute [local go_sem] run_makeMap_plain
theorem map_below13 {w w' : World} {b n : Nat} {D : DataW Unit} (h : w.ownsMap Tryz.prog 24 unitElem b n D) (hb : Below w.heap.size w w') : w'.ownsMap Tryz.prog 24 unitElem b n D := by
  obtain ⟨es, clock, h1, h2⟩ := h
  exact ⟨es, clock, (hb.block b (Array.getElem?_eq_some_iff.1 h1).1).trans h1, h2⟩
theorem few_max13 {k : Nat} (h : k ≤ 50000) : k < maxLen := Nat.lt_of_le_of_lt h (by unfold maxLen; decide)
theorem holdsU_room {w : World} {ad : Addr} {n cap : Nat} {us : List (Ev × Value)} (h : HoldsU w (.slice (some ad) n cap) us) : n ≤ cap := by
  obtain ⟨ao', cap', e, hnil, hc⟩ := h
  simp only [Value.slice.injEq] at e
  obtain ⟨h1, h2, h3⟩ := e
  have := (hc ad h1.symm).1
  omega
theorem mayHs_bad {l : List Ev} {i : Nat} {e : Ev} (he : l[i]? = some e) (h : (∃ f ∈ l.take i, f.r = e.r ∧ f.q = e.q) ∨ mayE e = false ∨ folB (l.take i) e = false) : mayHs l = false := mayHs_not fun H => by
  obtain ⟨h1, h2⟩ := heads_at H he
  rcases h with ⟨f, hf, a, b⟩ | h | h
  · exact heads_twice H he hf a b
  · rw [h1] at h; cases h
  · rw [(folB_iff _ _).2 h2] at h; cases h
theorem mayHs_more {l : List Ev} {i : Nat} {e : Ev} (he : l[i]? = some e) (hh : Heads (l.take i)) (h1 : ∀ f ∈ l.take i, ¬ (f.r = e.r ∧ f.q = e.q)) (h2 : mayE e = true) (h3 : folB (l.take i) e = true) : Heads (l.take (i + 1)) := by
  rw [List.take_add_one, he]
  exact (heads_snoc _ e).2 ⟨hh, fun f hf => by
    cases hd : dotE f e with
    | false => rfl
    | true => exact absurd ((dotE_iff f e).1 hd) (h1 f hf), h2, (folB_iff _ _).1 h3⟩
theorem takeDots {l : List Ev} {i : Nat} {e : Ev} (he : l[i]? = some e) : l.take (i + 1) = l.take i ++ [e] := by
  rw [List.take_add_one, he]; rfl
set_option maxRecDepth 100000 in
set_option maxHeartbeats 16000000 in
theorem may_heads13 (us : List (Ev × Value)) (hl : us.length ≤ 50000) (hf : FitU us) (v : Value) (w : World) (hv : HoldsU w v us) (hd : DepsU w us) (hT : PowTab w) : Calls Tryz.prog 13 #[v] w fun x w' => x = .returned (.bool (mayHs (us.map (·.1)))) ∧ Below w.heap.size w w' := by
  obtain ⟨n, hn⟩ : ∃ n, n = us.length := ⟨_, rfl⟩
  have hn5 : n ≤ 50000 := by omega
  have HN := Lib.hid hn
  obtain ⟨ao, cap, hvs⟩ := holdsU_shape hv n hn
  subst hvs
  have HV := Lib.hid hv
  have HD := Lib.hid hd
  have HT := Lib.hid hT
  have HF := Lib.hid hf
  clear hl hf hv hd hT hn
  go_enter Tryz.func13, Tryz.ntmps13
  go_wp2
  go_loopw [4, 5, 6, 7, 11] (fun _ _ _ _ c wr => ∃ i : Nat, i ≤ n ∧ c = .int .i64 (i : Int) ∧ Heads ((us.map (·.1)).take i) ∧ DotSet wr w.heap.size i ((us.map (·.1)).take i) ∧ Below w.heap.size w wr ∧ w.heap.size < wr.heap.size) (fun _ _ _ _ c _ => n - (intOf c).toNat)
  case atStart => exact ⟨0, Nat.zero_le _, rfl, heads_nil, dotSet_made w, (Below.refl _ _).alloc (Nat.le_refl _) _, by simp⟩
  case round =>
    obtain ⟨i, hi, rfl, hh, ⟨D, ho, hD⟩, hb, hlt⟩ := hrel
    by_cases hin : i < n
    · obtain ⟨x, hx⟩ : ∃ x, us[i]? = some x := ⟨_, List.getElem?_eq_getElem (by have := HN.out; omega)⟩
      obtain ⟨ad, cap', e1, hc⟩ := holdsU_at (holdsU_below HV.out hb) n i HN.out.symm x hx
      cases e1
      have hu := HD.out x (List.mem_of_getElem? hx)
      have hfx := HF.out x (List.mem_of_getElem? hx)
      have hex := fst_atM hx
      obtain ⟨e, u⟩ := x
      dsimp only at hc hu hfx hex
      obtain ⟨uo, uc, rfl⟩ := dots_shape hu e.deps.length rfl
      obtain ⟨un, hun⟩ : ∃ k, k = e.deps.length := ⟨_, rfl⟩
      rw [← hun] at hc hu
      obtain ⟨kl, hk⟩ := dot_key e.r e.q hfx.1 hfx.2.1
      have HC := Lib.hid hc
      have HU := Lib.hid hu
      have HE := Lib.hid hex
      have HK := Lib.hid hk
      have HO := Lib.hid ho
      have HOA := Lib.hid ho
      have HDS := Lib.hid hD
      have HB := Lib.hid hb
      have HLT := Lib.hid hlt
      have HH := Lib.hid hh
      have B1 := Lib.hid ((Below.refl wr.heap.size wr))
      have HM := Lib.hid (few_max13 (Nat.le_trans hi hn5))
      have hin1 : i ≤ n := hi
      have hic : (i : Int) ≤ (cap : Int) := by have := holdsU_room HV.out; omega
      have hi0 : 0 ≤ (i : Int) := by omega
      have q0 : (i : Int) < (n : Int) := by omega
      have HDT := Lib.hid (show DepsU w (us.take i) from fun y hy => HD.out y (List.mem_of_mem_take hy))
      have MY := Lib.hid (fun w hv hT => may_any12 ownSays e hfx.2.2.1 hfx.2.2.2 (.slice uo un uc) w hv hT)
      have FO := Lib.hid (fun w hv hd hu => follow_any13 (us.take i) (by have := HN.out; rw [List.length_take]; omega) (fun y hy => HF.out y (List.mem_of_mem_take hy)) e hfx (.slice (some ad) i cap) (.slice uo un uc) w hv hd hu (by rw [List.map_take]; exact heads_rises HH.out))
      rw [List.map_take] at FO
      obtain ⟨tw, htw⟩ : ∃ b, Maps.has D kl = b := ⟨_, rfl⟩
      have HTW := Lib.hid htw
      obtain ⟨my, hmy⟩ : ∃ b, mayE e = b := ⟨_, rfl⟩
      have HMY := Lib.hid hmy
      obtain ⟨fo, hfo⟩ : ∃ b, folB ((us.map (·.1)).take i) e = b := ⟨_, rfl⟩
      have HFO := Lib.hid hfo
      rw [hmy] at MY
      rw [hfo] at FO
      clear hx hc hu hfx hex hun hk ho hD hb hlt hh htw hmy hfo hi
      cases tw with
      | true =>
        have HX := Lib.hid (show mayHs (us.map (·.1)) = false from mayHs_bad HE.out (.inl ((HDS.out _ _ _ HK.out).1 HTW.out)))
        go_upto_region 6 with (first
          | (refine load_evA_on (by rfl) 30 (.tmp 14) rfl (ad.add (i * 38)) rfl Tryz.underlying30 evSize HC.out ?_)
          | (refine store_new rfl 30 (.tmp 5) (.tmp 15) rfl rfl wr _ (evC e (.slice uo un uc)) 30 rfl rfl rfl (by rw [evSize, evC_size]) (by rw [evC_size]; rfl) (evC_one _ _ rfl) ?_; rintro W2 hg hb hlt; have E2 := Lib.hid (show EvAt W2 wr.heap.size 30 e (.slice uo un uc) from hg); have B2 := Lib.hid hb; clear hg hb hlt)
          | (refine load_dot10 (by rfl) 24 (.tmp 18) rfl ⟨wr.heap.size, 0, none⟩ rfl e.r e.q Tryz.underlying24 (by kernel_rfl) (evAt_dot E2.out) ?_)
          | (at_lookup; refine wpList_lookup_own_unit _ rfl (.tmp 17) (.tmp 19) 77 rfl 24 78 dot_law Tryz.underlying77 (by rfl) w.heap.size i D rfl (map_below13 (map_below13 HO.out B1.out) B2.out) _ kl rfl HK.out ?_; rw [HTW.out])
          | fail)
        have h0 := (Below.refl W2.heap.size W2).alloc (Nat.le_refl _) (.cells #[] 78 (0, 0))
        generalize W2.alloc (.cells #[] 78 (0, 0)) = W3 at h0 ⊢
        have E3 := Lib.hid (evAt_kept E2.out h0)
        have B3 := Lib.hid (below_next B2.out h0)
        have BT := Lib.hid (below_next HB.out (below_next B2.out h0))
        clear h0 E2 B2
        have HU3 := Lib.hid (dots_below HU.out BT.out)
        have HT3 := Lib.hid (powTab_below HT.out BT.out)
        have HV3 := Lib.hid (holdsU_below (holdsU_take HV.out i hin1) BT.out)
        have HD3 := Lib.hid (depsU_below HDT.out BT.out)
        have HO3 := Lib.hid (map_below13 HO.out B3.out)
        clear HU HT HV HD HDT HO
        refine wp_region_held_drew (S := fun w' => Below W3.heap.size W3 w') (by kernel_rfl) (drawS (Below.refl _ _)) (fun hHeld => ?_)
        generalize W3.drew = wd at hHeld ⊢
        refine take_at (i := 0) 23 rfl rfl (by kernel_rfl) (by kernel_rfl) (by kernel_rfl) (fun _ _ _ h => h) (sure_yes (by rfl) (fun w => by go_simp; try with_reducible rfl)) hHeld ?_
        simp only [List.setIfInBounds_toArray, List.set_cons_zero, List.set_cons_succ]
        refine take_at (i := 1) 24 rfl rfl (by kernel_rfl) (by kernel_rfl) (by kernel_rfl) (fun _ _ _ h => h) (sure_yes (by rfl) (fun w => by go_simp; try with_reducible rfl)) hHeld ?_
        simp only [List.setIfInBounds_toArray, List.set_cons_zero, List.set_cons_succ]
        refine take_at (i := 2) 25 rfl rfl (by kernel_rfl) (by kernel_rfl) (by kernel_rfl) (fun _ _ _ h => h) (.inr ⟨by rfl, rfl⟩) hHeld ?_
        simp only [List.setIfInBounds_toArray, List.set_cons_zero, List.set_cons_succ]
        refine take_at (i := 3) 26 rfl rfl (by kernel_rfl) (by kernel_rfl) (by kernel_rfl) (fun _ _ _ h => h) (.inr ⟨by rfl, rfl⟩) hHeld ?_
        simp only [List.setIfInBounds_toArray, List.set_cons_zero, List.set_cons_succ]
        refine take_at (i := 4) 27 rfl rfl (by kernel_rfl) (by kernel_rfl) (by kernel_rfl) (fun _ _ _ h => h) (.inr ⟨by rfl, rfl⟩) hHeld ?_
        simp only [List.setIfInBounds_toArray, List.set_cons_zero, List.set_cons_succ]
        refine take_at (i := 5) 28 rfl rfl (by kernel_rfl) (by kernel_rfl) (by kernel_rfl) (fun _ _ _ h => h) (sure_yes (by rfl) (fun w => by go_simp; try with_reducible rfl)) hHeld ?_
        simp only [List.setIfInBounds_toArray, List.set_cons_zero, List.set_cons_succ]
        refine take_at (i := 6) 29 rfl rfl (by kernel_rfl) (by kernel_rfl) (by kernel_rfl) (fun _ _ _ h => h) (sure_yes (by rfl) (fun w => by go_simp; try with_reducible rfl)) hHeld ?_
        simp only [List.setIfInBounds_toArray, List.set_cons_zero, List.set_cons_succ]
        refine take_at (i := 7) 30 rfl rfl (by kernel_rfl) (by kernel_rfl) (by kernel_rfl) (fun _ _ _ h => h) (.inr ⟨by rfl, rfl⟩) hHeld ?_
        simp only [List.setIfInBounds_toArray, List.set_cons_zero, List.set_cons_succ]
        refine take_at (i := 8) 31 rfl rfl (by kernel_rfl) (by kernel_rfl) (by kernel_rfl) (fun _ _ _ h => h) (.inr ⟨by rfl, rfl⟩) hHeld ?_
        simp only [List.setIfInBounds_toArray, List.set_cons_zero, List.set_cons_succ]
        refine take_at (i := 9) 32 rfl rfl (by kernel_rfl) (by kernel_rfl) (by kernel_rfl) (fun _ _ _ h => h) (.inr ⟨by rfl, rfl⟩) hHeld ?_
        simp only [List.setIfInBounds_toArray, List.set_cons_zero, List.set_cons_succ]
        refine take_at (i := 10) 33 rfl rfl (by kernel_rfl) (by kernel_rfl) (by kernel_rfl) (fun _ _ _ h => h) (.inr ⟨by rfl, rfl⟩) hHeld ?_
        simp only [List.setIfInBounds_toArray, List.set_cons_zero, List.set_cons_succ]
        refine take_at (i := 11) 34 rfl rfl (by kernel_rfl) (by kernel_rfl) (by kernel_rfl) (fun _ _ _ h => h) (.inr ⟨by rfl, rfl⟩) hHeld ?_
        simp only [List.setIfInBounds_toArray, List.set_cons_zero, List.set_cons_succ]
        refine take_at (i := 12) 35 rfl rfl (by kernel_rfl) (by kernel_rfl) (by kernel_rfl) (fun _ _ _ h => h) (.inr ⟨by rfl, rfl⟩) hHeld ?_
        simp only [List.setIfInBounds_toArray, List.set_cons_zero, List.set_cons_succ]
        refine take_at (i := 13) 36 rfl rfl (by kernel_rfl) (by kernel_rfl) (by kernel_rfl) (fun _ _ _ h => h) (sure_yes (by rfl) (fun w => by go_simp; try with_reducible rfl)) hHeld ?_
        simp only [List.setIfInBounds_toArray, List.set_cons_zero, List.set_cons_succ]
        refine wpAnyH_done (by kernel_rfl) ?_ _
        have HZ := Lib.hid hHeld
        clear hHeld
        go_wp2
        go_ret
        exact ⟨by rw [HX.out]; rfl, below_next BT.out HZ.out⟩
      | false =>
        cases my with
        | false =>
          have HX := Lib.hid (show mayHs (us.map (·.1)) = false from mayHs_bad HE.out (.inr (.inl HMY.out)))
          go_upto_region 6 with (first
            | (refine load_evA_on (by rfl) 30 (.tmp 14) rfl (ad.add (i * 38)) rfl Tryz.underlying30 evSize HC.out ?_)
            | (refine store_new rfl 30 (.tmp 5) (.tmp 15) rfl rfl wr _ (evC e (.slice uo un uc)) 30 rfl rfl rfl (by rw [evSize, evC_size]) (by rw [evC_size]; rfl) (evC_one _ _ rfl) ?_; rintro W2 hg hb hlt; have E2 := Lib.hid (show EvAt W2 wr.heap.size 30 e (.slice uo un uc) from hg); have B2 := Lib.hid hb; clear hg hb hlt)
            | (refine load_dot10 (by rfl) 24 (.tmp 18) rfl ⟨wr.heap.size, 0, none⟩ rfl e.r e.q Tryz.underlying24 (by kernel_rfl) (evAt_dot E2.out) ?_)
            | (at_lookup; refine wpList_lookup_own_unit _ rfl (.tmp 17) (.tmp 19) 77 rfl 24 78 dot_law Tryz.underlying77 (by rfl) w.heap.size i D rfl (map_below13 (map_below13 HO.out B1.out) B2.out) _ kl rfl HK.out ?_; rw [HTW.out])
            | fail)
          have h0 := (Below.refl W2.heap.size W2).alloc (Nat.le_refl _) (.cells #[] 78 (0, 0))
          generalize W2.alloc (.cells #[] 78 (0, 0)) = W3 at h0 ⊢
          have E3 := Lib.hid (evAt_kept E2.out h0)
          have B3 := Lib.hid (below_next B2.out h0)
          have BT := Lib.hid (below_next HB.out (below_next B2.out h0))
          clear h0 E2 B2
          have HU3 := Lib.hid (dots_below HU.out BT.out)
          have HT3 := Lib.hid (powTab_below HT.out BT.out)
          have HV3 := Lib.hid (holdsU_below (holdsU_take HV.out i hin1) BT.out)
          have HD3 := Lib.hid (depsU_below HDT.out BT.out)
          have HO3 := Lib.hid (map_below13 HO.out B3.out)
          clear HU HT HV HD HDT HO
          refine wp_region_held_drew (S := fun w' => Below W3.heap.size W3 w') (by kernel_rfl) (drawS (Below.refl _ _)) (fun hHeld => ?_)
          generalize W3.drew = wd at hHeld ⊢
          refine take_at (i := 0) 23 rfl rfl (by kernel_rfl) (by kernel_rfl) (by kernel_rfl) (fun _ _ _ h => h) (sure_yes (by rfl) (fun w => by go_simp; try with_reducible rfl)) hHeld ?_
          simp only [List.setIfInBounds_toArray, List.set_cons_zero, List.set_cons_succ]
          refine take_at (i := 1) 24 rfl rfl (by kernel_rfl) (by kernel_rfl) (by kernel_rfl) (fun _ _ _ h => h) (sure_yes (by rfl) (fun w => by go_simp; try with_reducible rfl)) hHeld ?_
          simp only [List.setIfInBounds_toArray, List.set_cons_zero, List.set_cons_succ]
          refine take_at (i := 2) 25 rfl rfl (by kernel_rfl) (by kernel_rfl) (by kernel_rfl) (fun _ _ _ h => h) (evA_yields (by rfl) 30 (.tmp 5) rfl ⟨wr.heap.size, 0, none⟩ rfl Tryz.underlying30 evSize (fun w h j u hu => cell_under12 (by rw [Addr.add_lit, Nat.zero_add]; exact evAt_cell E3.out j u hu) h)) hHeld ?_
          simp only [List.setIfInBounds_toArray, List.set_cons_zero, List.set_cons_succ]
          refine ready_call1 3 26 (by kernel_rfl) rfl rfl (by rfl) 37 (.tmp 25) 30 rfl (.agg (evC e (.slice uo un uc))) rfl (enters_of Tryz.func37 (by kernel_rfl) rfl) _ (MY.out _ (dots_below HU3.out hHeld) (powTab_below HT3.out hHeld)) (fun x wz hp => ?_)
          obtain ⟨rfl, hb⟩ := hp
          refine ⟨_, rfl, below_next hHeld hb, ?_⟩
          replace hHeld := below_next hHeld hb
          clear hb
          simp only [List.setIfInBounds_toArray, List.set_cons_zero, List.set_cons_succ]
          refine take_at (i := 4) 27 rfl rfl (by kernel_rfl) (by kernel_rfl) (by kernel_rfl) (fun _ _ _ h => h) (sure_yes (by rfl) (fun w => by go_simp; try with_reducible rfl)) hHeld ?_
          simp only [List.setIfInBounds_toArray, List.set_cons_zero, List.set_cons_succ]
          refine take_at (i := 5) 28 rfl rfl (by kernel_rfl) (by kernel_rfl) (by kernel_rfl) (fun _ _ _ h => h) (sure_yes (by rfl) (fun w => by go_simp; try with_reducible rfl)) hHeld ?_
          simp only [List.setIfInBounds_toArray, List.set_cons_zero, List.set_cons_succ]
          refine take_at (i := 6) 29 rfl rfl (by kernel_rfl) (by kernel_rfl) (by kernel_rfl) (fun _ _ _ h => h) (sure_yes (by rfl) (fun w => by go_simp; try with_reducible rfl)) hHeld ?_
          simp only [List.setIfInBounds_toArray, List.set_cons_zero, List.set_cons_succ]
          refine take_at (i := 7) 30 rfl rfl (by kernel_rfl) (by kernel_rfl) (by kernel_rfl) (fun _ _ _ h => h) (.inr ⟨by rfl, rfl⟩) hHeld ?_
          simp only [List.setIfInBounds_toArray, List.set_cons_zero, List.set_cons_succ]
          refine take_at (i := 8) 31 rfl rfl (by kernel_rfl) (by kernel_rfl) (by kernel_rfl) (fun _ _ _ h => h) (.inr ⟨by rfl, rfl⟩) hHeld ?_
          simp only [List.setIfInBounds_toArray, List.set_cons_zero, List.set_cons_succ]
          refine take_at (i := 9) 32 rfl rfl (by kernel_rfl) (by kernel_rfl) (by kernel_rfl) (fun _ _ _ h => h) (.inr ⟨by rfl, rfl⟩) hHeld ?_
          simp only [List.setIfInBounds_toArray, List.set_cons_zero, List.set_cons_succ]
          refine take_at (i := 10) 33 rfl rfl (by kernel_rfl) (by kernel_rfl) (by kernel_rfl) (fun _ _ _ h => h) (.inr ⟨by rfl, rfl⟩) hHeld ?_
          simp only [List.setIfInBounds_toArray, List.set_cons_zero, List.set_cons_succ]
          refine take_at (i := 11) 34 rfl rfl (by kernel_rfl) (by kernel_rfl) (by kernel_rfl) (fun _ _ _ h => h) (.inr ⟨by rfl, rfl⟩) hHeld ?_
          simp only [List.setIfInBounds_toArray, List.set_cons_zero, List.set_cons_succ]
          refine take_at (i := 12) 35 rfl rfl (by kernel_rfl) (by kernel_rfl) (by kernel_rfl) (fun _ _ _ h => h) (.inr ⟨by rfl, rfl⟩) hHeld ?_
          simp only [List.setIfInBounds_toArray, List.set_cons_zero, List.set_cons_succ]
          refine take_at (i := 13) 36 rfl rfl (by kernel_rfl) (by kernel_rfl) (by kernel_rfl) (fun _ _ _ h => h) (sure_yes (by rfl) (fun w => by go_simp; try with_reducible rfl)) hHeld ?_
          simp only [List.setIfInBounds_toArray, List.set_cons_zero, List.set_cons_succ]
          refine wpAnyH_done (by kernel_rfl) ?_ _
          have HZ := Lib.hid hHeld
          clear hHeld
          go_wp2
          go_ret
          exact ⟨by rw [HX.out]; rfl, below_next BT.out HZ.out⟩
        | true =>
          cases fo with
          | false =>
            have HX := Lib.hid (show mayHs (us.map (·.1)) = false from mayHs_bad HE.out (.inr (.inr HFO.out)))
            go_upto_region 6 with (first
              | (refine load_evA_on (by rfl) 30 (.tmp 14) rfl (ad.add (i * 38)) rfl Tryz.underlying30 evSize HC.out ?_)
              | (refine store_new rfl 30 (.tmp 5) (.tmp 15) rfl rfl wr _ (evC e (.slice uo un uc)) 30 rfl rfl rfl (by rw [evSize, evC_size]) (by rw [evC_size]; rfl) (evC_one _ _ rfl) ?_; rintro W2 hg hb hlt; have E2 := Lib.hid (show EvAt W2 wr.heap.size 30 e (.slice uo un uc) from hg); have B2 := Lib.hid hb; clear hg hb hlt)
              | (refine load_dot10 (by rfl) 24 (.tmp 18) rfl ⟨wr.heap.size, 0, none⟩ rfl e.r e.q Tryz.underlying24 (by kernel_rfl) (evAt_dot E2.out) ?_)
              | (at_lookup; refine wpList_lookup_own_unit _ rfl (.tmp 17) (.tmp 19) 77 rfl 24 78 dot_law Tryz.underlying77 (by rfl) w.heap.size i D rfl (map_below13 (map_below13 HO.out B1.out) B2.out) _ kl rfl HK.out ?_; rw [HTW.out])
              | fail)
            have h0 := (Below.refl W2.heap.size W2).alloc (Nat.le_refl _) (.cells #[] 78 (0, 0))
            generalize W2.alloc (.cells #[] 78 (0, 0)) = W3 at h0 ⊢
            have E3 := Lib.hid (evAt_kept E2.out h0)
            have B3 := Lib.hid (below_next B2.out h0)
            have BT := Lib.hid (below_next HB.out (below_next B2.out h0))
            clear h0 E2 B2
            have HU3 := Lib.hid (dots_below HU.out BT.out)
            have HT3 := Lib.hid (powTab_below HT.out BT.out)
            have HV3 := Lib.hid (holdsU_below (holdsU_take HV.out i hin1) BT.out)
            have HD3 := Lib.hid (depsU_below HDT.out BT.out)
            have HO3 := Lib.hid (map_below13 HO.out B3.out)
            clear HU HT HV HD HDT HO
            refine wp_region_held_drew (S := fun w' => Below W3.heap.size W3 w') (by kernel_rfl) (drawS (Below.refl _ _)) (fun hHeld => ?_)
            generalize W3.drew = wd at hHeld ⊢
            refine take_at (i := 0) 23 rfl rfl (by kernel_rfl) (by kernel_rfl) (by kernel_rfl) (fun _ _ _ h => h) (sure_yes (by rfl) (fun w => by go_simp; try with_reducible rfl)) hHeld ?_
            simp only [List.setIfInBounds_toArray, List.set_cons_zero, List.set_cons_succ]
            refine take_at (i := 1) 24 rfl rfl (by kernel_rfl) (by kernel_rfl) (by kernel_rfl) (fun _ _ _ h => h) (sure_yes (by rfl) (fun w => by go_simp; try with_reducible rfl)) hHeld ?_
            simp only [List.setIfInBounds_toArray, List.set_cons_zero, List.set_cons_succ]
            refine take_at (i := 2) 25 rfl rfl (by kernel_rfl) (by kernel_rfl) (by kernel_rfl) (fun _ _ _ h => h) (evA_yields (by rfl) 30 (.tmp 5) rfl ⟨wr.heap.size, 0, none⟩ rfl Tryz.underlying30 evSize (fun w h j u hu => cell_under12 (by rw [Addr.add_lit, Nat.zero_add]; exact evAt_cell E3.out j u hu) h)) hHeld ?_
            simp only [List.setIfInBounds_toArray, List.set_cons_zero, List.set_cons_succ]
            refine ready_call1 3 26 (by kernel_rfl) rfl rfl (by rfl) 37 (.tmp 25) 30 rfl (.agg (evC e (.slice uo un uc))) rfl (enters_of Tryz.func37 (by kernel_rfl) rfl) _ (MY.out _ (dots_below HU3.out hHeld) (powTab_below HT3.out hHeld)) (fun x wz hp => ?_)
            obtain ⟨rfl, hb⟩ := hp
            refine ⟨_, rfl, below_next hHeld hb, ?_⟩
            replace hHeld := below_next hHeld hb
            clear hb
            simp only [List.setIfInBounds_toArray, List.set_cons_zero, List.set_cons_succ]
            refine take_at (i := 4) 27 rfl rfl (by kernel_rfl) (by kernel_rfl) (by kernel_rfl) (fun _ _ _ h => h) (sure_yes (by rfl) (fun w => by go_simp; try with_reducible rfl)) hHeld ?_
            simp only [List.setIfInBounds_toArray, List.set_cons_zero, List.set_cons_succ]
            refine take_at (i := 5) 28 rfl rfl (by kernel_rfl) (by kernel_rfl) (by kernel_rfl) (fun _ _ _ h => h) (sure_yes (by rfl) (fun w => by go_simp; try with_reducible rfl)) hHeld ?_
            simp only [List.setIfInBounds_toArray, List.set_cons_zero, List.set_cons_succ]
            refine take_at (i := 6) 29 rfl rfl (by kernel_rfl) (by kernel_rfl) (by kernel_rfl) (fun _ _ _ h => h) (sure_yes (by rfl) (fun w => by go_simp; try with_reducible rfl)) hHeld ?_
            simp only [List.setIfInBounds_toArray, List.set_cons_zero, List.set_cons_succ]
            refine take_at (i := 7) 30 rfl rfl (by kernel_rfl) (by kernel_rfl) (by kernel_rfl) (fun _ _ _ h => h) (sure_yes (by rfl) (fun w => by go_simp; try with_reducible rfl)) hHeld ?_
            simp only [List.setIfInBounds_toArray, List.set_cons_zero, List.set_cons_succ]
            refine take_at (i := 8) 31 rfl rfl (by kernel_rfl) (by kernel_rfl) (by kernel_rfl) (fun _ _ _ h => h) (sure_yes (by rfl) (fun w => by go_simp; try with_reducible rfl)) hHeld ?_
            simp only [List.setIfInBounds_toArray, List.set_cons_zero, List.set_cons_succ]
            refine take_at (i := 9) 32 rfl rfl (by kernel_rfl) (by kernel_rfl) (by kernel_rfl) (fun _ _ _ h => h) (sure_yes (by rfl) (fun w => by go_simp; try with_reducible rfl)) hHeld ?_
            simp only [List.setIfInBounds_toArray, List.set_cons_zero, List.set_cons_succ]
            refine take_at (i := 10) 33 rfl rfl (by kernel_rfl) (by kernel_rfl) (by kernel_rfl) (fun _ _ _ h => h) (evA_yields (by rfl) 30 (.tmp 5) rfl ⟨wr.heap.size, 0, none⟩ rfl Tryz.underlying30 evSize (fun w h j u hu => cell_under12 (by rw [Addr.add_lit, Nat.zero_add]; exact evAt_cell E3.out j u hu) h)) hHeld ?_
            simp only [List.setIfInBounds_toArray, List.set_cons_zero, List.set_cons_succ]
            refine ready_call2 11 34 (by kernel_rfl) rfl rfl (by rfl) 38 (.tmp 32) (.tmp 33) 22 30 rfl (.slice (some ad) i cap) (.agg (evC e (.slice uo un uc))) rfl rfl (enters_of Tryz.func38 (by kernel_rfl) rfl) _ (FO.out _ (holdsU_below HV3.out hHeld) (depsU_below HD3.out hHeld) (dots_below HU3.out hHeld)) (fun x wz hp => ?_)
            obtain ⟨rfl, hb⟩ := hp
            refine ⟨_, rfl, below_next hHeld hb, ?_⟩
            replace hHeld := below_next hHeld hb
            clear hb
            simp only [List.setIfInBounds_toArray, List.set_cons_zero, List.set_cons_succ]
            refine take_at (i := 12) 35 rfl rfl (by kernel_rfl) (by kernel_rfl) (by kernel_rfl) (fun _ _ _ h => h) (sure_yes (by rfl) (fun w => by go_simp; try with_reducible rfl)) hHeld ?_
            simp only [List.setIfInBounds_toArray, List.set_cons_zero, List.set_cons_succ]
            refine take_at (i := 13) 36 rfl rfl (by kernel_rfl) (by kernel_rfl) (by kernel_rfl) (fun _ _ _ h => h) (sure_yes (by rfl) (fun w => by go_simp; try with_reducible rfl)) hHeld ?_
            simp only [List.setIfInBounds_toArray, List.set_cons_zero, List.set_cons_succ]
            refine wpAnyH_done (by kernel_rfl) ?_ _
            have HZ := Lib.hid hHeld
            clear hHeld
            go_wp2
            go_ret
            exact ⟨by rw [HX.out]; rfl, below_next BT.out HZ.out⟩
          | true =>
            have HH2 := Lib.hid (mayHs_more HE.out HH.out (fun f hf h => by
              have := (HDS.out _ _ _ HK.out).2 ⟨f, hf, h⟩
              rw [HTW.out] at this; cases this) HMY.out HFO.out)
            go_upto_region 6 with (first
              | (refine load_evA_on (by rfl) 30 (.tmp 14) rfl (ad.add (i * 38)) rfl Tryz.underlying30 evSize HC.out ?_)
              | (refine store_new rfl 30 (.tmp 5) (.tmp 15) rfl rfl wr _ (evC e (.slice uo un uc)) 30 rfl rfl rfl (by rw [evSize, evC_size]) (by rw [evC_size]; rfl) (evC_one _ _ rfl) ?_; rintro W2 hg hb hlt; have E2 := Lib.hid (show EvAt W2 wr.heap.size 30 e (.slice uo un uc) from hg); have B2 := Lib.hid hb; clear hg hb hlt)
              | (refine load_dot10 (by rfl) 24 (.tmp 18) rfl ⟨wr.heap.size, 0, none⟩ rfl e.r e.q Tryz.underlying24 (by kernel_rfl) (evAt_dot E2.out) ?_)
              | (at_lookup; refine wpList_lookup_own_unit _ rfl (.tmp 17) (.tmp 19) 77 rfl 24 78 dot_law Tryz.underlying77 (by rfl) w.heap.size i D rfl (map_below13 (map_below13 HO.out B1.out) B2.out) _ kl rfl HK.out ?_; rw [HTW.out])
              | fail)
            have h0 := (Below.refl W2.heap.size W2).alloc (Nat.le_refl _) (.cells #[] 78 (0, 0))
            generalize W2.alloc (.cells #[] 78 (0, 0)) = W3 at h0 ⊢
            have E3 := Lib.hid (evAt_kept E2.out h0)
            have B3 := Lib.hid (below_next B2.out h0)
            have BT := Lib.hid (below_next HB.out (below_next B2.out h0))
            clear h0 E2 B2
            have HU3 := Lib.hid (dots_below HU.out BT.out)
            have HT3 := Lib.hid (powTab_below HT.out BT.out)
            have HV3 := Lib.hid (holdsU_below (holdsU_take HV.out i hin1) BT.out)
            have HD3 := Lib.hid (depsU_below HDT.out BT.out)
            have HO3 := Lib.hid (map_below13 HO.out B3.out)
            clear HU HT HV HD HDT
            refine wp_region_held_drew (S := fun w' => Below W3.heap.size W3 w') (by kernel_rfl) (drawS (Below.refl _ _)) (fun hHeld => ?_)
            generalize W3.drew = wd at hHeld ⊢
            refine take_at (i := 0) 23 rfl rfl (by kernel_rfl) (by kernel_rfl) (by kernel_rfl) (fun _ _ _ h => h) (sure_yes (by rfl) (fun w => by go_simp; try with_reducible rfl)) hHeld ?_
            simp only [List.setIfInBounds_toArray, List.set_cons_zero, List.set_cons_succ]
            refine take_at (i := 1) 24 rfl rfl (by kernel_rfl) (by kernel_rfl) (by kernel_rfl) (fun _ _ _ h => h) (sure_yes (by rfl) (fun w => by go_simp; try with_reducible rfl)) hHeld ?_
            simp only [List.setIfInBounds_toArray, List.set_cons_zero, List.set_cons_succ]
            refine take_at (i := 2) 25 rfl rfl (by kernel_rfl) (by kernel_rfl) (by kernel_rfl) (fun _ _ _ h => h) (evA_yields (by rfl) 30 (.tmp 5) rfl ⟨wr.heap.size, 0, none⟩ rfl Tryz.underlying30 evSize (fun w h j u hu => cell_under12 (by rw [Addr.add_lit, Nat.zero_add]; exact evAt_cell E3.out j u hu) h)) hHeld ?_
            simp only [List.setIfInBounds_toArray, List.set_cons_zero, List.set_cons_succ]
            refine ready_call1 3 26 (by kernel_rfl) rfl rfl (by rfl) 37 (.tmp 25) 30 rfl (.agg (evC e (.slice uo un uc))) rfl (enters_of Tryz.func37 (by kernel_rfl) rfl) _ (MY.out _ (dots_below HU3.out hHeld) (powTab_below HT3.out hHeld)) (fun x wz hp => ?_)
            obtain ⟨rfl, hb⟩ := hp
            refine ⟨_, rfl, below_next hHeld hb, ?_⟩
            replace hHeld := below_next hHeld hb
            clear hb
            simp only [List.setIfInBounds_toArray, List.set_cons_zero, List.set_cons_succ]
            refine take_at (i := 4) 27 rfl rfl (by kernel_rfl) (by kernel_rfl) (by kernel_rfl) (fun _ _ _ h => h) (sure_yes (by rfl) (fun w => by go_simp; try with_reducible rfl)) hHeld ?_
            simp only [List.setIfInBounds_toArray, List.set_cons_zero, List.set_cons_succ]
            refine take_at (i := 5) 28 rfl rfl (by kernel_rfl) (by kernel_rfl) (by kernel_rfl) (fun _ _ _ h => h) (sure_yes (by rfl) (fun w => by go_simp; try with_reducible rfl)) hHeld ?_
            simp only [List.setIfInBounds_toArray, List.set_cons_zero, List.set_cons_succ]
            refine take_at (i := 6) 29 rfl rfl (by kernel_rfl) (by kernel_rfl) (by kernel_rfl) (fun _ _ _ h => h) (sure_yes (by rfl) (fun w => by go_simp; try with_reducible rfl)) hHeld ?_
            simp only [List.setIfInBounds_toArray, List.set_cons_zero, List.set_cons_succ]
            refine take_at (i := 7) 30 rfl rfl (by kernel_rfl) (by kernel_rfl) (by kernel_rfl) (fun _ _ _ h => h) (sure_yes (by rfl) (fun w => by go_simp; try with_reducible rfl)) hHeld ?_
            simp only [List.setIfInBounds_toArray, List.set_cons_zero, List.set_cons_succ]
            refine take_at (i := 8) 31 rfl rfl (by kernel_rfl) (by kernel_rfl) (by kernel_rfl) (fun _ _ _ h => h) (sure_yes (by rfl) (fun w => by go_simp; try with_reducible rfl)) hHeld ?_
            simp only [List.setIfInBounds_toArray, List.set_cons_zero, List.set_cons_succ]
            refine take_at (i := 9) 32 rfl rfl (by kernel_rfl) (by kernel_rfl) (by kernel_rfl) (fun _ _ _ h => h) (sure_yes (by rfl) (fun w => by go_simp; try with_reducible rfl)) hHeld ?_
            simp only [List.setIfInBounds_toArray, List.set_cons_zero, List.set_cons_succ]
            refine take_at (i := 10) 33 rfl rfl (by kernel_rfl) (by kernel_rfl) (by kernel_rfl) (fun _ _ _ h => h) (evA_yields (by rfl) 30 (.tmp 5) rfl ⟨wr.heap.size, 0, none⟩ rfl Tryz.underlying30 evSize (fun w h j u hu => cell_under12 (by rw [Addr.add_lit, Nat.zero_add]; exact evAt_cell E3.out j u hu) h)) hHeld ?_
            simp only [List.setIfInBounds_toArray, List.set_cons_zero, List.set_cons_succ]
            refine ready_call2 11 34 (by kernel_rfl) rfl rfl (by rfl) 38 (.tmp 32) (.tmp 33) 22 30 rfl (.slice (some ad) i cap) (.agg (evC e (.slice uo un uc))) rfl rfl (enters_of Tryz.func38 (by kernel_rfl) rfl) _ (FO.out _ (holdsU_below HV3.out hHeld) (depsU_below HD3.out hHeld) (dots_below HU3.out hHeld)) (fun x wz hp => ?_)
            obtain ⟨rfl, hb⟩ := hp
            refine ⟨_, rfl, below_next hHeld hb, ?_⟩
            replace hHeld := below_next hHeld hb
            clear hb
            simp only [List.setIfInBounds_toArray, List.set_cons_zero, List.set_cons_succ]
            refine take_at (i := 12) 35 rfl rfl (by kernel_rfl) (by kernel_rfl) (by kernel_rfl) (fun _ _ _ h => h) (sure_yes (by rfl) (fun w => by go_simp; try with_reducible rfl)) hHeld ?_
            simp only [List.setIfInBounds_toArray, List.set_cons_zero, List.set_cons_succ]
            refine take_at (i := 13) 36 rfl rfl (by kernel_rfl) (by kernel_rfl) (by kernel_rfl) (fun _ _ _ h => h) (sure_yes (by rfl) (fun w => by go_simp; try with_reducible rfl)) hHeld ?_
            simp only [List.setIfInBounds_toArray, List.set_cons_zero, List.set_cons_succ]
            refine wpAnyH_done (by kernel_rfl) ?_ _
            have HZ := Lib.hid hHeld
            have HOZ := Lib.hid (map_below13 HO3.out hHeld)
            have EZ := Lib.hid (evAt_kept E3.out hHeld)
            clear hHeld
            go_wp2_with (first
              | (refine load_dot10 (by rfl) 24 (.tmp 38) rfl ⟨wr.heap.size, 0, none⟩ rfl e.r e.q Tryz.underlying24 (by kernel_rfl) (evAt_dot EZ.out) ?_)
              | (at_mapUpdate; refine wpList_mapUpdate_own _ rfl _ _ _ 77 rfl 24 78 dot_law Tryz.underlying77 (unitElem (H := Unit)) w.heap.size i _ rfl HOZ.out HM.out _ _ kl rfl rfl HK.out _ [] unitElem_mk ?_; intro w1 ho1 hg1; have HO1 := Lib.hid ho1; have HG1 := Lib.hid hg1; clear ho1 hg1))
            go_roundw
            case rel => exact ⟨i + 1, hin, by go_num, HH2.out, by rw [takeDots HE.out]; exact dotSet_put HO.out.isMap HDS.out HK.out HO1.out, (below_next BT.out HZ.out).grown HG1.out (by have := BT.out.size; have := HZ.out.size; omega) (fun j hj => by cases hj; exact Nat.le_refl _), by have := HG1.out.size; have := B3.out.size; have := HZ.out.size; have := HLT.out; omega⟩
            case measure => simp [intOf]; omega
    · obtain rfl : i = n := by omega
      have HX := Lib.hid (show mayHs (us.map (·.1)) = true from (mayHs_iff _).2 (by
        rw [List.take_of_length_le (by rw [List.length_map, HN.out]; exact Nat.le_refl _)] at hh
        exact hh))
      have HB := Lib.hid hb
      clear hh ho hD hb hlt hi
      go_wp2
      go_ret
      exact ⟨by rw [HX.out]; rfl, HB.out⟩
end Go.Proofs.YtcdjkjadbhejpaaGreatDoor
namespace Go.Proofs.YtcdjkjadbhejpaaGreatDoor
open Go.RowKit
set_option maxRecDepth 100000 in
set_option maxHeartbeats 16000000 in
theorem history_any (l : List DeedT) (hs : ∀ x ∈ l, x.who < 256 ∧ x.other < 256 ∧ x.path < 256 ∧ x.size < 256) (v : Value) (w : World) (hv : HasDeeds w v l) : Calls Tryz.prog 20 #[v] w fun x w' => ∃ vo, ∃ a : Nat → Value, x = .returned (.tuple #[vo, .agg #[a 0, a 1, a 2]]) ∧ HasEvs w' vo (histN l).out ∧ (∀ j, j < 3 → TypDots w' (a j) ((histN l).know j)) ∧ Below w.heap.size w w' := by
  have HS := Lib.hid hs
  have HV := Lib.hid hv
  obtain ⟨n, hn⟩ : ∃ n, n = l.length := ⟨_, rfl⟩
  obtain ⟨ao, cap, rfl⟩ := deeds_shape hv n hn
  have HN := Lib.hid hn
  clear hs hv hn
  go_enter Tryz.func20, Tryz.ntmps20
  go_wp2
  have hk1 := heap_last (w.alloc (.cells #[.slice none 0 0, .slice none 0 0, .slice none 0 0] 39 (0, 0))) (.cells #[.slice none 0 0, .slice none 0 0, .slice none 0 0] 39 (0, 0))
  have HI := Lib.hid (show HistAt w (((w.alloc (.cells #[.slice none 0 0, .slice none 0 0, .slice none 0 0] 39 (0, 0))).alloc (.cells #[.slice none 0 0, .slice none 0 0, .slice none 0 0] 39 (0, 0))).alloc (.cells #[.string ⟨#[97]⟩, .string ⟨#[97, 47, 98]⟩, .string ⟨#[99]⟩, .string ⟨#[100]⟩] 9 (0, 0))) hist0 (.slice none 0 0) from hist_start w)
  clear hk1
  go_loopw [5, 7, 8, 9, 10] (fun o c _ _ _ wr => ∃ k : Nat, k ≤ n ∧ k ≤ 40 ∧ c = .int .i64 (k : Int) ∧ HistAt w wr ((l.take k).foldl stepH hist0) o) (fun _ c _ _ _ _ => 40 - (intOf c).toNat)
  case atStart => exact ⟨0, by omega, by omega, rfl, HI.out⟩
  case round =>
    obtain ⟨k, hkn, hk40, rfl, hh⟩ := hrel
    have HH := Lib.hid hh
    by_cases hr : k < n ∧ k < 40
    · have q0 : (k : Int) < (n : Int) := by omega
      have q1 : (k : Int) < 40 := by omega
      obtain ⟨d, hd⟩ : ∃ d, l[k]? = some d := ⟨_, List.getElem?_eq_getElem (by have := HN.out; omega)⟩
      obtain ⟨a, us, hus, hown, hres, hkn2, htyp, hpaths, hsz, hbel⟩ := hh
      obtain ⟨ad, cap', e, hdc⟩ := deeds_at (deeds_below HV.out hbel) n k HN.out.symm d hd
      cases e
      obtain ⟨b1, b2, b3, b4⟩ := HS.out d (List.mem_of_getElem? hd)
      obtain ⟨i, hi⟩ : ∃ i, i = d.who % 3 := ⟨_, rfl⟩
      obtain ⟨oo, hoo⟩ : ∃ j, j = d.other % 3 := ⟨_, rfl⟩
      have hi3 : i < 3 := by omega
      have ho3 : oo < 3 := by omega
      have q3 : (i : Int) < 3 := by omega
      have q4 : (oo : Int) < 3 := by omega
      obtain ⟨wa, ta, ea⟩ := deed_nums d.who 3 b1
      obtain ⟨wo, tq, eo⟩ := deed_nums d.other 3 b2
      have wo2 : IntKind.i64.wrap (d.other : Int) = (d.other : Int) := deed_wrap _ b2
      rw [← hi] at ta ea
      rw [← hoo] at tq eo
      have ta' : (d.who : Int).tmod 3 = (i : Int) := ta
      have ea' : (d.who : Int) % 3 = (i : Int) := ea
      have tq' : (d.other : Int).tmod 3 = (oo : Int) := tq
      have eo' : (d.other : Int) % 3 = (oo : Int) := eo
      have HIO := Lib.hid (And.intro hi (And.intro hoo (And.intro hi3 ho3)))
      clear ta ea tq eo hi hoo hi3 ho3
      have HDC := Lib.hid hdc
      have HD := Lib.hid hd
      have HB := Lib.hid (And.intro b1 (And.intro b2 (And.intro b3 b4)))
      have HO := Lib.hid hown
      have HR := Lib.hid (And.intro hres (And.intro hkn2 (And.intro hpaths hsz)))
      have HY := Lib.hid htyp
      have HU := Lib.hid hus
      have HBL := Lib.hid hbel
      clear hdc hd b1 b2 b3 b4 hown hres hkn2 hpaths hsz htyp hus hbel
      go_upto_region 9 with (first
        | (refine load_deed (by rfl) 76 (.tmp 24) rfl (ad.add (k * 6)) rfl Tryz.underlying76 deedSize HDC.out ?_))
      have hbw := (Below.refl wr.heap.size wr).alloc (Nat.le_refl _) (.cells #[.int .u8 (d.who : Int), .int .u8 (d.other : Int), .int .u8 (d.path : Int), .bool d.learns, .bool d.gone, .int .u8 (d.size : Int)] 76 (0, 0))
      have HD1 := Lib.hid (heap_last wr (.cells #[.int .u8 (d.who : Int), .int .u8 (d.other : Int), .int .u8 (d.path : Int), .bool d.learns, .bool d.gone, .int .u8 (d.size : Int)] 76 (0, 0)))
      have HR1 := Lib.hid (And.intro (row_kept HR.out.1 hbw) (And.intro (row_kept HR.out.2.1 hbw) (And.intro (row_kept HR.out.2.2.1 hbw) (Nat.le_trans HR.out.2.2.2 hbw.size))))
      have HY1 := Lib.hid (fun j hj => typ_below (HY.out j hj) hbw)
      have HO1 := Lib.hid (show OwnEvs _ _ _ us from ⟨own_below HO.out.1 hbw, fun x hx => typ_below (HO.out.2 x hx) hbw⟩)
      have HB1 := Lib.hid (below_next HBL.out hbw)
      have HLT := Lib.hid (show w.heap.size + 3 ≤ wr.heap.size from HR.out.2.2.2)
      clear hbw
      generalize wr.alloc (.cells #[.int .u8 (d.who : Int), .int .u8 (d.other : Int), .int .u8 (d.path : Int), .bool d.learns, .bool d.gone, .int .u8 (d.size : Int)] 76 (0, 0)) = W1 at *
      have c3 : W1.cell? ⟨wr.heap.size, 3, none⟩ = some (.bool d.learns) := (cell_of_row _ _ 3 _ _ _ HD1.out).trans rfl
      cases hL : d.learns with
      | true =>
        rw [hL] at c3
        go_upto_region 10 with fail
        obtain ⟨nn, hinv⟩ := inv_take l (fun x hx => (HS.out x hx).2.2.2) k hk40
        have JN := Lib.hid (fun v u w hv hu => refJoin_typ10 (((l.take k).foldl stepH hist0).know i) (((l.take k).foldl stepH hist0).know oo) (know_len hinv HIO.out.2.2.1) (know_len hinv HIO.out.2.2.2) v u w hv hu)
        clear hinv
        generalize hgen : (l.take k).foldl stepH hist0 = h at *
        obtain ⟨ai, ci, hai⟩ := dots_shape (HY1.out i HIO.out.2.2.1).1 _ rfl
        obtain ⟨aj, cj, haj⟩ := dots_shape (HY1.out oo HIO.out.2.2.2).1 _ rfl
        have HAI := Lib.hid hai
        have HAJ := Lib.hid haj
        have HG := Lib.hid hgen
        clear hai haj hgen
        refine wp_region_held_drew (S := fun w' => Below w.heap.size w w' ∧ w'.heap[wr.heap.size]? = some (.cells #[.int .u8 (d.who : Int), .int .u8 (d.other : Int), .int .u8 (d.path : Int), .bool d.learns, .bool d.gone, .int .u8 (d.size : Int)] 76 (0, 0))) (by kernel_rfl) ⟨drawS HB1.out, HD1.out⟩ (fun hHeld => ?_)
        have hdr : Below W1.heap.size W1 W1.drew := drawS (Below.refl _ _)
        have RD := Lib.hid (show W1.drew.heap[w.heap.size]? = _ ∧ W1.drew.heap[w.heap.size + 1]? = _ ∧ W1.drew.heap[w.heap.size + 2]? = _ ∧ w.heap.size + 3 ≤ W1.drew.heap.size from HR1.out)
        have YD := Lib.hid (fun j hj => typ_below (HY1.out j hj) hdr)
        have OD := Lib.hid (show OwnEvs _ _ _ us from ⟨own_below HO1.out.1 hdr, fun x hx => typ_below (HO1.out.2 x hx) hdr⟩)
        clear hdr
        generalize W1.drew = wd at *
        refine take_at (i := 0) 32 rfl rfl (by kernel_rfl) (by kernel_rfl) (by kernel_rfl) (fun _ _ _ h => h) (sure_yes (by rfl) (fun w => by go_simp; try with_reducible rfl)) hHeld ?_
        simp only [List.setIfInBounds_toArray, List.set_cons_zero, List.set_cons_succ]
        refine take_at (i := 1) 33 rfl rfl (by kernel_rfl) (by kernel_rfl) (by kernel_rfl) (fun _ _ _ h => h) (sure_yes (by rfl) (fun w => by go_simp; try with_reducible rfl)) hHeld ?_
        simp only [List.setIfInBounds_toArray, List.set_cons_zero, List.set_cons_succ]
        refine take_at (i := 2) 34 rfl rfl (by kernel_rfl) (by kernel_rfl) (by kernel_rfl) (fun _ _ _ h => h) (sure_yes (by rfl) (fun w => by go_simp; try with_reducible rfl)) hHeld ?_
        simp only [List.setIfInBounds_toArray, List.set_cons_zero, List.set_cons_succ]
        refine take_at (i := 4) 36 rfl rfl (by kernel_rfl) (by kernel_rfl) (by kernel_rfl) (fun _ _ _ h => h) (sure_yes (by rfl) (fun w => by go_simp; try with_reducible rfl)) hHeld ?_
        simp only [List.setIfInBounds_toArray, List.set_cons_zero, List.set_cons_succ]
        refine take_at (i := 5) 37 rfl rfl (by kernel_rfl) (by kernel_rfl) (by kernel_rfl) (fun _ _ _ h => h) (cell_yields (by rfl) 5 (.tmp 36) rfl wr.heap.size 1 rfl .u8 _ Tryz.underlying5 (fun _ h => (cell_of_row _ _ 1 _ _ _ h.2).trans rfl)) hHeld ?_
        simp only [List.setIfInBounds_toArray, List.set_cons_zero, List.set_cons_succ]
        refine take_at (i := 6) 38 rfl rfl (by kernel_rfl) (by kernel_rfl) (by kernel_rfl) (fun _ _ _ h => h) (sure_yes (by rfl) (fun w => by go_simp; try with_reducible rfl)) hHeld ?_
        simp only [List.setIfInBounds_toArray, List.set_cons_zero, List.set_cons_succ]
        refine take_at (i := 7) 39 rfl rfl (by kernel_rfl) (by kernel_rfl) (by kernel_rfl) (fun _ _ _ h => h) (sure_yes (by rfl) (fun w => by go_simp; try with_reducible rfl)) hHeld ?_
        simp only [List.setIfInBounds_toArray, List.set_cons_zero, List.set_cons_succ]
        refine take_at (i := 8) 40 rfl rfl (by kernel_rfl) (by kernel_rfl) (by kernel_rfl) (fun _ _ _ h => h) (sure_yes (by rfl) (fun w => by go_simp; try with_reducible rfl)) hHeld ?_
        simp only [List.setIfInBounds_toArray, List.set_cons_zero, List.set_cons_succ]
        refine wpAnyH_ready (rs := [3, 9]) (by kernel_rfl) (by simp) ?_
        refine AllReadyH.cons rfl (fun CONT hCONT => ?_) (AllReadyH.cons rfl (fun CONT hCONT => ?_) (AllReadyH.nil))
        · refine load_cell_at 35 rfl (by rfl) 26 (.tmp 34) rfl ⟨w.heap.size + 1, i, none⟩ rfl ai _ ci Tryz.underlying26 (by rw [← HAI.out]; exact know_cell RD.out.2.1 HIO.out.2.2.1) ?_
          refine hCONT.out _ _ hHeld (fun hHeld => ?_)
          clear hCONT CONT
          simp only [List.setIfInBounds_toArray, List.set_cons_zero, List.set_cons_succ]
          refine wpAnyH_ready (rs := [9]) (by kernel_rfl) (by simp) ?_
          refine AllReadyH.cons rfl (fun CONT hCONT => ?_) AllReadyH.nil
          refine load_cell_at 41 rfl (by rfl) 26 (.tmp 40) rfl ⟨w.heap.size + 1, oo, none⟩ rfl aj _ cj Tryz.underlying26 (by rw [← HAJ.out]; exact know_cell RD.out.2.1 HIO.out.2.2.2) ?_
          refine hCONT.out _ _ hHeld (fun hHeld => ?_)
          clear hCONT CONT
          simp only [List.setIfInBounds_toArray, List.set_cons_zero, List.set_cons_succ]
          refine wpAnyH_ready (rs := [10]) (by kernel_rfl) (by simp) ?_
          refine AllReadyH.cons rfl (fun CONT hCONT => ?_) AllReadyH.nil
          go_simp
          go_at_call 52
          refine (JN.out _ _ _ (by rw [← HAI.out]; exact (YD.out i HIO.out.2.2.1).1) (by rw [← HAJ.out]; exact (YD.out oo HIO.out.2.2.2).1)).mono ?_
          rintro x wz ⟨u, rfl, hu, hb⟩
          dsimp only
          have RZ := Lib.hid (And.intro (row_kept RD.out.1 hb) (And.intro (row_kept RD.out.2.1 hb) (And.intro (row_kept RD.out.2.2.1 hb) (Nat.le_trans RD.out.2.2.2 hb.size))))
          have YZ := Lib.hid (fun j hj => typ_below (YD.out j hj) hb)
          have OZ := Lib.hid (show OwnEvs _ _ _ us from ⟨own_below OD.out.1 hb, fun x hx => typ_below (OD.out.2 x hx) hb⟩)
          have UZ := Lib.hid hu
          obtain ⟨ao3, cap3, rfl⟩ := dots_shape hu.1 _ rfl
          refine hCONT.out _ _ ⟨below_next hHeld.1 hb, row_kept hHeld.2 hb⟩ (fun hHeld => ?_)
          clear hCONT CONT hb hu
          refine take_at (i := 11) 43 rfl rfl (by kernel_rfl) (by kernel_rfl) (by kernel_rfl) (fun _ _ _ h => h) (sure_yes (by rfl) (fun w => by go_simp; try with_reducible rfl)) hHeld ?_
          simp only [List.setIfInBounds_toArray, List.set_cons_zero, List.set_cons_succ]
          refine wpAnyH_ready (rs := [12]) (by kernel_rfl) (by simp) ?_
          refine AllReadyH.cons rfl (fun CONT hCONT => ?_) AllReadyH.nil
          refine store_slice_at rfl (by rfl) 26 (.tmp 43) (.tmp 42) rfl (w.heap.size + 1) i #[a 0, a 1, a 2] ao3 _ cap3 39 RZ.out.2.1 rfl rfl HIO.out.2.2.1 vecSize12 (fun w9 hg hs => ?_)
          have hlt := HLT.out
          have GK := Lib.hid (show w9.heap[w.heap.size + 1]? = _ from hg)
          have GS := Lib.hid hs
          refine hCONT.out _ _ ⟨solo_below hHeld.1 hs (by omega), (hs.block _ (by omega)).trans hHeld.2⟩ (fun hHeld => ?_)
          clear hCONT CONT hg hs hlt
          refine wpAnyH_done (by kernel_rfl) ?_ _
          have HX := Lib.hid (show HistAt w w9 ((l.take (k + 1)).foldl stepH hist0) _ by
            rw [take_step HD.out, HG.out]
            exact hist_learn hL HIO.out.1 HIO.out.2.1 HIO.out.2.2.1 HU.out RZ.out.1 RZ.out.2.1 RZ.out.2.2.1 RZ.out.2.2.2 YZ.out OZ.out UZ.out GK.out GS.out hHeld.1)
          go_wp2
          refine ⟨⟨k + 1, by omega, by omega, by simp, HX.out⟩, ?_⟩
          simp [intOf] <;> omega
        · refine load_cell_at 41 rfl (by rfl) 26 (.tmp 40) rfl ⟨w.heap.size + 1, oo, none⟩ rfl aj _ cj Tryz.underlying26 (by rw [← HAJ.out]; exact know_cell RD.out.2.1 HIO.out.2.2.2) ?_
          refine hCONT.out _ _ hHeld (fun hHeld => ?_)
          clear hCONT CONT
          simp only [List.setIfInBounds_toArray, List.set_cons_zero, List.set_cons_succ]
          refine wpAnyH_ready (rs := [3]) (by kernel_rfl) (by simp) ?_
          refine AllReadyH.cons rfl (fun CONT hCONT => ?_) AllReadyH.nil
          refine load_cell_at 35 rfl (by rfl) 26 (.tmp 34) rfl ⟨w.heap.size + 1, i, none⟩ rfl ai _ ci Tryz.underlying26 (by rw [← HAI.out]; exact know_cell RD.out.2.1 HIO.out.2.2.1) ?_
          refine hCONT.out _ _ hHeld (fun hHeld => ?_)
          clear hCONT CONT
          simp only [List.setIfInBounds_toArray, List.set_cons_zero, List.set_cons_succ]
          refine wpAnyH_ready (rs := [10]) (by kernel_rfl) (by simp) ?_
          refine AllReadyH.cons rfl (fun CONT hCONT => ?_) AllReadyH.nil
          go_simp
          go_at_call 52
          refine (JN.out _ _ _ (by rw [← HAI.out]; exact (YD.out i HIO.out.2.2.1).1) (by rw [← HAJ.out]; exact (YD.out oo HIO.out.2.2.2).1)).mono ?_
          rintro x wz ⟨u, rfl, hu, hb⟩
          dsimp only
          have RZ := Lib.hid (And.intro (row_kept RD.out.1 hb) (And.intro (row_kept RD.out.2.1 hb) (And.intro (row_kept RD.out.2.2.1 hb) (Nat.le_trans RD.out.2.2.2 hb.size))))
          have YZ := Lib.hid (fun j hj => typ_below (YD.out j hj) hb)
          have OZ := Lib.hid (show OwnEvs _ _ _ us from ⟨own_below OD.out.1 hb, fun x hx => typ_below (OD.out.2 x hx) hb⟩)
          have UZ := Lib.hid hu
          obtain ⟨ao3, cap3, rfl⟩ := dots_shape hu.1 _ rfl
          refine hCONT.out _ _ ⟨below_next hHeld.1 hb, row_kept hHeld.2 hb⟩ (fun hHeld => ?_)
          clear hCONT CONT hb hu
          refine take_at (i := 11) 43 rfl rfl (by kernel_rfl) (by kernel_rfl) (by kernel_rfl) (fun _ _ _ h => h) (sure_yes (by rfl) (fun w => by go_simp; try with_reducible rfl)) hHeld ?_
          simp only [List.setIfInBounds_toArray, List.set_cons_zero, List.set_cons_succ]
          refine wpAnyH_ready (rs := [12]) (by kernel_rfl) (by simp) ?_
          refine AllReadyH.cons rfl (fun CONT hCONT => ?_) AllReadyH.nil
          refine store_slice_at rfl (by rfl) 26 (.tmp 43) (.tmp 42) rfl (w.heap.size + 1) i #[a 0, a 1, a 2] ao3 _ cap3 39 RZ.out.2.1 rfl rfl HIO.out.2.2.1 vecSize12 (fun w9 hg hs => ?_)
          have hlt := HLT.out
          have GK := Lib.hid (show w9.heap[w.heap.size + 1]? = _ from hg)
          have GS := Lib.hid hs
          refine hCONT.out _ _ ⟨solo_below hHeld.1 hs (by omega), (hs.block _ (by omega)).trans hHeld.2⟩ (fun hHeld => ?_)
          clear hCONT CONT hg hs hlt
          refine wpAnyH_done (by kernel_rfl) ?_ _
          have HX := Lib.hid (show HistAt w w9 ((l.take (k + 1)).foldl stepH hist0) _ by
            rw [take_step HD.out, HG.out]
            exact hist_learn hL HIO.out.1 HIO.out.2.1 HIO.out.2.2.1 HU.out RZ.out.1 RZ.out.2.1 RZ.out.2.2.1 RZ.out.2.2.2 YZ.out OZ.out UZ.out GK.out GS.out hHeld.1)
          go_wp2
          refine ⟨⟨k + 1, by omega, by omega, by simp, HX.out⟩, ?_⟩
          simp [intOf] <;> omega
      | false =>
        rw [hL] at c3
        go_upto_region 11 with fail
        obtain ⟨nn, hinv⟩ := inv_take l (fun x hx => (HS.out x hx).2.2.2) k hk40
        have GN := Lib.hid (fun v w hv => refGet_any10 (((l.take k).foldl stepH hist0).know i) (know_len hinv HIO.out.2.2.1) (i : Int) v w hv)
        have HKL := Lib.hid (know_len hinv HIO.out.2.2.1)
        clear hinv
        generalize hgen : (l.take k).foldl stepH hist0 = h at *
        obtain ⟨ai, ci, hai⟩ := dots_shape (HY1.out i HIO.out.2.2.1).1 _ rfl
        have HAI := Lib.hid hai
        have HG := Lib.hid hgen
        have hbd := getV_bd (h.know i) (i : Int)
        obtain ⟨G, hG⟩ : ∃ G, G = getV (h.know i) (i : Int) := ⟨_, rfl⟩
        obtain ⟨q, hq⟩ : ∃ q, G + 1 = q := ⟨_, rfl⟩
        rw [← hG] at GN hbd
        obtain ⟨pp, hpp⟩ : ∃ pp, pp = d.path % 4 := ⟨_, rfl⟩
        have hp4 : pp < 4 := by rw [hpp]; exact Nat.mod_lt _ (by decide)
        have q5 : (pp : Int) < 4 := by omega
        obtain ⟨EN, hEN⟩ : ∃ EN : Ev, EN = ⟨(i : Int), q, h.know i, 1, pathsH.getD pp [], sizeF d.size, (d.size : Int)⟩ := ⟨_, rfl⟩
        have HEN := Lib.hid hEN
        have HP4 := Lib.hid (And.intro hpp (And.intro hp4 (And.intro hG hq)))
        have wq : IntKind.i64.wrap (G + 1) = q := by rw [hq, IntKind.wrap_i64]; omega
        have wq2 : wrap64 (G + 1) = q := by rw [hq, wrap64]; omega
        have ws2 : IntKind.i64.wrap (d.size : Int) = (d.size : Int) := deed_wrap _ HB.out.2.2.2
        have ws3 : wrap64 (d.size : Int) = (d.size : Int) := (deed_nums d.size 1 HB.out.2.2.2).1
        obtain ⟨wp, tp, ep⟩ := deed_nums d.path 4 HB.out.2.2.1
        rw [← hpp] at tp ep
        have wp2 : IntKind.i64.wrap (d.path : Int) = (d.path : Int) := deed_wrap _ HB.out.2.2.1
        have tp' : (d.path : Int).tmod 4 = (pp : Int) := tp
        have ep' : (d.path : Int) % 4 = (pp : Int) := ep
        clear hai hgen hEN hpp hp4 hG hq hbd tp ep
        go_cut [10] (fun s10 wx => ∃ PB, s10 = .pointer (some ⟨PB, 0, none⟩) ∧ W1.heap.size ≤ PB ∧ EvAt wx PB 30 EN (.slice ai (h.know i).length ci) ∧ Below W1.heap.size W1 wx)
        case first =>
          rename_i JJ KK hJJ hKK
          have HJJ := Lib.hid hJJ
          have HKK := Lib.hid hKK
          clear hJJ hKK
          refine wp_region_held_drew (S := fun w' => Below W1.heap.size W1 w') (by kernel_rfl) (drawS (Below.refl _ _)) (fun hHeld => ?_)
          generalize W1.drew = wd at hHeld ⊢
          refine take_at (i := 0) 44 rfl rfl (by kernel_rfl) (by kernel_rfl) (by kernel_rfl) (fun _ _ _ h => h) (sure_yes (by rfl) (fun w => by go_simp; try with_reducible rfl)) hHeld ?_
          simp only [List.setIfInBounds_toArray, List.set_cons_zero, List.set_cons_succ]
          refine take_at (i := 1) 45 rfl rfl (by kernel_rfl) (by kernel_rfl) (by kernel_rfl) (fun _ _ _ h => h) (sure_yes (by rfl) (fun w => by go_simp; try with_reducible rfl)) hHeld ?_
          simp only [List.setIfInBounds_toArray, List.set_cons_zero, List.set_cons_succ]
          refine take_at (i := 2) 46 rfl rfl (by kernel_rfl) (by kernel_rfl) (by kernel_rfl) (fun _ _ _ h => h) (sure_yes (by rfl) (fun w => by go_simp; try with_reducible rfl)) hHeld ?_
          simp only [List.setIfInBounds_toArray, List.set_cons_zero, List.set_cons_succ]
          refine take_at (i := 4) 48 rfl rfl (by kernel_rfl) (by kernel_rfl) (by kernel_rfl) (fun _ _ _ h => h) (sure_yes (by rfl) (fun w => by go_simp; try with_reducible rfl)) hHeld ?_
          simp only [List.setIfInBounds_toArray, List.set_cons_zero, List.set_cons_succ]
          refine take_at (i := 8) 52 rfl rfl (by kernel_rfl) (by kernel_rfl) (by kernel_rfl) (fun _ _ _ h => h) (sure_yes (by rfl) (fun w => by go_simp; try with_reducible rfl)) hHeld ?_
          simp only [List.setIfInBounds_toArray, List.set_cons_zero, List.set_cons_succ]
          refine take_at (i := 9) 53 rfl rfl (by kernel_rfl) (by kernel_rfl) (by kernel_rfl) (fun _ _ _ h => h) (sure_yes (by rfl) (fun w => by go_simp; try with_reducible rfl)) hHeld ?_
          simp only [List.setIfInBounds_toArray, List.set_cons_zero, List.set_cons_succ]
          refine take_at (i := 11) 55 rfl rfl (by kernel_rfl) (by kernel_rfl) (by kernel_rfl) (fun _ _ _ h => h) (sure_yes (by rfl) (fun w => by go_simp; try with_reducible rfl)) hHeld ?_
          simp only [List.setIfInBounds_toArray, List.set_cons_zero, List.set_cons_succ]
          refine take_at (i := 12) 56 rfl rfl (by kernel_rfl) (by kernel_rfl) (by kernel_rfl) (fun _ _ _ h => h) (sure_yes (by rfl) (fun w => by go_simp; try with_reducible rfl)) hHeld ?_
          simp only [List.setIfInBounds_toArray, List.set_cons_zero, List.set_cons_succ]
          refine take_at (i := 18) 62 rfl rfl (by kernel_rfl) (by kernel_rfl) (by kernel_rfl) (fun _ _ _ h => h) (sure_yes (by rfl) (fun w => by go_simp; try with_reducible rfl)) hHeld ?_
          simp only [List.setIfInBounds_toArray, List.set_cons_zero, List.set_cons_succ]
          refine take_at (i := 21) 65 rfl rfl (by kernel_rfl) (by kernel_rfl) (by kernel_rfl) (fun _ _ _ h => h) (sure_yes (by rfl) (fun w => by go_simp; try with_reducible rfl)) hHeld ?_
          simp only [List.setIfInBounds_toArray, List.set_cons_zero, List.set_cons_succ]
          refine take_at (i := 3) 47 rfl rfl (by kernel_rfl) (by kernel_rfl) (by kernel_rfl) (fun _ _ _ h => h) (slice_yields12H (by rfl) 26 (.tmp 46) rfl ⟨w.heap.size + 1, i, none⟩ rfl ai _ ci Tryz.underlying26 (fun _ h => by rw [← HAI.out]; exact know_cell (row_kept HR1.out.2.1 h) HIO.out.2.2.1)) hHeld ?_
          simp only [List.setIfInBounds_toArray, List.set_cons_zero, List.set_cons_succ]
          refine take_at (i := 10) 54 rfl rfl (by kernel_rfl) (by kernel_rfl) (by kernel_rfl) (fun _ _ _ h => h) (slice_yields12H (by rfl) 26 (.tmp 53) rfl ⟨w.heap.size + 1, i, none⟩ rfl ai _ ci Tryz.underlying26 (fun _ h => by rw [← HAI.out]; exact know_cell (row_kept HR1.out.2.1 h) HIO.out.2.2.1)) hHeld ?_
          simp only [List.setIfInBounds_toArray, List.set_cons_zero, List.set_cons_succ]
          refine take_at (i := 13) 57 rfl rfl (by kernel_rfl) (by kernel_rfl) (by kernel_rfl) (fun _ _ _ h => h) (cell_yields (by rfl) 5 (.tmp 56) rfl wr.heap.size 2 rfl .u8 _ Tryz.underlying5 (fun _ h => (cell_of_row _ _ 2 _ _ _ (row_kept HD1.out h)).trans rfl)) hHeld ?_
          simp only [List.setIfInBounds_toArray, List.set_cons_zero, List.set_cons_succ]
          refine take_at (i := 14) 58 rfl rfl (by kernel_rfl) (by kernel_rfl) (by kernel_rfl) (fun _ _ _ h => h) (sure_yes (by rfl) (fun w => by go_simp; try with_reducible rfl)) hHeld ?_
          simp only [List.setIfInBounds_toArray, List.set_cons_zero, List.set_cons_succ]
          refine take_at (i := 15) 59 rfl rfl (by kernel_rfl) (by kernel_rfl) (by kernel_rfl) (fun _ _ _ h => h) (sure_yes (by rfl) (fun w => by go_simp; try with_reducible rfl)) hHeld ?_
          simp only [List.setIfInBounds_toArray, List.set_cons_zero, List.set_cons_succ]
          refine take_at (i := 16) 60 rfl rfl (by kernel_rfl) (by kernel_rfl) (by kernel_rfl) (fun _ _ _ h => h) (sure_yes (by rfl) (fun w => by go_simp; try with_reducible rfl)) hHeld ?_
          simp only [List.setIfInBounds_toArray, List.set_cons_zero, List.set_cons_succ]
          refine take_at (i := 17) 61 rfl rfl (by kernel_rfl) (by kernel_rfl) (by kernel_rfl) (fun _ _ _ h => h) (str_yields12 (by rfl) 9 (.tmp 60) rfl ⟨w.heap.size + 1 + 1, pp, none⟩ rfl _ Tryz.underlying9 (fun _ h => path_cellH (row_kept HR1.out.2.2.1 h) HP4.out.2.1)) hHeld ?_
          simp only [List.setIfInBounds_toArray, List.set_cons_zero, List.set_cons_succ]
          refine take_at (i := 19) 63 rfl rfl (by kernel_rfl) (by kernel_rfl) (by kernel_rfl) (fun _ _ _ h => h) (cell_yields (by rfl) 5 (.tmp 62) rfl wr.heap.size 5 rfl .u8 _ Tryz.underlying5 (fun _ h => (cell_of_row _ _ 5 _ _ _ (row_kept HD1.out h)).trans rfl)) hHeld ?_
          simp only [List.setIfInBounds_toArray, List.set_cons_zero, List.set_cons_succ]
          refine take_at (i := 20) 64 rfl rfl (by kernel_rfl) (by kernel_rfl) (by kernel_rfl) (fun _ _ _ h => h) (build_yields (by rfl) 28 #[(0, .tmp 63)] rfl _ _ (dig_built HB.out.2.2.2) (by simp [Act.eval])) hHeld ?_
          simp only [List.setIfInBounds_toArray, List.set_cons_zero, List.set_cons_succ]
          refine take_at (i := 22) 66 rfl rfl (by kernel_rfl) (by kernel_rfl) (by kernel_rfl) (fun _ _ _ h => h) (cell_yields (by rfl) 5 (.tmp 65) rfl wr.heap.size 5 rfl .u8 _ Tryz.underlying5 (fun _ h => (cell_of_row _ _ 5 _ _ _ (row_kept HD1.out h)).trans rfl)) hHeld ?_
          simp only [List.setIfInBounds_toArray, List.set_cons_zero, List.set_cons_succ]
          refine take_at (i := 23) 67 rfl rfl (by kernel_rfl) (by kernel_rfl) (by kernel_rfl) (fun _ _ _ h => h) (sure_yes (by rfl) (fun w => by go_simp; try with_reducible rfl)) hHeld ?_
          simp only [List.setIfInBounds_toArray, List.set_cons_zero, List.set_cons_succ]
          refine wpAnyH_ready (rs := [5, 25]) (by kernel_rfl) (by simp) ?_
          refine AllReadyH.cons rfl (fun CONT hCONT => ?_) (AllReadyH.cons rfl (fun CONT hCONT => ?_) (AllReadyH.nil))
          · go_simp
            go_at_call 53
            refine (GN.out _ _ (by rw [← HAI.out]; exact dots_below (HY1.out i HIO.out.2.2.1).1 hHeld)).mono ?_
            rintro x wz ⟨rfl, hb⟩
            dsimp only
            refine hCONT.out _ _ (below_next hHeld hb) (fun hHeld => ?_)
            clear hCONT CONT hb
            refine take_at (i := 6) 50 rfl rfl (by kernel_rfl) (by kernel_rfl) (by kernel_rfl) (fun _ _ _ h => h) (sure_yes (by rfl) (fun w => by go_simp; try with_reducible rfl)) hHeld ?_
            simp only [List.setIfInBounds_toArray, List.set_cons_zero, List.set_cons_succ]
            refine take_at (i := 7) 51 rfl rfl (by kernel_rfl) (by kernel_rfl) (by kernel_rfl) (fun _ _ _ h => h) (sure_yes (by rfl) (fun w => by go_simp; try with_reducible rfl)) hHeld ?_
            simp only [List.setIfInBounds_toArray, List.set_cons_zero, List.set_cons_succ]
            refine take_at (i := 24) 68 rfl rfl (by kernel_rfl) (by kernel_rfl) (by kernel_rfl) (fun _ _ _ h => h) (build_yields (by rfl) 30 #[(0, .tmp 51), (1, .tmp 54), (2, .const (.int .i64 1)), (3, .tmp 61), (4, .tmp 64), (5, .tmp 67)] rfl _ _ (ev_built EN ai (h.know i).length ci) (by rw [HEN.out]; simp [Act.eval])) hHeld ?_
            simp only [List.setIfInBounds_toArray, List.set_cons_zero, List.set_cons_succ]
            refine ready_allocH 25 10 (by kernel_rfl) rfl rfl (by rfl) 30 rfl (evC noEv (.slice none 0 0)) ev_zeroH (hHeld.alloc hHeld.size _) ?_
            simp only [List.setIfInBounds_toArray, List.set_cons_zero, List.set_cons_succ]
            have hHeld2 := hHeld.alloc hHeld.size (.cells (evC noEv (.slice none 0 0)) 30 (0, 0))
            have A6 := Lib.hid (box_ev wz 30 noEv (.slice none 0 0))
            have LW := Lib.hid (show W1.heap.size ≤ wz.heap.size from hHeld.size)
            replace hHeld := hHeld2
            clear hHeld2
            generalize hgp : wz.heap.size = PB at *
            generalize wz.alloc (.cells (evC noEv (.slice none 0 0)) 30 (0, 0)) = W6 at *
            refine ready_store_ev 26 (by kernel_rfl) rfl rfl (by rfl) 30 (.tmp 10) (.tmp 68) rfl PB EN noEv (.slice ai (h.know i).length ci) (.slice none 0 0) rfl rfl 30 A6.out evSize rfl (fun w7 hg hs7 => ?_)
            have hb7 := solo_below hHeld hs7 LW.out
            refine ⟨hb7, ?_⟩
            have A7 := Lib.hid hg
            have B7 := Lib.hid hb7
            clear hg hs7 hb7 hHeld
            refine wpAnyH_done (by kernel_rfl) ?_ _
            refine HKK.out _ _ ?_
            have hJJ := HJJ.out
            go_meet
            exact ⟨PB, rfl, LW.out, A7.out, B7.out⟩
          · refine alloc_at 10 rfl (by rfl) 30 rfl (evC noEv (.slice none 0 0)) ev_zeroH ?_
            have A6 := Lib.hid (box_ev wd 30 noEv (.slice none 0 0))
            have LW := Lib.hid (show W1.heap.size ≤ wd.heap.size from hHeld.size)
            refine hCONT.out _ _ (hHeld.alloc hHeld.size _) (fun hHeld => ?_)
            clear hCONT CONT
            simp only [List.setIfInBounds_toArray, List.set_cons_zero, List.set_cons_succ]
            generalize hgp : wd.heap.size = PB at *
            generalize wd.alloc (.cells (evC noEv (.slice none 0 0)) 30 (0, 0)) = W6 at *
            refine wpAnyH_ready (rs := [5]) (by kernel_rfl) (by simp) ?_
            refine AllReadyH.cons rfl (fun CONT hCONT => ?_) AllReadyH.nil
            go_simp
            go_at_call 53
            refine (GN.out _ _ (by rw [← HAI.out]; exact dots_below (HY1.out i HIO.out.2.2.1).1 hHeld)).mono ?_
            rintro x wz ⟨rfl, hb⟩
            dsimp only
            have A6 := Lib.hid (evAt_kept A6.out hb)
            refine hCONT.out _ _ (below_next hHeld hb) (fun hHeld => ?_)
            clear hCONT CONT hb
            refine take_at (i := 6) 50 rfl rfl (by kernel_rfl) (by kernel_rfl) (by kernel_rfl) (fun _ _ _ h => h) (sure_yes (by rfl) (fun w => by go_simp; try with_reducible rfl)) hHeld ?_
            simp only [List.setIfInBounds_toArray, List.set_cons_zero, List.set_cons_succ]
            refine take_at (i := 7) 51 rfl rfl (by kernel_rfl) (by kernel_rfl) (by kernel_rfl) (fun _ _ _ h => h) (sure_yes (by rfl) (fun w => by go_simp; try with_reducible rfl)) hHeld ?_
            simp only [List.setIfInBounds_toArray, List.set_cons_zero, List.set_cons_succ]
            refine take_at (i := 24) 68 rfl rfl (by kernel_rfl) (by kernel_rfl) (by kernel_rfl) (fun _ _ _ h => h) (build_yields (by rfl) 30 #[(0, .tmp 51), (1, .tmp 54), (2, .const (.int .i64 1)), (3, .tmp 61), (4, .tmp 64), (5, .tmp 67)] rfl _ _ (ev_built EN ai (h.know i).length ci) (by rw [HEN.out]; simp [Act.eval])) hHeld ?_
            simp only [List.setIfInBounds_toArray, List.set_cons_zero, List.set_cons_succ]
            refine ready_store_ev 26 (by kernel_rfl) rfl rfl (by rfl) 30 (.tmp 10) (.tmp 68) rfl PB EN noEv (.slice ai (h.know i).length ci) (.slice none 0 0) rfl rfl 30 A6.out evSize rfl (fun w7 hg hs7 => ?_)
            have hb7 := solo_below hHeld hs7 LW.out
            refine ⟨hb7, ?_⟩
            have A7 := Lib.hid hg
            have B7 := Lib.hid hb7
            clear hg hs7 hb7 hHeld
            refine wpAnyH_done (by kernel_rfl) ?_ _
            refine HKK.out _ _ ?_
            have hJJ := HJJ.out
            go_meet
            exact ⟨PB, rfl, LW.out, A7.out, B7.out⟩
        case rest =>
          obtain ⟨PB, rfl, hpb, hev, hbw⟩ := hcut
          have PE := Lib.hid hev
          have MD := Lib.hid (show HistMid w wc a h _ us PB from ⟨row_kept HR1.out.1 hbw, row_kept HR1.out.2.1 hbw, row_kept HR1.out.2.2.1 hbw, fun j hj => typ_below (HY1.out j hj) hbw, ⟨own_below HO1.out.1 hbw, fun x hx => typ_below (HO1.out.2 x hx) hbw⟩, Nat.le_trans HR1.out.2.2.2 hpb, fun b hb => Nat.lt_of_lt_of_le (own_blockH HO1.out.1 b hb).2.1 hpb, (Array.getElem?_eq_some_iff.1 hev).1, below_next HB1.out hbw⟩)
          have c4 : wc.cell? ⟨wr.heap.size, 4, none⟩ = some (.bool d.gone) := (cell_of_row _ _ 4 _ _ _ (row_kept HD1.out hbw)).trans rfl
          have WT := Lib.hid (fun v w hv => refWith_typ10 (h.know i) (by have := HKL.out; exact this) (i : Int) q v w hv)
          have HUS := Lib.hid (show us.length ≤ 40 by have := congrArg List.length HU.out; rw [List.length_map] at this; rw [this, ← HG.out]; exact Nat.le_trans (hist_len l k) hk40)
          clear hpb hev hbw
          cases hGn : d.gone with
          | true =>
            rw [hGn] at c4
            go_upto_region 13 with (first
              | (refine load_cell_on (by rfl) 4 (.tmp 69) rfl ⟨wr.heap.size, 4, none⟩ rfl true Tryz.underlying4 c4 ?_))
            go_upto_region 14 with (first
              | (refine store_cell rfl 3 (.tmp 71) (.const (.int .i64 2)) rfl rfl .i64 PB 3 (evC EN (.slice ai (h.know i).length ci)) 2 30 PE.out rfl rfl (by rw [evC_size]; decide) intSizeH ?_; rintro w13 hg hs; rw [ev_kindH] at hg; have MD13 := Lib.hid (histMid_solo MD.out PE.out hs); have PE13 := Lib.hid (show EvAt w13 PB 30 (⟨EN.r, EN.q, EN.deps, 2, EN.path, EN.sum, EN.size⟩ : Ev) (.slice ai (h.know i).length ci) from hg); clear hg hs))
            go_upto_region 15 with (first
              | (refine build_on (by rfl) 28 #[] rfl [] (row .u8 32 zeroF) dig_built0 (by simp) ?_)
              | (refine store_in rfl 28 (.tmp 73) (.tmp 72) rfl rfl PB 5 (evC (⟨EN.r, EN.q, EN.deps, 2, EN.path, EN.sum, EN.size⟩ : Ev) (.slice ai (h.know i).length ci)).toList (row .u8 32 zeroF).toList 30 (by rw [Array.toArray_toList]; exact PE13.out) rfl (by rw [Array.toArray_toList]; rfl) (by rw [sumSize]; simp [row_size]) (by simp [evC_size, row_size]) (row_onesH _) ?_; rintro w14 hg hs; rw [ev_sumH] at hg; have MD14 := Lib.hid (histMid_solo MD13.out PE13.out hs); have PE14 := Lib.hid (show EvAt w14 PB 30 (⟨EN.r, EN.q, EN.deps, 2, EN.path, zeroF, EN.size⟩ : Ev) (.slice ai (h.know i).length ci) from hg); clear hg hs))
            go_upto_region 16 with (first
              | (refine store_cell rfl 3 (.tmp 74) (.const (.int .i64 0)) rfl rfl .i64 PB 37 (evC (⟨EN.r, EN.q, EN.deps, 2, EN.path, zeroF, EN.size⟩ : Ev) (.slice ai (h.know i).length ci)) 0 30 PE14.out rfl rfl (by rw [evC_size]; decide) intSizeH ?_; rintro w15 hg hs; rw [ev_sizeH] at hg; have MD15 := Lib.hid (histMid_solo MD14.out PE14.out hs); have PE15 := Lib.hid (show EvAt w15 PB 30 (⟨EN.r, EN.q, EN.deps, 2, EN.path, zeroF, 0⟩ : Ev) (.slice ai (h.know i).length ci) from hg); clear hg hs))
            trace_state
            have PX := Lib.hid (show EvAt w15 PB 30 (evH h d) (.slice ai (h.know i).length ci) by
              have e : evH h d = (⟨EN.r, EN.q, EN.deps, 2, EN.path, zeroF, 0⟩ : Ev) := by
                rw [HEN.out]; unfold evH; rw [hGn, ← HIO.out.1, ← HP4.out.1, ← HP4.out.2.2.2, HP4.out.2.2.1]; simp
              rw [e]; exact PE15.out)
            have MX := MD15
            generalize w15 = wE at *
            have hqe : q = (evH h d).q ∧ (i : Int) = (evH h d).r := by unfold evH; rw [← HIO.out.1, ← HP4.out.2.2.2, HP4.out.2.2.1]; exact ⟨rfl, rfl⟩
            have HQE := Lib.hid hqe
            clear hqe
            refine wp_region_held_drew (S := fun w' => EvAt w' PB 30 (evH h d) (.slice ai (h.know i).length ci)) (by kernel_rfl) (show EvAt wE.drew PB _ _ _ from PX.out) (fun hHeld => ?_)
            have MX1 := Lib.hid (show HistMid w wE.drew a h _ us PB from histMid_below MX.out (drawS (Below.refl _ _)))
            generalize wE.drew = wd at *
            refine take_at (i := 0) 75 rfl rfl (by kernel_rfl) (by kernel_rfl) (by kernel_rfl) (fun _ _ _ h => h) (sure_yes (by rfl) (fun w => by go_simp; try with_reducible rfl)) hHeld ?_
            simp only [List.setIfInBounds_toArray, List.set_cons_zero, List.set_cons_succ]
            refine take_at (i := 1) 76 rfl rfl (by kernel_rfl) (by kernel_rfl) (by kernel_rfl) (fun _ _ _ h => h) (sure_yes (by rfl) (fun w => by go_simp; try with_reducible rfl)) hHeld ?_
            simp only [List.setIfInBounds_toArray, List.set_cons_zero, List.set_cons_succ]
            refine take_at (i := 2) 77 rfl rfl (by kernel_rfl) (by kernel_rfl) (by kernel_rfl) (fun _ _ _ h => h) (sure_yes (by rfl) (fun w => by go_simp; try with_reducible rfl)) hHeld ?_
            simp only [List.setIfInBounds_toArray, List.set_cons_zero, List.set_cons_succ]
            refine take_at (i := 4) 79 rfl rfl (by kernel_rfl) (by kernel_rfl) (by kernel_rfl) (fun _ _ _ h => h) (sure_yes (by rfl) (fun w => by go_simp; try with_reducible rfl)) hHeld ?_
            simp only [List.setIfInBounds_toArray, List.set_cons_zero, List.set_cons_succ]
            refine take_at (i := 5) (v := .agg #[.int .i64 (i : Int), .int .i64 q]) 80 rfl rfl (by kernel_rfl) (by kernel_rfl) (by kernel_rfl) (fun _ _ _ h => h) (dot_yields (by rfl) 24 (.tmp 79) rfl ⟨PB, 0, none⟩ rfl (i : Int) q Tryz.underlying24 (by kernel_rfl) (fun _ h => by rw [HQE.out.1, HQE.out.2]; exact evAt_dot h)) hHeld ?_
            simp only [List.setIfInBounds_toArray, List.set_cons_zero, List.set_cons_succ]
            refine wpAnyH_ready (rs := [3]) (by kernel_rfl) (by simp) ?_
            refine AllReadyH.cons rfl (fun CONT hCONT => ?_) AllReadyH.nil
            refine load_cell_at 78 rfl (by rfl) 26 (.tmp 77) rfl ⟨w.heap.size + 1, i, none⟩ rfl ai _ ci Tryz.underlying26 (by rw [← HAI.out]; exact know_cell MX1.out.r2 HIO.out.2.2.1) ?_
            refine hCONT.out _ _ hHeld (fun hHeld => ?_)
            clear hCONT CONT
            simp only [List.setIfInBounds_toArray, List.set_cons_zero, List.set_cons_succ]
            refine wpAnyH_ready (rs := [6]) (by kernel_rfl) (by simp) ?_
            refine AllReadyH.cons rfl (fun CONT hCONT => ?_) AllReadyH.nil
            go_simp
            go_at_call 54
            refine (WT.out _ _ (by rw [← HAI.out]; exact (MX1.out.typ i HIO.out.2.2.1).1)).mono ?_
            rintro x wz ⟨u, rfl, hu, hb⟩
            dsimp only
            have MZ := Lib.hid (histMid_below MX1.out hb)
            have UZ := Lib.hid hu
            obtain ⟨ao3, cap3, rfl⟩ := dots_shape hu.1 _ rfl
            refine hCONT.out _ _ (evAt_kept hHeld hb) (fun hHeld => ?_)
            clear hCONT CONT hb hu
            refine take_at (i := 7) 82 rfl rfl (by kernel_rfl) (by kernel_rfl) (by kernel_rfl) (fun _ _ _ h => h) (sure_yes (by rfl) (fun w => by go_simp; try with_reducible rfl)) hHeld ?_
            simp only [List.setIfInBounds_toArray, List.set_cons_zero, List.set_cons_succ]
            refine wpAnyH_ready (rs := [8]) (by kernel_rfl) (by simp) ?_
            refine AllReadyH.cons rfl (fun CONT hCONT => ?_) AllReadyH.nil
            refine store_slice_at rfl (by rfl) 26 (.tmp 82) (.tmp 81) rfl (w.heap.size + 1) i #[a 0, a 1, a 2] ao3 _ cap3 39 MZ.out.r2 rfl rfl HIO.out.2.2.1 vecSize12 (fun w9 hg hs => ?_)
            have GK := Lib.hid (show w9.heap[w.heap.size + 1]? = _ from hg)
            have GS := Lib.hid hs
            refine hCONT.out _ _ ((hs.block _ (by have := MZ.out.low; omega)).trans hHeld) (fun hHeld => ?_)
            clear hCONT CONT hg hs
            refine wpAnyH_done (by kernel_rfl) ?_ _
            have P9 := Lib.hid hHeld
            clear hHeld
            obtain ⟨ie, hie, hiz⟩ := infoEv
            have HIZ := Lib.hid hiz
            clear hiz
            obtain ⟨N9, hN9⟩ : ∃ N, w9.heap.size = N := ⟨_, rfl⟩
            have HN9 := Lib.hid hN9
            clear hN9
            go_wp2_with (first
              | (refine load_ev_on (by rfl) 30 (.tmp 10) rfl PB rfl P9.out Tryz.underlying30 evSize ?_)
              | (refine build_ev1 rfl 85 rfl (.tmp 84) rfl N9 HN9.out (evH h d) ai (h.know i).length ci rfl ?_; rintro wA hEA hBA hNA; have EA := Lib.hid hEA; have BA := Lib.hid hBA; clear hEA hBA hNA)
              | (refine append_ev rfl (.tmp 83) (.tmp 85) 22 rfl (w.heap.size + 3) 30 ie Tryz.underlying22 hie HIZ.out _ us (evH h d, .slice ai (h.know i).length ci) rfl (own_below (own_solo MZ.out.own.1 GS.out (by omega)) BA.out) rfl ⟨N9, 0, none⟩ 1 rfl (fun j u hu => by rw [Addr.add_lit, Nat.zero_add]; exact evAt_cell EA.out j u hu) (by have := HUS.out; show us.length + 1 ≤ 100000; omega) (by have := BA.out.size; have := GS.out.size; have := MZ.out.low; have := MZ.out.top; omega) ?_; rintro v' w10 hown hgr; have HX := Lib.hid (show HistAt w w10 ((l.take (k + 1)).foldl stepH hist0) v' by
                  rw [take_step HD.out, HG.out]
                  exact hist_event hL HIO.out.1 HIO.out.2.2.1 HU.out MZ.out HAI.out.symm (by rw [← HQE.out.1, ← HQE.out.2]; exact UZ.out) GK.out GS.out BA.out hown hgr); clear hown hgr))
            refine ⟨⟨k + 1, by omega, by omega, by simp, HX.out⟩, ?_⟩
            simp [intOf] <;> omega
          | false =>
            rw [hGn] at c4
            go_upto_region 16 with (first
              | (refine load_cell_on (by rfl) 4 (.tmp 69) rfl ⟨wr.heap.size, 4, none⟩ rfl false Tryz.underlying4 c4 ?_))
            have PX := Lib.hid (show EvAt wc PB 30 (evH h d) (.slice ai (h.know i).length ci) by
              have e : evH h d = EN := by
                rw [HEN.out]; unfold evH; rw [hGn, ← HIO.out.1, ← HP4.out.1, ← HP4.out.2.2.2, HP4.out.2.2.1]; simp
              rw [e]; exact PE.out)
            have MX := MD
            generalize wc = wE at *
            have hqe : q = (evH h d).q ∧ (i : Int) = (evH h d).r := by unfold evH; rw [← HIO.out.1, ← HP4.out.2.2.2, HP4.out.2.2.1]; exact ⟨rfl, rfl⟩
            have HQE := Lib.hid hqe
            clear hqe
            refine wp_region_held_drew (S := fun w' => EvAt w' PB 30 (evH h d) (.slice ai (h.know i).length ci)) (by kernel_rfl) (show EvAt wE.drew PB _ _ _ from PX.out) (fun hHeld => ?_)
            have MX1 := Lib.hid (show HistMid w wE.drew a h _ us PB from histMid_below MX.out (drawS (Below.refl _ _)))
            generalize wE.drew = wd at *
            refine take_at (i := 0) 75 rfl rfl (by kernel_rfl) (by kernel_rfl) (by kernel_rfl) (fun _ _ _ h => h) (sure_yes (by rfl) (fun w => by go_simp; try with_reducible rfl)) hHeld ?_
            simp only [List.setIfInBounds_toArray, List.set_cons_zero, List.set_cons_succ]
            refine take_at (i := 1) 76 rfl rfl (by kernel_rfl) (by kernel_rfl) (by kernel_rfl) (fun _ _ _ h => h) (sure_yes (by rfl) (fun w => by go_simp; try with_reducible rfl)) hHeld ?_
            simp only [List.setIfInBounds_toArray, List.set_cons_zero, List.set_cons_succ]
            refine take_at (i := 2) 77 rfl rfl (by kernel_rfl) (by kernel_rfl) (by kernel_rfl) (fun _ _ _ h => h) (sure_yes (by rfl) (fun w => by go_simp; try with_reducible rfl)) hHeld ?_
            simp only [List.setIfInBounds_toArray, List.set_cons_zero, List.set_cons_succ]
            refine take_at (i := 4) 79 rfl rfl (by kernel_rfl) (by kernel_rfl) (by kernel_rfl) (fun _ _ _ h => h) (sure_yes (by rfl) (fun w => by go_simp; try with_reducible rfl)) hHeld ?_
            simp only [List.setIfInBounds_toArray, List.set_cons_zero, List.set_cons_succ]
            refine take_at (i := 5) (v := .agg #[.int .i64 (i : Int), .int .i64 q]) 80 rfl rfl (by kernel_rfl) (by kernel_rfl) (by kernel_rfl) (fun _ _ _ h => h) (dot_yields (by rfl) 24 (.tmp 79) rfl ⟨PB, 0, none⟩ rfl (i : Int) q Tryz.underlying24 (by kernel_rfl) (fun _ h => by rw [HQE.out.1, HQE.out.2]; exact evAt_dot h)) hHeld ?_
            simp only [List.setIfInBounds_toArray, List.set_cons_zero, List.set_cons_succ]
            refine wpAnyH_ready (rs := [3]) (by kernel_rfl) (by simp) ?_
            refine AllReadyH.cons rfl (fun CONT hCONT => ?_) AllReadyH.nil
            refine load_cell_at 78 rfl (by rfl) 26 (.tmp 77) rfl ⟨w.heap.size + 1, i, none⟩ rfl ai _ ci Tryz.underlying26 (by rw [← HAI.out]; exact know_cell MX1.out.r2 HIO.out.2.2.1) ?_
            refine hCONT.out _ _ hHeld (fun hHeld => ?_)
            clear hCONT CONT
            simp only [List.setIfInBounds_toArray, List.set_cons_zero, List.set_cons_succ]
            refine wpAnyH_ready (rs := [6]) (by kernel_rfl) (by simp) ?_
            refine AllReadyH.cons rfl (fun CONT hCONT => ?_) AllReadyH.nil
            go_simp
            go_at_call 54
            refine (WT.out _ _ (by rw [← HAI.out]; exact (MX1.out.typ i HIO.out.2.2.1).1)).mono ?_
            rintro x wz ⟨u, rfl, hu, hb⟩
            dsimp only
            have MZ := Lib.hid (histMid_below MX1.out hb)
            have UZ := Lib.hid hu
            obtain ⟨ao3, cap3, rfl⟩ := dots_shape hu.1 _ rfl
            refine hCONT.out _ _ (evAt_kept hHeld hb) (fun hHeld => ?_)
            clear hCONT CONT hb hu
            refine take_at (i := 7) 82 rfl rfl (by kernel_rfl) (by kernel_rfl) (by kernel_rfl) (fun _ _ _ h => h) (sure_yes (by rfl) (fun w => by go_simp; try with_reducible rfl)) hHeld ?_
            simp only [List.setIfInBounds_toArray, List.set_cons_zero, List.set_cons_succ]
            refine wpAnyH_ready (rs := [8]) (by kernel_rfl) (by simp) ?_
            refine AllReadyH.cons rfl (fun CONT hCONT => ?_) AllReadyH.nil
            refine store_slice_at rfl (by rfl) 26 (.tmp 82) (.tmp 81) rfl (w.heap.size + 1) i #[a 0, a 1, a 2] ao3 _ cap3 39 MZ.out.r2 rfl rfl HIO.out.2.2.1 vecSize12 (fun w9 hg hs => ?_)
            have GK := Lib.hid (show w9.heap[w.heap.size + 1]? = _ from hg)
            have GS := Lib.hid hs
            refine hCONT.out _ _ ((hs.block _ (by have := MZ.out.low; omega)).trans hHeld) (fun hHeld => ?_)
            clear hCONT CONT hg hs
            refine wpAnyH_done (by kernel_rfl) ?_ _
            have P9 := Lib.hid hHeld
            clear hHeld
            obtain ⟨ie, hie, hiz⟩ := infoEv
            have HIZ := Lib.hid hiz
            clear hiz
            obtain ⟨N9, hN9⟩ : ∃ N, w9.heap.size = N := ⟨_, rfl⟩
            have HN9 := Lib.hid hN9
            clear hN9
            go_wp2_with (first
              | (refine load_ev_on (by rfl) 30 (.tmp 10) rfl PB rfl P9.out Tryz.underlying30 evSize ?_)
              | (refine build_ev1 rfl 85 rfl (.tmp 84) rfl N9 HN9.out (evH h d) ai (h.know i).length ci rfl ?_; rintro wA hEA hBA hNA; have EA := Lib.hid hEA; have BA := Lib.hid hBA; clear hEA hBA hNA)
              | (refine append_ev rfl (.tmp 83) (.tmp 85) 22 rfl (w.heap.size + 3) 30 ie Tryz.underlying22 hie HIZ.out _ us (evH h d, .slice ai (h.know i).length ci) rfl (own_below (own_solo MZ.out.own.1 GS.out (by omega)) BA.out) rfl ⟨N9, 0, none⟩ 1 rfl (fun j u hu => by rw [Addr.add_lit, Nat.zero_add]; exact evAt_cell EA.out j u hu) (by have := HUS.out; show us.length + 1 ≤ 100000; omega) (by have := BA.out.size; have := GS.out.size; have := MZ.out.low; have := MZ.out.top; omega) ?_; rintro v' w10 hown hgr; have HX := Lib.hid (show HistAt w w10 ((l.take (k + 1)).foldl stepH hist0) v' by
                  rw [take_step HD.out, HG.out]
                  exact hist_event hL HIO.out.1 HIO.out.2.2.1 HU.out MZ.out HAI.out.symm (by rw [← HQE.out.1, ← HQE.out.2]; exact UZ.out) GK.out GS.out BA.out hown hgr); clear hown hgr))
            refine ⟨⟨k + 1, by omega, by omega, by simp, HX.out⟩, ?_⟩
            simp [intOf] <;> omega
    · obtain ⟨a, us, hus, hown, hres, hkn2, htyp, hpaths, hsz, hbel⟩ := hh
      have hend : (l.take k).foldl stepH hist0 = histN l := by
        unfold histN
        by_cases h40 : k = 40
        · rw [h40]
        · rw [List.take_of_length_le (by have := HN.out; omega), List.take_of_length_le (by have := HN.out; omega)]
      rw [hend] at hus htyp
      have hHS := Lib.hid (And.intro hown (And.intro hus htyp))
      have HRR := Lib.hid (And.intro hres (And.intro hkn2 hbel))
      have HA1 := Lib.hid (show (#[a 0, a 1, a 2] : Array Value).all (·.oneCell') = true by
        obtain ⟨x0, y0, e0⟩ := dots_shape (htyp 0 (by omega)).1 _ rfl
        obtain ⟨x1, y1, e1⟩ := dots_shape (htyp 1 (by omega)).1 _ rfl
        obtain ⟨x2, y2, e2⟩ := dots_shape (htyp 2 (by omega)).1 _ rfl
        rw [e0, e1, e2]; simp [Value.oneCell'])
      clear hus hown hres hkn2 htyp hpaths hsz hbel hend
      have q9 : ¬ ((k : Int) < (n : Int) ∧ (k : Int) < 40) := by omega
      by_cases hk1 : k < n
      · have q0 : (k : Int) < (n : Int) := by omega
        have q1 : ¬ (k : Int) < 40 := by omega
        clear q9 hr hkn hk40 hk1
        go_upto_region 18 with fail
        refine wp_region_held_drew (S := fun w' => w'.heap[w.heap.size + 1]? = some (.cells #[a 0, a 1, a 2] 39 (0, 0))) (by kernel_rfl) (show wr.drew.heap[w.heap.size + 1]? = _ from HRR.out.2.1) (fun hHeld => ?_)
        have hd0 : Below wr.heap.size wr wr.drew := drawS (Below.refl _ _)
        have RR := Lib.hid (show wr.drew.heap[w.heap.size]? = _ from HRR.out.1)
        have OW := Lib.hid (show OwnEvs (w.heap.size + 3) wr.drew _ us from ⟨own_below hHS.out.1.1 hd0, fun x hx => typ_below (hHS.out.1.2 x hx) hd0⟩)
        have TY := Lib.hid (fun j hj => typ_below (hHS.out.2.2 j hj) hd0)
        have BB := Lib.hid (below_next HRR.out.2.2 hd0)
        clear hd0
        generalize wr.drew = wd at *
        refine take_at (i := 0) 87 rfl rfl (by kernel_rfl) (by kernel_rfl) (by kernel_rfl) (fun _ _ _ h => h) (sure_yes (by rfl) (fun w => by go_simp; try with_reducible rfl)) hHeld ?_
        simp only [List.setIfInBounds_toArray, List.set_cons_zero, List.set_cons_succ]
        refine take_at (i := 1) 88 rfl rfl (by kernel_rfl) (by kernel_rfl) (by kernel_rfl) (fun _ _ _ h => h) (row_yields (by rfl) 39 (.tmp 4) rfl (w.heap.size + 1) rfl 39 #[a 0, a 1, a 2] (0, 0) _ Tryz.underlying39 rfl (by kernel_rfl) (fun _ h => h)) hHeld ?_
        simp only [List.setIfInBounds_toArray, List.set_cons_zero, List.set_cons_succ]
        refine take_at (i := 2) 2 rfl rfl (by kernel_rfl) (by kernel_rfl) (by kernel_rfl) (fun _ _ _ h => h) (sure_yes (by rfl) (fun w => by go_simp; try with_reducible rfl)) hHeld ?_
        simp only [List.setIfInBounds_toArray, List.set_cons_zero, List.set_cons_succ]
        refine wpAnyH_ready (rs := [3]) (by kernel_rfl) (by simp) ?_
        refine AllReadyH.cons rfl (fun CONT hCONT => ?_) AllReadyH.nil
        refine store_at rfl (by rfl) 39 (.tmp 3) (.tmp 88) rfl w.heap.size #[a 0, a 1, a 2] rfl rfl 39 _ RR.out (by kernel_rfl) rfl HA1.out ?_
        have hs := solo_setRow wd w.heap.size #[a 0, a 1, a 2]
        have R9 := Lib.hid (setRow_heap wd w.heap.size _ #[a 0, a 1, a 2] 39 (0, 0) RR.out)
        generalize wd.setRow w.heap.size #[a 0, a 1, a 2] = w9 at *
        have O9 := Lib.hid (show OwnEvs (w.heap.size + 3) w9 _ us from ⟨own_solo OW.out.1 hs (by omega), fun x hx => typ_solo (OW.out.2 x hx) hs RR.out (by decide)⟩)
        have T9 := Lib.hid (fun j hj => typ_solo (TY.out j hj) hs RR.out (by decide))
        have B9 := Lib.hid (solo_below BB.out hs (Nat.le_refl _))
        refine hCONT.out _ _ ((hs.block _ (by omega)).trans hHeld) (fun hHeld => ?_)
        clear hCONT CONT hs
        refine wpAnyH_done (by kernel_rfl) ?_ _
        go_wp2
        exact bodyPost_ret (results_2cell Tryz.results20 _ _ w.heap.size 39 _ (0, 0) _ _ rfl rfl R9.out Tryz.underlying39 rfl (by kernel_rfl)) rfl ⟨_, a, rfl, by rw [← hHS.out.2.1]; exact evs_of_own O9.out, T9.out, B9.out⟩
      · have q0 : ¬ (k : Int) < (n : Int) := by omega
        clear q9 hr hkn hk40 hk1
        go_upto_region 18 with fail
        refine wp_region_held_drew (S := fun w' => w'.heap[w.heap.size + 1]? = some (.cells #[a 0, a 1, a 2] 39 (0, 0))) (by kernel_rfl) (show wr.drew.heap[w.heap.size + 1]? = _ from HRR.out.2.1) (fun hHeld => ?_)
        have hd0 : Below wr.heap.size wr wr.drew := drawS (Below.refl _ _)
        have RR := Lib.hid (show wr.drew.heap[w.heap.size]? = _ from HRR.out.1)
        have OW := Lib.hid (show OwnEvs (w.heap.size + 3) wr.drew _ us from ⟨own_below hHS.out.1.1 hd0, fun x hx => typ_below (hHS.out.1.2 x hx) hd0⟩)
        have TY := Lib.hid (fun j hj => typ_below (hHS.out.2.2 j hj) hd0)
        have BB := Lib.hid (below_next HRR.out.2.2 hd0)
        clear hd0
        generalize wr.drew = wd at *
        refine take_at (i := 0) 87 rfl rfl (by kernel_rfl) (by kernel_rfl) (by kernel_rfl) (fun _ _ _ h => h) (sure_yes (by rfl) (fun w => by go_simp; try with_reducible rfl)) hHeld ?_
        simp only [List.setIfInBounds_toArray, List.set_cons_zero, List.set_cons_succ]
        refine take_at (i := 1) 88 rfl rfl (by kernel_rfl) (by kernel_rfl) (by kernel_rfl) (fun _ _ _ h => h) (row_yields (by rfl) 39 (.tmp 4) rfl (w.heap.size + 1) rfl 39 #[a 0, a 1, a 2] (0, 0) _ Tryz.underlying39 rfl (by kernel_rfl) (fun _ h => h)) hHeld ?_
        simp only [List.setIfInBounds_toArray, List.set_cons_zero, List.set_cons_succ]
        refine take_at (i := 2) 2 rfl rfl (by kernel_rfl) (by kernel_rfl) (by kernel_rfl) (fun _ _ _ h => h) (sure_yes (by rfl) (fun w => by go_simp; try with_reducible rfl)) hHeld ?_
        simp only [List.setIfInBounds_toArray, List.set_cons_zero, List.set_cons_succ]
        refine wpAnyH_ready (rs := [3]) (by kernel_rfl) (by simp) ?_
        refine AllReadyH.cons rfl (fun CONT hCONT => ?_) AllReadyH.nil
        refine store_at rfl (by rfl) 39 (.tmp 3) (.tmp 88) rfl w.heap.size #[a 0, a 1, a 2] rfl rfl 39 _ RR.out (by kernel_rfl) rfl HA1.out ?_
        have hs := solo_setRow wd w.heap.size #[a 0, a 1, a 2]
        have R9 := Lib.hid (setRow_heap wd w.heap.size _ #[a 0, a 1, a 2] 39 (0, 0) RR.out)
        generalize wd.setRow w.heap.size #[a 0, a 1, a 2] = w9 at *
        have O9 := Lib.hid (show OwnEvs (w.heap.size + 3) w9 _ us from ⟨own_solo OW.out.1 hs (by omega), fun x hx => typ_solo (OW.out.2 x hx) hs RR.out (by decide)⟩)
        have T9 := Lib.hid (fun j hj => typ_solo (TY.out j hj) hs RR.out (by decide))
        have B9 := Lib.hid (solo_below BB.out hs (Nat.le_refl _))
        refine hCONT.out _ _ ((hs.block _ (by omega)).trans hHeld) (fun hHeld => ?_)
        clear hCONT CONT hs
        refine wpAnyH_done (by kernel_rfl) ?_ _
        go_wp2
        exact bodyPost_ret (results_2cell Tryz.results20 _ _ w.heap.size 39 _ (0, 0) _ _ rfl rfl R9.out Tryz.underlying39 rfl (by kernel_rfl)) rfl ⟨_, a, rfl, by rw [← hHS.out.2.1]; exact evs_of_own O9.out, T9.out, B9.out⟩
end Go.Proofs.YtcdjkjadbhejpaaGreatDoor
