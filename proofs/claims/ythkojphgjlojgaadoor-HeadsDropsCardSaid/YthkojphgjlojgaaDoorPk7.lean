/-
Texts that all claims of this seat share, part 7: HeadsMayAll, CloneDots, HeadsFns.
-/
import Derived.WideMake
import Derived.Laws.AppendOwn
import Derived.OwnWalk
import Derived.Lib.SliceRun
import Derived.Test.YthkojphgjlojgaaDoorPk6
namespace Go.Proofs.YthkojphgjlojgaaDoor
open Go.RowKit
attribute [local go_sem] run_makeMap_plain
theorem map_below13 {w w' : World} {b n : Nat} {D : DataW Unit} (h : w.ownsMap Tryd.prog 32 unitElem b n D) (hb : Below w.heap.size w w') : w'.ownsMap Tryd.prog 32 unitElem b n D := by
  obtain ⟨es, clock, h1, h2⟩ := h
  exact ⟨es, clock, (hb.block b (Array.getElem?_eq_some_iff.1 h1).1).trans h1, h2⟩
theorem few_max13 {k : Nat} (h : k ≤ 50000) : k < maxLen := Nat.lt_of_le_of_lt h (by unfold maxLen; decide)
theorem holdsU_room {w : World} {ad : Addr} {n cap : Nat} {us : List (Ev × Value)} (h : HoldsU w (.slice (some ad) n cap) us) : n ≤ cap := by
  obtain ⟨ao', cap', e, hnil, hc⟩ := h
  simp only [Value.slice.injEq] at e
  obtain ⟨h1, h2, h3⟩ := e
  have := (hc ad h1.symm).1
  omega
theorem mayHs_bad {l : List Ev} {i : Nat} {e : Ev} (he : l[i]? = some e) (h : (∃ f ∈ l.take i, f.r = e.r ∧ f.q = e.q) ∨ mayE e = false ∨ folB (l.take i) e = false) : mayHs l = false := mayHs_not fun H => by
  obtain ⟨h1, h2⟩ := heads_at H he
  rcases h with ⟨f, hf, a, b⟩ | h | h
  · exact heads_twice H he hf a b
  · rw [h1] at h; cases h
  · rw [(folB_iff _ _).2 h2] at h; cases h
theorem mayHs_more {l : List Ev} {i : Nat} {e : Ev} (he : l[i]? = some e) (hh : Heads (l.take i)) (h1 : ∀ f ∈ l.take i, ¬ (f.r = e.r ∧ f.q = e.q)) (h2 : mayE e = true) (h3 : folB (l.take i) e = true) : Heads (l.take (i + 1)) := by
  rw [List.take_add_one, he]
  exact (heads_snoc _ e).2 ⟨hh, fun f hf => by
    cases hd : dotE f e with
    | false => rfl
    | true => exact absurd ((dotE_iff f e).1 hd) (h1 f hf), h2, (folB_iff _ _).1 h3⟩
theorem takeDots {l : List Ev} {i : Nat} {e : Ev} (he : l[i]? = some e) : l.take (i + 1) = l.take i ++ [e] := by
  rw [List.take_add_one, he]; rfl
set_option maxRecDepth 100000 in
set_option maxHeartbeats 16000000 in
theorem may_heads13 (us : List (Ev × Value)) (hl : us.length ≤ 50000) (hf : FitU us) (v : Value) (w : World) (hv : HoldsU w v us) (hd : DepsU w us) (hT : PowTab w) : Calls Tryd.prog 13 #[v] w fun x w' => x = .returned (.bool (mayHs (us.map (·.1)))) ∧ Below w.heap.size w w' := by
  obtain ⟨n, hn⟩ : ∃ n, n = us.length := ⟨_, rfl⟩
  have hn5 : n ≤ 50000 := by omega
  have HN := Lib.hid hn
  obtain ⟨ao, cap, hvs⟩ := holdsU_shape hv n hn
  subst hvs
  have HV := Lib.hid hv
  have HD := Lib.hid hd
  have HT := Lib.hid hT
  have HF := Lib.hid hf
  clear hl hf hv hd hT hn
  go_enter Tryd.func13, Tryd.ntmps13
  go_wp2
  go_loopw [4, 5, 6, 7, 11] (fun _ _ _ _ c wr => ∃ i : Nat, i ≤ n ∧ c = .int .i64 (i : Int) ∧ Heads ((us.map (·.1)).take i) ∧ DotSet wr w.heap.size i ((us.map (·.1)).take i) ∧ Below w.heap.size w wr ∧ w.heap.size < wr.heap.size) (fun _ _ _ _ c _ => n - (intOf c).toNat)
  case atStart => exact ⟨0, Nat.zero_le _, rfl, heads_nil, dotSet_made w, (Below.refl _ _).alloc (Nat.le_refl _) _, by simp⟩
  case round =>
    obtain ⟨i, hi, rfl, hh, ⟨D, ho, hD⟩, hb, hlt⟩ := hrel
    by_cases hin : i < n
    · obtain ⟨x, hx⟩ : ∃ x, us[i]? = some x := ⟨_, List.getElem?_eq_getElem (by have := HN.out; omega)⟩
      obtain ⟨ad, cap', e1, hc⟩ := holdsU_at (holdsU_below HV.out hb) n i HN.out.symm x hx
      cases e1
      have hu := HD.out x (List.mem_of_getElem? hx)
      have hfx := HF.out x (List.mem_of_getElem? hx)
      have hex := fst_atM hx
      obtain ⟨e, u⟩ := x
      dsimp only at hc hu hfx hex
      obtain ⟨uo, uc, rfl⟩ := dots_shape hu e.deps.length rfl
      obtain ⟨un, hun⟩ : ∃ k, k = e.deps.length := ⟨_, rfl⟩
      rw [← hun] at hc hu
      obtain ⟨kl, hk⟩ := dot_key e.r e.q hfx.1 hfx.2.1
      have HC := Lib.hid hc
      have HU := Lib.hid hu
      have HE := Lib.hid hex
      have HK := Lib.hid hk
      have HO := Lib.hid ho
      have HOA := Lib.hid ho
      have HDS := Lib.hid hD
      have HB := Lib.hid hb
      have HLT := Lib.hid hlt
      have HH := Lib.hid hh
      have B1 := Lib.hid ((Below.refl wr.heap.size wr))
      have HM := Lib.hid (few_max13 (Nat.le_trans hi hn5))
      have hin1 : i ≤ n := hi
      have hic : (i : Int) ≤ (cap : Int) := by have := holdsU_room HV.out; omega
      have hi0 : 0 ≤ (i : Int) := by omega
      have q0 : (i : Int) < (n : Int) := by omega
      have HDT := Lib.hid (show DepsU w (us.take i) from fun y hy => HD.out y (List.mem_of_mem_take hy))
      have MY := Lib.hid (fun w hv hT => may_any12 ownSays e hfx.2.2.1 hfx.2.2.2 (.slice uo un uc) w hv hT)
      have FO := Lib.hid (fun w hv hd hu => follow_any13 (us.take i) (by have := HN.out; rw [List.length_take]; omega) (fun y hy => HF.out y (List.mem_of_mem_take hy)) e hfx (.slice (some ad) i cap) (.slice uo un uc) w hv hd hu (by rw [List.map_take]; exact heads_rises HH.out))
      rw [List.map_take] at FO
      obtain ⟨tw, htw⟩ : ∃ b, Maps.has D kl = b := ⟨_, rfl⟩
      have HTW := Lib.hid htw
      obtain ⟨my, hmy⟩ : ∃ b, mayE e = b := ⟨_, rfl⟩
      have HMY := Lib.hid hmy
      obtain ⟨fo, hfo⟩ : ∃ b, folB ((us.map (·.1)).take i) e = b := ⟨_, rfl⟩
      have HFO := Lib.hid hfo
      rw [hmy] at MY
      rw [hfo] at FO
      clear hx hc hu hfx hex hun hk ho hD hb hlt hh htw hmy hfo hi
      cases tw with
      | true =>
        have HX := Lib.hid (show mayHs (us.map (·.1)) = false from mayHs_bad HE.out (.inl ((HDS.out _ _ _ HK.out).1 HTW.out)))
        go_upto_region 6 with (first
          | (refine load_evA_on (by rfl) 36 (.tmp 14) rfl (ad.add (i * 38)) rfl Tryd.underlying36 evSize HC.out ?_)
          | (refine store_new rfl 36 (.tmp 5) (.tmp 15) rfl rfl wr _ (evC e (.slice uo un uc)) 36 rfl rfl rfl (by rw [evSize, evC_size]) (by rw [evC_size]; rfl) (evC_one _ _ rfl) ?_; rintro W2 hg hb hlt; have E2 := Lib.hid (show EvAt W2 wr.heap.size 36 e (.slice uo un uc) from hg); have B2 := Lib.hid hb; clear hg hb hlt)
          | (refine load_dot10 (by rfl) 32 (.tmp 18) rfl ⟨wr.heap.size, 0, none⟩ rfl e.r e.q Tryd.underlying32 (by kernel_rfl) (evAt_dot E2.out) ?_)
          | (at_lookup; refine wpList_lookup_own_unit _ rfl (.tmp 17) (.tmp 19) 62 rfl 32 63 dot_law Tryd.underlying62 (by rfl) w.heap.size i D rfl (map_below13 (map_below13 HO.out B1.out) B2.out) _ kl rfl HK.out ?_; rw [HTW.out])
          | fail)
        have h0 := (Below.refl W2.heap.size W2).alloc (Nat.le_refl _) (.cells #[] 63 (0, 0))
        generalize W2.alloc (.cells #[] 63 (0, 0)) = W3 at h0 ⊢
        have E3 := Lib.hid (evAt_kept E2.out h0)
        have B3 := Lib.hid (below_next B2.out h0)
        have BT := Lib.hid (below_next HB.out (below_next B2.out h0))
        clear h0 E2 B2
        have HU3 := Lib.hid (dots_below HU.out BT.out)
        have HT3 := Lib.hid (powTab_below HT.out BT.out)
        have HV3 := Lib.hid (holdsU_below (holdsU_take HV.out i hin1) BT.out)
        have HD3 := Lib.hid (depsU_below HDT.out BT.out)
        have HO3 := Lib.hid (map_below13 HO.out B3.out)
        clear HU HT HV HD HDT HO
        refine wp_region_held_drew (S := fun w' => Below W3.heap.size W3 w') (by kernel_rfl) (drawS (Below.refl _ _)) (fun hHeld => ?_)
        generalize W3.drew = wd at hHeld ⊢
        refine take_at (i := 0) 23 rfl rfl (by kernel_rfl) (by kernel_rfl) (by kernel_rfl) (fun _ _ _ h => h) (sure_yes (by rfl) (fun w => by go_simp; try with_reducible rfl)) hHeld ?_
        simp only [List.setIfInBounds_toArray, List.set_cons_zero, List.set_cons_succ]
        refine take_at (i := 1) 24 rfl rfl (by kernel_rfl) (by kernel_rfl) (by kernel_rfl) (fun _ _ _ h => h) (sure_yes (by rfl) (fun w => by go_simp; try with_reducible rfl)) hHeld ?_
        simp only [List.setIfInBounds_toArray, List.set_cons_zero, List.set_cons_succ]
        refine take_at (i := 2) 25 rfl rfl (by kernel_rfl) (by kernel_rfl) (by kernel_rfl) (fun _ _ _ h => h) (.inr ⟨by rfl, rfl⟩) hHeld ?_
        simp only [List.setIfInBounds_toArray, List.set_cons_zero, List.set_cons_succ]
        refine take_at (i := 3) 26 rfl rfl (by kernel_rfl) (by kernel_rfl) (by kernel_rfl) (fun _ _ _ h => h) (.inr ⟨by rfl, rfl⟩) hHeld ?_
        simp only [List.setIfInBounds_toArray, List.set_cons_zero, List.set_cons_succ]
        refine take_at (i := 4) 27 rfl rfl (by kernel_rfl) (by kernel_rfl) (by kernel_rfl) (fun _ _ _ h => h) (.inr ⟨by rfl, rfl⟩) hHeld ?_
        simp only [List.setIfInBounds_toArray, List.set_cons_zero, List.set_cons_succ]
        refine take_at (i := 5) 28 rfl rfl (by kernel_rfl) (by kernel_rfl) (by kernel_rfl) (fun _ _ _ h => h) (sure_yes (by rfl) (fun w => by go_simp; try with_reducible rfl)) hHeld ?_
        simp only [List.setIfInBounds_toArray, List.set_cons_zero, List.set_cons_succ]
        refine take_at (i := 6) 29 rfl rfl (by kernel_rfl) (by kernel_rfl) (by kernel_rfl) (fun _ _ _ h => h) (sure_yes (by rfl) (fun w => by go_simp; try with_reducible rfl)) hHeld ?_
        simp only [List.setIfInBounds_toArray, List.set_cons_zero, List.set_cons_succ]
        refine take_at (i := 7) 30 rfl rfl (by kernel_rfl) (by kernel_rfl) (by kernel_rfl) (fun _ _ _ h => h) (.inr ⟨by rfl, rfl⟩) hHeld ?_
        simp only [List.setIfInBounds_toArray, List.set_cons_zero, List.set_cons_succ]
        refine take_at (i := 8) 31 rfl rfl (by kernel_rfl) (by kernel_rfl) (by kernel_rfl) (fun _ _ _ h => h) (.inr ⟨by rfl, rfl⟩) hHeld ?_
        simp only [List.setIfInBounds_toArray, List.set_cons_zero, List.set_cons_succ]
        refine take_at (i := 9) 32 rfl rfl (by kernel_rfl) (by kernel_rfl) (by kernel_rfl) (fun _ _ _ h => h) (.inr ⟨by rfl, rfl⟩) hHeld ?_
        simp only [List.setIfInBounds_toArray, List.set_cons_zero, List.set_cons_succ]
        refine take_at (i := 10) 33 rfl rfl (by kernel_rfl) (by kernel_rfl) (by kernel_rfl) (fun _ _ _ h => h) (.inr ⟨by rfl, rfl⟩) hHeld ?_
        simp only [List.setIfInBounds_toArray, List.set_cons_zero, List.set_cons_succ]
        refine take_at (i := 11) 34 rfl rfl (by kernel_rfl) (by kernel_rfl) (by kernel_rfl) (fun _ _ _ h => h) (.inr ⟨by rfl, rfl⟩) hHeld ?_
        simp only [List.setIfInBounds_toArray, List.set_cons_zero, List.set_cons_succ]
        refine take_at (i := 12) 35 rfl rfl (by kernel_rfl) (by kernel_rfl) (by kernel_rfl) (fun _ _ _ h => h) (.inr ⟨by rfl, rfl⟩) hHeld ?_
        simp only [List.setIfInBounds_toArray, List.set_cons_zero, List.set_cons_succ]
        refine take_at (i := 13) 36 rfl rfl (by kernel_rfl) (by kernel_rfl) (by kernel_rfl) (fun _ _ _ h => h) (sure_yes (by rfl) (fun w => by go_simp; try with_reducible rfl)) hHeld ?_
        simp only [List.setIfInBounds_toArray, List.set_cons_zero, List.set_cons_succ]
        refine wpAnyH_done (by kernel_rfl) ?_ _
        have HZ := Lib.hid hHeld
        clear hHeld
        go_wp2
        go_ret
        exact ⟨by rw [HX.out]; rfl, below_next BT.out HZ.out⟩
      | false =>
        cases my with
        | false =>
          have HX := Lib.hid (show mayHs (us.map (·.1)) = false from mayHs_bad HE.out (.inr (.inl HMY.out)))
          go_upto_region 6 with (first
            | (refine load_evA_on (by rfl) 36 (.tmp 14) rfl (ad.add (i * 38)) rfl Tryd.underlying36 evSize HC.out ?_)
            | (refine store_new rfl 36 (.tmp 5) (.tmp 15) rfl rfl wr _ (evC e (.slice uo un uc)) 36 rfl rfl rfl (by rw [evSize, evC_size]) (by rw [evC_size]; rfl) (evC_one _ _ rfl) ?_; rintro W2 hg hb hlt; have E2 := Lib.hid (show EvAt W2 wr.heap.size 36 e (.slice uo un uc) from hg); have B2 := Lib.hid hb; clear hg hb hlt)
            | (refine load_dot10 (by rfl) 32 (.tmp 18) rfl ⟨wr.heap.size, 0, none⟩ rfl e.r e.q Tryd.underlying32 (by kernel_rfl) (evAt_dot E2.out) ?_)
            | (at_lookup; refine wpList_lookup_own_unit _ rfl (.tmp 17) (.tmp 19) 62 rfl 32 63 dot_law Tryd.underlying62 (by rfl) w.heap.size i D rfl (map_below13 (map_below13 HO.out B1.out) B2.out) _ kl rfl HK.out ?_; rw [HTW.out])
            | fail)
          have h0 := (Below.refl W2.heap.size W2).alloc (Nat.le_refl _) (.cells #[] 63 (0, 0))
          generalize W2.alloc (.cells #[] 63 (0, 0)) = W3 at h0 ⊢
          have E3 := Lib.hid (evAt_kept E2.out h0)
          have B3 := Lib.hid (below_next B2.out h0)
          have BT := Lib.hid (below_next HB.out (below_next B2.out h0))
          clear h0 E2 B2
          have HU3 := Lib.hid (dots_below HU.out BT.out)
          have HT3 := Lib.hid (powTab_below HT.out BT.out)
          have HV3 := Lib.hid (holdsU_below (holdsU_take HV.out i hin1) BT.out)
          have HD3 := Lib.hid (depsU_below HDT.out BT.out)
          have HO3 := Lib.hid (map_below13 HO.out B3.out)
          clear HU HT HV HD HDT HO
          refine wp_region_held_drew (S := fun w' => Below W3.heap.size W3 w') (by kernel_rfl) (drawS (Below.refl _ _)) (fun hHeld => ?_)
          generalize W3.drew = wd at hHeld ⊢
          refine take_at (i := 0) 23 rfl rfl (by kernel_rfl) (by kernel_rfl) (by kernel_rfl) (fun _ _ _ h => h) (sure_yes (by rfl) (fun w => by go_simp; try with_reducible rfl)) hHeld ?_
          simp only [List.setIfInBounds_toArray, List.set_cons_zero, List.set_cons_succ]
          refine take_at (i := 1) 24 rfl rfl (by kernel_rfl) (by kernel_rfl) (by kernel_rfl) (fun _ _ _ h => h) (sure_yes (by rfl) (fun w => by go_simp; try with_reducible rfl)) hHeld ?_
          simp only [List.setIfInBounds_toArray, List.set_cons_zero, List.set_cons_succ]
          refine take_at (i := 2) 25 rfl rfl (by kernel_rfl) (by kernel_rfl) (by kernel_rfl) (fun _ _ _ h => h) (evA_yields (by rfl) 36 (.tmp 5) rfl ⟨wr.heap.size, 0, none⟩ rfl Tryd.underlying36 evSize (fun w h j u hu => cell_under12 (by rw [Addr.add_lit, Nat.zero_add]; exact evAt_cell E3.out j u hu) h)) hHeld ?_
          simp only [List.setIfInBounds_toArray, List.set_cons_zero, List.set_cons_succ]
          refine ready_call1 3 26 (by kernel_rfl) rfl rfl (by rfl) 8 (.tmp 25) 36 rfl (.agg (evC e (.slice uo un uc))) rfl (enters_of Tryd.func8 (by kernel_rfl) rfl) _ (MY.out _ (dots_below HU3.out hHeld) (powTab_below HT3.out hHeld)) (fun x wz hp => ?_)
          obtain ⟨rfl, hb⟩ := hp
          refine ⟨_, rfl, below_next hHeld hb, ?_⟩
          replace hHeld := below_next hHeld hb
          clear hb
          simp only [List.setIfInBounds_toArray, List.set_cons_zero, List.set_cons_succ]
          refine take_at (i := 4) 27 rfl rfl (by kernel_rfl) (by kernel_rfl) (by kernel_rfl) (fun _ _ _ h => h) (sure_yes (by rfl) (fun w => by go_simp; try with_reducible rfl)) hHeld ?_
          simp only [List.setIfInBounds_toArray, List.set_cons_zero, List.set_cons_succ]
          refine take_at (i := 5) 28 rfl rfl (by kernel_rfl) (by kernel_rfl) (by kernel_rfl) (fun _ _ _ h => h) (sure_yes (by rfl) (fun w => by go_simp; try with_reducible rfl)) hHeld ?_
          simp only [List.setIfInBounds_toArray, List.set_cons_zero, List.set_cons_succ]
          refine take_at (i := 6) 29 rfl rfl (by kernel_rfl) (by kernel_rfl) (by kernel_rfl) (fun _ _ _ h => h) (sure_yes (by rfl) (fun w => by go_simp; try with_reducible rfl)) hHeld ?_
          simp only [List.setIfInBounds_toArray, List.set_cons_zero, List.set_cons_succ]
          refine take_at (i := 7) 30 rfl rfl (by kernel_rfl) (by kernel_rfl) (by kernel_rfl) (fun _ _ _ h => h) (.inr ⟨by rfl, rfl⟩) hHeld ?_
          simp only [List.setIfInBounds_toArray, List.set_cons_zero, List.set_cons_succ]
          refine take_at (i := 8) 31 rfl rfl (by kernel_rfl) (by kernel_rfl) (by kernel_rfl) (fun _ _ _ h => h) (.inr ⟨by rfl, rfl⟩) hHeld ?_
          simp only [List.setIfInBounds_toArray, List.set_cons_zero, List.set_cons_succ]
          refine take_at (i := 9) 32 rfl rfl (by kernel_rfl) (by kernel_rfl) (by kernel_rfl) (fun _ _ _ h => h) (.inr ⟨by rfl, rfl⟩) hHeld ?_
          simp only [List.setIfInBounds_toArray, List.set_cons_zero, List.set_cons_succ]
          refine take_at (i := 10) 33 rfl rfl (by kernel_rfl) (by kernel_rfl) (by kernel_rfl) (fun _ _ _ h => h) (.inr ⟨by rfl, rfl⟩) hHeld ?_
          simp only [List.setIfInBounds_toArray, List.set_cons_zero, List.set_cons_succ]
          refine take_at (i := 11) 34 rfl rfl (by kernel_rfl) (by kernel_rfl) (by kernel_rfl) (fun _ _ _ h => h) (.inr ⟨by rfl, rfl⟩) hHeld ?_
          simp only [List.setIfInBounds_toArray, List.set_cons_zero, List.set_cons_succ]
          refine take_at (i := 12) 35 rfl rfl (by kernel_rfl) (by kernel_rfl) (by kernel_rfl) (fun _ _ _ h => h) (.inr ⟨by rfl, rfl⟩) hHeld ?_
          simp only [List.setIfInBounds_toArray, List.set_cons_zero, List.set_cons_succ]
          refine take_at (i := 13) 36 rfl rfl (by kernel_rfl) (by kernel_rfl) (by kernel_rfl) (fun _ _ _ h => h) (sure_yes (by rfl) (fun w => by go_simp; try with_reducible rfl)) hHeld ?_
          simp only [List.setIfInBounds_toArray, List.set_cons_zero, List.set_cons_succ]
          refine wpAnyH_done (by kernel_rfl) ?_ _
          have HZ := Lib.hid hHeld
          clear hHeld
          go_wp2
          go_ret
          exact ⟨by rw [HX.out]; rfl, below_next BT.out HZ.out⟩
        | true =>
          cases fo with
          | false =>
            have HX := Lib.hid (show mayHs (us.map (·.1)) = false from mayHs_bad HE.out (.inr (.inr HFO.out)))
            go_upto_region 6 with (first
              | (refine load_evA_on (by rfl) 36 (.tmp 14) rfl (ad.add (i * 38)) rfl Tryd.underlying36 evSize HC.out ?_)
              | (refine store_new rfl 36 (.tmp 5) (.tmp 15) rfl rfl wr _ (evC e (.slice uo un uc)) 36 rfl rfl rfl (by rw [evSize, evC_size]) (by rw [evC_size]; rfl) (evC_one _ _ rfl) ?_; rintro W2 hg hb hlt; have E2 := Lib.hid (show EvAt W2 wr.heap.size 36 e (.slice uo un uc) from hg); have B2 := Lib.hid hb; clear hg hb hlt)
              | (refine load_dot10 (by rfl) 32 (.tmp 18) rfl ⟨wr.heap.size, 0, none⟩ rfl e.r e.q Tryd.underlying32 (by kernel_rfl) (evAt_dot E2.out) ?_)
              | (at_lookup; refine wpList_lookup_own_unit _ rfl (.tmp 17) (.tmp 19) 62 rfl 32 63 dot_law Tryd.underlying62 (by rfl) w.heap.size i D rfl (map_below13 (map_below13 HO.out B1.out) B2.out) _ kl rfl HK.out ?_; rw [HTW.out])
              | fail)
            have h0 := (Below.refl W2.heap.size W2).alloc (Nat.le_refl _) (.cells #[] 63 (0, 0))
            generalize W2.alloc (.cells #[] 63 (0, 0)) = W3 at h0 ⊢
            have E3 := Lib.hid (evAt_kept E2.out h0)
            have B3 := Lib.hid (below_next B2.out h0)
            have BT := Lib.hid (below_next HB.out (below_next B2.out h0))
            clear h0 E2 B2
            have HU3 := Lib.hid (dots_below HU.out BT.out)
            have HT3 := Lib.hid (powTab_below HT.out BT.out)
            have HV3 := Lib.hid (holdsU_below (holdsU_take HV.out i hin1) BT.out)
            have HD3 := Lib.hid (depsU_below HDT.out BT.out)
            have HO3 := Lib.hid (map_below13 HO.out B3.out)
            clear HU HT HV HD HDT HO
            refine wp_region_held_drew (S := fun w' => Below W3.heap.size W3 w') (by kernel_rfl) (drawS (Below.refl _ _)) (fun hHeld => ?_)
            generalize W3.drew = wd at hHeld ⊢
            refine take_at (i := 0) 23 rfl rfl (by kernel_rfl) (by kernel_rfl) (by kernel_rfl) (fun _ _ _ h => h) (sure_yes (by rfl) (fun w => by go_simp; try with_reducible rfl)) hHeld ?_
            simp only [List.setIfInBounds_toArray, List.set_cons_zero, List.set_cons_succ]
            refine take_at (i := 1) 24 rfl rfl (by kernel_rfl) (by kernel_rfl) (by kernel_rfl) (fun _ _ _ h => h) (sure_yes (by rfl) (fun w => by go_simp; try with_reducible rfl)) hHeld ?_
            simp only [List.setIfInBounds_toArray, List.set_cons_zero, List.set_cons_succ]
            refine take_at (i := 2) 25 rfl rfl (by kernel_rfl) (by kernel_rfl) (by kernel_rfl) (fun _ _ _ h => h) (evA_yields (by rfl) 36 (.tmp 5) rfl ⟨wr.heap.size, 0, none⟩ rfl Tryd.underlying36 evSize (fun w h j u hu => cell_under12 (by rw [Addr.add_lit, Nat.zero_add]; exact evAt_cell E3.out j u hu) h)) hHeld ?_
            simp only [List.setIfInBounds_toArray, List.set_cons_zero, List.set_cons_succ]
            refine ready_call1 3 26 (by kernel_rfl) rfl rfl (by rfl) 8 (.tmp 25) 36 rfl (.agg (evC e (.slice uo un uc))) rfl (enters_of Tryd.func8 (by kernel_rfl) rfl) _ (MY.out _ (dots_below HU3.out hHeld) (powTab_below HT3.out hHeld)) (fun x wz hp => ?_)
            obtain ⟨rfl, hb⟩ := hp
            refine ⟨_, rfl, below_next hHeld hb, ?_⟩
            replace hHeld := below_next hHeld hb
            clear hb
            simp only [List.setIfInBounds_toArray, List.set_cons_zero, List.set_cons_succ]
            refine take_at (i := 4) 27 rfl rfl (by kernel_rfl) (by kernel_rfl) (by kernel_rfl) (fun _ _ _ h => h) (sure_yes (by rfl) (fun w => by go_simp; try with_reducible rfl)) hHeld ?_
            simp only [List.setIfInBounds_toArray, List.set_cons_zero, List.set_cons_succ]
            refine take_at (i := 5) 28 rfl rfl (by kernel_rfl) (by kernel_rfl) (by kernel_rfl) (fun _ _ _ h => h) (sure_yes (by rfl) (fun w => by go_simp; try with_reducible rfl)) hHeld ?_
            simp only [List.setIfInBounds_toArray, List.set_cons_zero, List.set_cons_succ]
            refine take_at (i := 6) 29 rfl rfl (by kernel_rfl) (by kernel_rfl) (by kernel_rfl) (fun _ _ _ h => h) (sure_yes (by rfl) (fun w => by go_simp; try with_reducible rfl)) hHeld ?_
            simp only [List.setIfInBounds_toArray, List.set_cons_zero, List.set_cons_succ]
            refine take_at (i := 7) 30 rfl rfl (by kernel_rfl) (by kernel_rfl) (by kernel_rfl) (fun _ _ _ h => h) (sure_yes (by rfl) (fun w => by go_simp; try with_reducible rfl)) hHeld ?_
            simp only [List.setIfInBounds_toArray, List.set_cons_zero, List.set_cons_succ]
            refine take_at (i := 8) 31 rfl rfl (by kernel_rfl) (by kernel_rfl) (by kernel_rfl) (fun _ _ _ h => h) (sure_yes (by rfl) (fun w => by go_simp; try with_reducible rfl)) hHeld ?_
            simp only [List.setIfInBounds_toArray, List.set_cons_zero, List.set_cons_succ]
            refine take_at (i := 9) 32 rfl rfl (by kernel_rfl) (by kernel_rfl) (by kernel_rfl) (fun _ _ _ h => h) (sure_yes (by rfl) (fun w => by go_simp; try with_reducible rfl)) hHeld ?_
            simp only [List.setIfInBounds_toArray, List.set_cons_zero, List.set_cons_succ]
            refine take_at (i := 10) 33 rfl rfl (by kernel_rfl) (by kernel_rfl) (by kernel_rfl) (fun _ _ _ h => h) (evA_yields (by rfl) 36 (.tmp 5) rfl ⟨wr.heap.size, 0, none⟩ rfl Tryd.underlying36 evSize (fun w h j u hu => cell_under12 (by rw [Addr.add_lit, Nat.zero_add]; exact evAt_cell E3.out j u hu) h)) hHeld ?_
            simp only [List.setIfInBounds_toArray, List.set_cons_zero, List.set_cons_succ]
            refine ready_call2 11 34 (by kernel_rfl) rfl rfl (by rfl) 33 (.tmp 32) (.tmp 33) 24 36 rfl (.slice (some ad) i cap) (.agg (evC e (.slice uo un uc))) rfl rfl (enters_of Tryd.func33 (by kernel_rfl) rfl) _ (FO.out _ (holdsU_below HV3.out hHeld) (depsU_below HD3.out hHeld) (dots_below HU3.out hHeld)) (fun x wz hp => ?_)
            obtain ⟨rfl, hb⟩ := hp
            refine ⟨_, rfl, below_next hHeld hb, ?_⟩
            replace hHeld := below_next hHeld hb
            clear hb
            simp only [List.setIfInBounds_toArray, List.set_cons_zero, List.set_cons_succ]
            refine take_at (i := 12) 35 rfl rfl (by kernel_rfl) (by kernel_rfl) (by kernel_rfl) (fun _ _ _ h => h) (sure_yes (by rfl) (fun w => by go_simp; try with_reducible rfl)) hHeld ?_
            simp only [List.setIfInBounds_toArray, List.set_cons_zero, List.set_cons_succ]
            refine take_at (i := 13) 36 rfl rfl (by kernel_rfl) (by kernel_rfl) (by kernel_rfl) (fun _ _ _ h => h) (sure_yes (by rfl) (fun w => by go_simp; try with_reducible rfl)) hHeld ?_
            simp only [List.setIfInBounds_toArray, List.set_cons_zero, List.set_cons_succ]
            refine wpAnyH_done (by kernel_rfl) ?_ _
            have HZ := Lib.hid hHeld
            clear hHeld
            go_wp2
            go_ret
            exact ⟨by rw [HX.out]; rfl, below_next BT.out HZ.out⟩
          | true =>
            have HH2 := Lib.hid (mayHs_more HE.out HH.out (fun f hf h => by
              have := (HDS.out _ _ _ HK.out).2 ⟨f, hf, h⟩
              rw [HTW.out] at this; cases this) HMY.out HFO.out)
            go_upto_region 6 with (first
              | (refine load_evA_on (by rfl) 36 (.tmp 14) rfl (ad.add (i * 38)) rfl Tryd.underlying36 evSize HC.out ?_)
              | (refine store_new rfl 36 (.tmp 5) (.tmp 15) rfl rfl wr _ (evC e (.slice uo un uc)) 36 rfl rfl rfl (by rw [evSize, evC_size]) (by rw [evC_size]; rfl) (evC_one _ _ rfl) ?_; rintro W2 hg hb hlt; have E2 := Lib.hid (show EvAt W2 wr.heap.size 36 e (.slice uo un uc) from hg); have B2 := Lib.hid hb; clear hg hb hlt)
              | (refine load_dot10 (by rfl) 32 (.tmp 18) rfl ⟨wr.heap.size, 0, none⟩ rfl e.r e.q Tryd.underlying32 (by kernel_rfl) (evAt_dot E2.out) ?_)
              | (at_lookup; refine wpList_lookup_own_unit _ rfl (.tmp 17) (.tmp 19) 62 rfl 32 63 dot_law Tryd.underlying62 (by rfl) w.heap.size i D rfl (map_below13 (map_below13 HO.out B1.out) B2.out) _ kl rfl HK.out ?_; rw [HTW.out])
              | fail)
            have h0 := (Below.refl W2.heap.size W2).alloc (Nat.le_refl _) (.cells #[] 63 (0, 0))
            generalize W2.alloc (.cells #[] 63 (0, 0)) = W3 at h0 ⊢
            have E3 := Lib.hid (evAt_kept E2.out h0)
            have B3 := Lib.hid (below_next B2.out h0)
            have BT := Lib.hid (below_next HB.out (below_next B2.out h0))
            clear h0 E2 B2
            have HU3 := Lib.hid (dots_below HU.out BT.out)
            have HT3 := Lib.hid (powTab_below HT.out BT.out)
            have HV3 := Lib.hid (holdsU_below (holdsU_take HV.out i hin1) BT.out)
            have HD3 := Lib.hid (depsU_below HDT.out BT.out)
            have HO3 := Lib.hid (map_below13 HO.out B3.out)
            clear HU HT HV HD HDT
            refine wp_region_held_drew (S := fun w' => Below W3.heap.size W3 w') (by kernel_rfl) (drawS (Below.refl _ _)) (fun hHeld => ?_)
            generalize W3.drew = wd at hHeld ⊢
            refine take_at (i := 0) 23 rfl rfl (by kernel_rfl) (by kernel_rfl) (by kernel_rfl) (fun _ _ _ h => h) (sure_yes (by rfl) (fun w => by go_simp; try with_reducible rfl)) hHeld ?_
            simp only [List.setIfInBounds_toArray, List.set_cons_zero, List.set_cons_succ]
            refine take_at (i := 1) 24 rfl rfl (by kernel_rfl) (by kernel_rfl) (by kernel_rfl) (fun _ _ _ h => h) (sure_yes (by rfl) (fun w => by go_simp; try with_reducible rfl)) hHeld ?_
            simp only [List.setIfInBounds_toArray, List.set_cons_zero, List.set_cons_succ]
            refine take_at (i := 2) 25 rfl rfl (by kernel_rfl) (by kernel_rfl) (by kernel_rfl) (fun _ _ _ h => h) (evA_yields (by rfl) 36 (.tmp 5) rfl ⟨wr.heap.size, 0, none⟩ rfl Tryd.underlying36 evSize (fun w h j u hu => cell_under12 (by rw [Addr.add_lit, Nat.zero_add]; exact evAt_cell E3.out j u hu) h)) hHeld ?_
            simp only [List.setIfInBounds_toArray, List.set_cons_zero, List.set_cons_succ]
            refine ready_call1 3 26 (by kernel_rfl) rfl rfl (by rfl) 8 (.tmp 25) 36 rfl (.agg (evC e (.slice uo un uc))) rfl (enters_of Tryd.func8 (by kernel_rfl) rfl) _ (MY.out _ (dots_below HU3.out hHeld) (powTab_below HT3.out hHeld)) (fun x wz hp => ?_)
            obtain ⟨rfl, hb⟩ := hp
            refine ⟨_, rfl, below_next hHeld hb, ?_⟩
            replace hHeld := below_next hHeld hb
            clear hb
            simp only [List.setIfInBounds_toArray, List.set_cons_zero, List.set_cons_succ]
            refine take_at (i := 4) 27 rfl rfl (by kernel_rfl) (by kernel_rfl) (by kernel_rfl) (fun _ _ _ h => h) (sure_yes (by rfl) (fun w => by go_simp; try with_reducible rfl)) hHeld ?_
            simp only [List.setIfInBounds_toArray, List.set_cons_zero, List.set_cons_succ]
            refine take_at (i := 5) 28 rfl rfl (by kernel_rfl) (by kernel_rfl) (by kernel_rfl) (fun _ _ _ h => h) (sure_yes (by rfl) (fun w => by go_simp; try with_reducible rfl)) hHeld ?_
            simp only [List.setIfInBounds_toArray, List.set_cons_zero, List.set_cons_succ]
            refine take_at (i := 6) 29 rfl rfl (by kernel_rfl) (by kernel_rfl) (by kernel_rfl) (fun _ _ _ h => h) (sure_yes (by rfl) (fun w => by go_simp; try with_reducible rfl)) hHeld ?_
            simp only [List.setIfInBounds_toArray, List.set_cons_zero, List.set_cons_succ]
            refine take_at (i := 7) 30 rfl rfl (by kernel_rfl) (by kernel_rfl) (by kernel_rfl) (fun _ _ _ h => h) (sure_yes (by rfl) (fun w => by go_simp; try with_reducible rfl)) hHeld ?_
            simp only [List.setIfInBounds_toArray, List.set_cons_zero, List.set_cons_succ]
            refine take_at (i := 8) 31 rfl rfl (by kernel_rfl) (by kernel_rfl) (by kernel_rfl) (fun _ _ _ h => h) (sure_yes (by rfl) (fun w => by go_simp; try with_reducible rfl)) hHeld ?_
            simp only [List.setIfInBounds_toArray, List.set_cons_zero, List.set_cons_succ]
            refine take_at (i := 9) 32 rfl rfl (by kernel_rfl) (by kernel_rfl) (by kernel_rfl) (fun _ _ _ h => h) (sure_yes (by rfl) (fun w => by go_simp; try with_reducible rfl)) hHeld ?_
            simp only [List.setIfInBounds_toArray, List.set_cons_zero, List.set_cons_succ]
            refine take_at (i := 10) 33 rfl rfl (by kernel_rfl) (by kernel_rfl) (by kernel_rfl) (fun _ _ _ h => h) (evA_yields (by rfl) 36 (.tmp 5) rfl ⟨wr.heap.size, 0, none⟩ rfl Tryd.underlying36 evSize (fun w h j u hu => cell_under12 (by rw [Addr.add_lit, Nat.zero_add]; exact evAt_cell E3.out j u hu) h)) hHeld ?_
            simp only [List.setIfInBounds_toArray, List.set_cons_zero, List.set_cons_succ]
            refine ready_call2 11 34 (by kernel_rfl) rfl rfl (by rfl) 33 (.tmp 32) (.tmp 33) 24 36 rfl (.slice (some ad) i cap) (.agg (evC e (.slice uo un uc))) rfl rfl (enters_of Tryd.func33 (by kernel_rfl) rfl) _ (FO.out _ (holdsU_below HV3.out hHeld) (depsU_below HD3.out hHeld) (dots_below HU3.out hHeld)) (fun x wz hp => ?_)
            obtain ⟨rfl, hb⟩ := hp
            refine ⟨_, rfl, below_next hHeld hb, ?_⟩
            replace hHeld := below_next hHeld hb
            clear hb
            simp only [List.setIfInBounds_toArray, List.set_cons_zero, List.set_cons_succ]
            refine take_at (i := 12) 35 rfl rfl (by kernel_rfl) (by kernel_rfl) (by kernel_rfl) (fun _ _ _ h => h) (sure_yes (by rfl) (fun w => by go_simp; try with_reducible rfl)) hHeld ?_
            simp only [List.setIfInBounds_toArray, List.set_cons_zero, List.set_cons_succ]
            refine take_at (i := 13) 36 rfl rfl (by kernel_rfl) (by kernel_rfl) (by kernel_rfl) (fun _ _ _ h => h) (sure_yes (by rfl) (fun w => by go_simp; try with_reducible rfl)) hHeld ?_
            simp only [List.setIfInBounds_toArray, List.set_cons_zero, List.set_cons_succ]
            refine wpAnyH_done (by kernel_rfl) ?_ _
            have HZ := Lib.hid hHeld
            have HOZ := Lib.hid (map_below13 HO3.out hHeld)
            have EZ := Lib.hid (evAt_kept E3.out hHeld)
            clear hHeld
            go_wp2_with (first
              | (refine load_dot10 (by rfl) 32 (.tmp 38) rfl ⟨wr.heap.size, 0, none⟩ rfl e.r e.q Tryd.underlying32 (by kernel_rfl) (evAt_dot EZ.out) ?_)
              | (at_mapUpdate; refine wpList_mapUpdate_own _ rfl _ _ _ 62 rfl 32 63 dot_law Tryd.underlying62 (unitElem (H := Unit)) w.heap.size i _ rfl HOZ.out HM.out _ _ kl rfl rfl HK.out _ [] unitElem_mk ?_; intro w1 ho1 hg1; have HO1 := Lib.hid ho1; have HG1 := Lib.hid hg1; clear ho1 hg1))
            go_roundw
            case rel => exact ⟨i + 1, hin, by go_num, HH2.out, by rw [takeDots HE.out]; exact dotSet_put HO.out.isMap HDS.out HK.out HO1.out, (below_next BT.out HZ.out).grown HG1.out (by have := BT.out.size; have := HZ.out.size; omega) (fun j hj => by cases hj; exact Nat.le_refl _), by have := HG1.out.size; have := B3.out.size; have := HZ.out.size; have := HLT.out; omega⟩
            case measure => simp [intOf]; omega
    · obtain rfl : i = n := by omega
      have HX := Lib.hid (show mayHs (us.map (·.1)) = true from (mayHs_iff _).2 (by
        rw [List.take_of_length_le (by rw [List.length_map, HN.out]; exact Nat.le_refl _)] at hh
        exact hh))
      have HB := Lib.hid hb
      clear hh ho hD hb hlt hi
      go_wp2
      go_ret
      exact ⟨by rw [HX.out]; rfl, HB.out⟩
end Go.Proofs.YthkojphgjlojgaaDoor
namespace Go.Proofs.YthkojphgjlojgaaDoor
open Go.RowKit
theorem append_dotsM {P : Program} {w : World} {ops : Array Oper} {rest : List Oper} {o : Oper} {a : Act} {Q : Exit → Act → World → Prop} (hgd : o.guard = none) (s x : Operand) (t : TypeId)
    (ho : o.op = .call { callee := .builtin .append, args := #[s, x], argTypes := #[t, t] })
    (base : Nat) (e : TypeId) (i : TypeInfo) (ht : P.underlying t = some (.slice e)) (hi : P.info? e = some i) (hz : (i.zero.map (·.cells.size), i.size, i.bytes) = (some 2, 2, 16))
    (v : Value) (l m : List D2) (hs : a.eval s = v) (hown : w.ownsRow base e 2 v l.length (dotsC l)) (ad : Addr) (n c : Nat) (hx : a.eval x = .slice (some ad) n c) (hn : n = m.length)
    (hc : ∀ j u, (dotsC m)[j]? = some u → w.cell? (ad.add j) = some u)
    (hlen : l.length + m.length ≤ 2000000) (hbase : base ≤ w.heap.size)
    (h : ∀ v' w', w'.ownsRow base e 2 v' (l ++ m).length (dotsC (l ++ m)) → w.grownBy w' v.ownBlock → wpList P ops Q rest (a.put o.dst v') w') : wpList P ops Q (o :: rest) a w := by
  simp only [Prod.mk.injEq] at hz
  obtain ⟨hz1, hz2, hz3⟩ := hz
  cases hzz : i.zero with
  | none => rw [hzz] at hz1; cases hz1
  | some z =>
    rw [hzz] at hz1
    simp only [Option.map_some, Option.some.injEq] at hz1
    refine wpList_append_own w hgd s x t ho base e i z 2 16 ht hi hzz hz2 hz3 hz1 (by decide) v l.length (dotsC l) hs hown ad n c (dotsC m) hx (by rw [dotsC_length, hn]) hc (fun u hu => dotsC_one m u hu)
      (by unfold maxLen; omega) (by omega) hbase fun v' w' h1 h2 _ => h v' w' (by rw [dotsC_append, List.length_append, ← hn]; exact h1) h2
set_option maxRecDepth 100000 in
set_option maxHeartbeats 4000000 in
theorem cloneD_any (l : List D2) (hl : l.length < 2000000) (v : Value) (w : World) (hv : HasDots w v l) : Calls Tryd.prog 60 #[v] w fun e w' => ∃ x, e = .returned x ∧ TypDots w' x l ∧ Below w.heap.size w w' := by
  obtain ⟨i0, hi, hz⟩ := infoDot
  have q22 : ∀ (w : World) (a : Option Addr) (n c n' c' : Nat), (binOp .eql 26 (.slice a n c) (.slice none n' c')).run Tryd.prog w = .ok (.bool a.isNone) w := fun w a n c n' c' => Lib.run_eql_slice_nil w _ _ a n c n' c' Tryd.underlying26
  have u22 : ∀ w, Sem.run Tryd.prog (underlying 26) w = .ok (TypeDesc.slice 32) w := run_underlying Tryd.underlying26
  obtain ⟨ao, cap, rfl, hnil, hc⟩ := hv
  cases ao with
  | none =>
    obtain ⟨rfl, rfl⟩ := hnil rfl
    clear hc hnil
    go_enter Tryd.func60, Tryd.ntmps60
    go_wp2
    go_ret
    exact ⟨_, rfl, typ_nil _, Below.refl _ _⟩
  | some ad =>
    have HC := Lib.hid (hc ad rfl).2
    have HL := Lib.hid hl
    obtain ⟨n, hn⟩ : ∃ n, n = l.length := ⟨_, rfl⟩
    have HN := Lib.hid hn
    rw [← hn]
    have HB := Lib.hid ((Below.refl w.heap.size w).alloc (Nat.le_refl _) (.cells #[] 32 (0, 0)))
    clear hc hnil hl hn
    go_enter Tryd.func60, Tryd.ntmps60
    go_wp2_with (first
      | (at_builtin; refine append_dotsM rfl (.tmp 5) (.tmp 6) 26 rfl w.heap.size 32 i0 Tryd.underlying26 hi hz _ [] l rfl (World.ownsRow_made w #[] 0 (Nat.le_refl _) (Nat.zero_le _) rfl) ad n cap rfl HN.out (fun j u hu => Lib.cell?_alloc_some _ (HC.out j u hu)) (by have := HL.out; simp; omega) (by simp) ?_; intro v1 w1 ho hg; rw [List.nil_append] at ho; have HO := Lib.hid (typ_of_own ho); have HB1 := Lib.hid (below_grown HB.out hg HB.out.size (fun k hk => Nat.le_of_eq (Option.some.inj (show some w.heap.size = some k from hk)))); clear ho hg))
    go_ret
    exact ⟨_, rfl, HO.out, HB1.out⟩
end Go.Proofs.YthkojphgjlojgaaDoor
namespace Go.Proofs.YthkojphgjlojgaaDoor
open Go.RowKit
theorem two_ev {w : World} {B : Nat} {e f : Ev} {u v : Value} (he : EvAt w B 36 e u) : EvAt (w.alloc (.cells (evC f v) 36 (0, 0))) w.heap.size 36 f v ∧ EvAt (w.alloc (.cells (evC f v) 36 (0, 0))) B 36 e u ∧ Below w.heap.size w (w.alloc (.cells (evC f v) 36 (0, 0))) :=
  ⟨box_ev w _ f v, evAt_kept he ((Below.refl _ _).alloc (Nat.le_refl _) _), (Below.refl _ _).alloc (Nat.le_refl _) _⟩
set_option maxRecDepth 100000 in
set_option maxHeartbeats 16000000 in
theorem hit_any (e f : Ev) (hl : f.deps.length < 2000000) (u uf : Value) (B : Nat) (w : World) (he : EvAt w B 36 e u) (hd : HasDots w uf f.deps) : Calls Tryd.prog 62 #[.agg (evC f uf), .pointer (some ⟨B, 0, none⟩)] w fun x w' => x = .returned (.bool (hitE e f)) ∧ Below w.heap.size w w' := by
  have K1 := Lib.hid (fun w hv => knows_any12 f e hl uf u w hv)
  obtain ⟨h1, h2, h3⟩ := two_ev (f := f) (v := uf) he
  have E1 := Lib.hid h1
  have E2 := Lib.hid h2
  have B0 := Lib.hid h3
  have D0 := Lib.hid (dots_below hd h3)
  have c1 := (evAt_cells h1).2.2.2.2.1
  have c2 := (evAt_cells h2).2.2.2.2.1
  have s1 : (str f.path).toList = f.path := str_toList _
  have s2 : (str e.path).toList = e.path := str_toList _
  clear h1 h2 h3 he hd hl
  cases hp : (f.path == e.path) with
  | false =>
    have HM := Lib.hid (show hitE e f = false by unfold hitE; rw [hp]; rfl)
    go_enter Tryd.func62, Tryd.ntmps62
    go_upto_region 1 with fail
    generalize w.alloc (.cells (evC f uf) 36 (0, 0)) = W0 at *
    go_wp2
    go_ret
    exact ⟨by rw [HM.out]; rfl, B0.out⟩
  | true =>
    by_cases hq : f.r = e.r ∧ f.q = e.q
    · have hk : ∀ w, (binOp .eql 32 (.agg #[.int .i64 f.r, .int .i64 f.q]) (.agg #[.int .i64 e.r, .int .i64 e.q])).run Tryd.prog w = .ok (.bool true) w := fun w => by rw [hq.1, hq.2]; go_simp
      have HM := Lib.hid (show hitE e f = true by unfold hitE; rw [hp, (dotE_iff f e).2 hq]; rfl)
      clear hq
      go_enter Tryd.func62, Tryd.ntmps62
      go_upto_region 1 with fail
      generalize w.alloc (.cells (evC f uf) 36 (0, 0)) = W0 at *
      go_wp2_with (first
        | (refine load_str_on (by rfl) 9 (.tmp 4) rfl ⟨w.heap.size, 4, none⟩ rfl (str f.path) Tryd.underlying9 c1 ?_)
        | (refine load_str_on (by rfl) 9 (.tmp 6) rfl ⟨B, 4, none⟩ rfl (str e.path) Tryd.underlying9 c2 ?_)
        | (refine load_dot10 (by rfl) 32 (.tmp 10) rfl ⟨w.heap.size, 0, none⟩ rfl f.r f.q Tryd.underlying32 (by kernel_rfl) (evAt_dot E1.out) ?_)
        | (refine load_dot10 (by rfl) 32 (.tmp 12) rfl ⟨B, 0, none⟩ rfl e.r e.q Tryd.underlying32 (by kernel_rfl) (evAt_dot E2.out) ?_))
      go_ret
      exact ⟨by rw [HM.out]; rfl, B0.out⟩
    · have hk : ∀ w, (binOp .eql 32 (.agg #[.int .i64 f.r, .int .i64 f.q]) (.agg #[.int .i64 e.r, .int .i64 e.q])).run Tryd.prog w = .ok (.bool false) w := fun w => by go_simp; by_cases h1 : f.r = e.r <;> by_cases h2 : f.q = e.q <;> simp_all
      have HM := Lib.hid (show hitE e f = hasV f.deps e.r e.q by
        have hdq : dotE f e = false := by cases h : dotE f e with | false => rfl | true => exact absurd ((dotE_iff f e).1 h) hq
        unfold hitE knE; rw [hp, hdq]; rfl)
      clear hq
      go_enter Tryd.func62, Tryd.ntmps62
      go_upto_region 1 with fail
      generalize w.alloc (.cells (evC f uf) 36 (0, 0)) = W0 at *
      go_wp2_with (first
        | (refine load_str_on (by rfl) 9 (.tmp 4) rfl ⟨w.heap.size, 4, none⟩ rfl (str f.path) Tryd.underlying9 c1 ?_)
        | (refine load_str_on (by rfl) 9 (.tmp 6) rfl ⟨B, 4, none⟩ rfl (str e.path) Tryd.underlying9 c2 ?_)
        | (refine load_dot10 (by rfl) 32 (.tmp 10) rfl ⟨w.heap.size, 0, none⟩ rfl f.r f.q Tryd.underlying32 (by kernel_rfl) (evAt_dot E1.out) ?_)
        | (refine load_dot10 (by rfl) 32 (.tmp 12) rfl ⟨B, 0, none⟩ rfl e.r e.q Tryd.underlying32 (by kernel_rfl) (evAt_dot E2.out) ?_)
        | (refine load_ev_on (by rfl) 36 (.tmp 2) rfl w.heap.size rfl E1.out Tryd.underlying36 evSize ?_)
        | (refine load_ev_on (by rfl) 36 (.tmp 1) rfl B rfl E2.out Tryd.underlying36 evSize ?_)
        | (go_at_call 9; refine (K1.out _ D0.out).mono ?_; rintro x w1 ⟨rfl, hb⟩; have B1 := Lib.hid (below_next B0.out hb); clear hb))
      go_ret
      exact ⟨by rw [HM.out]; rfl, B1.out⟩
set_option maxRecDepth 100000 in
set_option maxHeartbeats 16000000 in
theorem out_any (e f : Ev) (hl : e.deps.length < 2000000) (u uf : Value) (B : Nat) (w : World) (he : EvAt w B 36 e u) (hd : HasDots w u e.deps) : Calls Tryd.prog 63 #[.agg (evC f uf), .pointer (some ⟨B, 0, none⟩)] w fun x w' => x = .returned (.bool (outE e f)) ∧ Below w.heap.size w w' := by
  have K1 := Lib.hid (fun w hv => knows_any12 e f hl u uf w hv)
  obtain ⟨h1, h2, h3⟩ := two_ev (f := f) (v := uf) he
  have E1 := Lib.hid h1
  have E2 := Lib.hid h2
  have B0 := Lib.hid h3
  have D0 := Lib.hid (dots_below hd h3)
  have c1 := (evAt_cells h1).2.2.2.2.1
  have c2 := (evAt_cells h2).2.2.2.2.1
  have s1 : (str f.path).toList = f.path := str_toList _
  have s2 : (str e.path).toList = e.path := str_toList _
  clear h1 h2 h3 he hd hl
  cases hp : (f.path == e.path) with
  | false =>
    have HM := Lib.hid (show outE e f = false by unfold outE; rw [hp]; rfl)
    go_enter Tryd.func63, Tryd.ntmps63
    go_upto_region 1 with fail
    generalize w.alloc (.cells (evC f uf) 36 (0, 0)) = W0 at *
    go_wp2
    go_ret
    exact ⟨by rw [HM.out]; rfl, B0.out⟩
  | true =>
    have HM := Lib.hid (show outE e f = hasV e.deps f.r f.q by unfold outE knE; rw [hp]; rfl)
    go_enter Tryd.func63, Tryd.ntmps63
    go_upto_region 1 with fail
    generalize w.alloc (.cells (evC f uf) 36 (0, 0)) = W0 at *
    go_wp2_with (first
      | (refine load_str_on (by rfl) 9 (.tmp 4) rfl ⟨w.heap.size, 4, none⟩ rfl (str f.path) Tryd.underlying9 c1 ?_)
      | (refine load_str_on (by rfl) 9 (.tmp 6) rfl ⟨B, 4, none⟩ rfl (str e.path) Tryd.underlying9 c2 ?_)
      | (refine load_ev_on (by rfl) 36 (.tmp 1) rfl B rfl E2.out Tryd.underlying36 evSize ?_)
      | (refine load_ev_on (by rfl) 36 (.tmp 2) rfl w.heap.size rfl E1.out Tryd.underlying36 evSize ?_)
      | (go_at_call 9; refine (K1.out _ D0.out).mono ?_; rintro x w1 ⟨rfl, hb⟩; have B1 := Lib.hid (below_next B0.out hb); clear hb))
    go_ret
    exact ⟨by rw [HM.out]; rfl, B1.out⟩
set_option maxRecDepth 100000 in
set_option maxHeartbeats 16000000 in
theorem above_any (e f : Ev) (he1 : I64 e.r) (he2 : I64 e.q) (hf1 : I64 f.r) (hf2 : I64 f.q) (u uf : Value) (B : Nat) (w : World) (he : EvAt w B 36 e u) : Calls Tryd.prog 65 #[.agg (evC f uf), .pointer (some ⟨B, 0, none⟩)] w fun x w' => x = .returned (.bool (aboveE e f)) ∧ Below w.heap.size w w' := by
  have CM := Lib.hid (fun w => cmp_any12 f e hf1 hf2 he1 he2 uf u w)
  obtain ⟨h1, h2, h3⟩ := two_ev (f := f) (v := uf) he
  have E1 := Lib.hid h1
  have E2 := Lib.hid h2
  have B0 := Lib.hid h3
  have HM := Lib.hid (show aboveE e f = decide (0 < cmpE f e) from rfl)
  obtain ⟨c, hc⟩ : ∃ c, c = cmpE f e := ⟨_, rfl⟩
  rw [← hc] at CM HM
  clear h1 h2 h3 he hc he1 he2 hf1 hf2
  go_enter Tryd.func65, Tryd.ntmps65
  go_upto_region 1 with fail
  generalize w.alloc (.cells (evC f uf) 36 (0, 0)) = W0 at *
  go_wp2_with (first
    | (refine load_ev_on (by rfl) 36 (.tmp 2) rfl w.heap.size rfl E1.out Tryd.underlying36 evSize ?_)
    | (refine load_ev_on (by rfl) 36 (.tmp 1) rfl B rfl E2.out Tryd.underlying36 evSize ?_)
    | (go_at_call 58; refine (CM.out _).mono ?_; rintro x w1 ⟨rfl, hb⟩; have B1 := Lib.hid (below_next B0.out hb); clear hb))
  go_ret
  exact ⟨by rw [HM.out]; rfl, B1.out⟩
set_option maxRecDepth 100000 in
set_option maxHeartbeats 16000000 in
theorem gone_any (k : List D2) (hk : k.length < 2000000) (f : Ev) (uk uf : Value) (B : Nat) (w : World) (hB : w.heap[B]? = some (.cells #[uk] 26 (0, 0))) (hd : HasDots w uk k) : Calls Tryd.prog 42 #[.agg (evC f uf), .pointer (some ⟨B, 0, none⟩)] w fun x w' => x = .returned (.bool (decide (f.kind = 2) && hasV k f.r f.q)) ∧ Below w.heap.size w w' := by
  have h1 := box_ev w 36 f uf
  have h3 := (Below.refl w.heap.size w).alloc (Nat.le_refl _) (.cells (evC f uf) 36 (0, 0))
  have E1 := Lib.hid h1
  have B0 := Lib.hid h3
  have D0 := Lib.hid (dots_below hd h3)
  have V1 := Lib.hid (fun w hv => vecHas_any k hk f.r f.q uk w hv)
  have c1 := (evAt_cells h1).2.2.2.1
  have c2 : (w.alloc (.cells (evC f uf) 36 (0, 0))).cell? ⟨B, 0, none⟩ = some uk := (cell_of_row _ _ 0 _ _ _ (row_kept hB h3)).trans rfl
  obtain ⟨ko, kc, hks⟩ := dots_shape hd _ rfl
  subst hks
  clear h1 h3 hd hk hB
  by_cases hk : f.kind = 2
  · have HM := Lib.hid (show (decide (f.kind = 2) && hasV k f.r f.q) = hasV k f.r f.q by rw [hk]; rfl)
    rw [hk] at c1
    clear hk
    go_enter Tryd.func42, Tryd.ntmps42
    go_upto_region 1 with fail
    generalize w.alloc (.cells (evC f uf) 36 (0, 0)) = W0 at *
    go_wp2_with (first
      | (refine load_dot10 (by rfl) 32 (.tmp 9) rfl ⟨w.heap.size, 0, none⟩ rfl f.r f.q Tryd.underlying32 (by kernel_rfl) (evAt_dot E1.out) ?_)
      | (go_at_call 31; refine (V1.out _ D0.out).mono ?_; rintro x w1 ⟨rfl, hb⟩; have B1 := Lib.hid (below_next B0.out hb); clear hb))
    go_ret
    exact ⟨by rw [HM.out]; rfl, B1.out⟩
  · have HM := Lib.hid (show (decide (f.kind = 2) && hasV k f.r f.q) = false by rw [decide_eq_false hk]; rfl)
    have hk2 : (f.kind == 2) = false := beq_eq_false_iff_ne.2 hk
    clear hk
    go_enter Tryd.func42, Tryd.ntmps42
    go_upto_region 1 with fail
    generalize w.alloc (.cells (evC f uf) 36 (0, 0)) = W0 at *
    go_wp2_with (first
      | fail)
    go_ret
    exact ⟨by rw [HM.out]; rfl, B0.out⟩
/-- The place of the first one of which p holds; -1, if there is none. -/
def idxP (p : Ev → Bool) (l : List Ev) : Int := if l.any p then (l.findIdx p : Nat) else -1
theorem idxP_hit {p : Ev → Bool} {l : List Ev} {k : Nat} {e : Ev} (hk : l[k]? = some e) (hp : p e = true) (hn : ∀ j x, j < k → l[j]? = some x → p x = false) : idxP p l = (k : Int) := by
  have hkl : k < l.length := (List.getElem?_eq_some_iff.1 hk).1
  have ha : l.any p = true := List.any_eq_true.2 ⟨e, List.mem_of_getElem? hk, hp⟩
  have hf : l.findIdx p = k := by
    rw [List.findIdx_eq hkl]
    refine ⟨by rw [List.getElem?_eq_getElem hkl] at hk; rw [Option.some.inj hk]; exact hp, fun j hj => ?_⟩
    exact hn j _ hj (List.getElem?_eq_getElem (by omega))
  rw [idxP, if_pos ha, hf]
theorem idxP_miss {p : Ev → Bool} {l : List Ev} (hn : ∀ j x, j < l.length → l[j]? = some x → p x = false) : idxP p l = -1 := by
  have ha : l.any p = false := by
    rw [List.any_eq_false]
    intro x hx
    obtain ⟨j, hj, rfl⟩ := List.mem_iff_getElem.1 hx
    rw [hn j _ hj (List.getElem?_eq_getElem hj)]; simp
  rw [idxP, ha]; simp
theorem idxP_any (p : Ev → Bool) (l : List Ev) : decide (0 ≤ idxP p l) = l.any p := by
  unfold idxP
  cases l.any p <;> simp
/-- What is asked of a closure over events. -/
def Tells (g : Nat) (lb : Array Value) (p : Ev → Bool) (us : List (Ev × Value)) (w : World) : Prop :=
  ∀ x ∈ us, ∀ W, Below w.heap.size w W → Calls Tryd.prog g (#[.agg (evC x.1 x.2)] ++ lb) W fun e w' => e = .returned (.bool (p x.1)) ∧ Below W.heap.size W w'
theorem tells_below {g : Nat} {lb : Array Value} {p : Ev → Bool} {us : List (Ev × Value)} {w w' : World} (h : Tells g lb p us w) (hb : Below w.heap.size w w') : Tells g lb p us w' := fun x hx W hW => h x hx W (below_next hb hW)
theorem fst_at {us : List (Ev × Value)} {k : Nat} {x : Ev × Value} (h : us[k]? = some x) : (us.map (·.1))[k]? = some x.1 := by rw [List.getElem?_map, h]; rfl
set_option maxRecDepth 100000 in
set_option maxHeartbeats 16000000 in
theorem index_any (g : Nat) (lb : Array Value) (eg : ∀ args w, (callFunc g args).run Tryd.prog w = .ok (.enter g args) w) (p : Ev → Bool) (us : List (Ev × Value)) (hl : us.length ≤ 50000) (v : Value) (w : World) (hv : HoldsU w v us) (hp : Tells g lb p us w) : Calls Tryd.prog 64 #[v, .func (.func g) #[] lb] w fun x w' => x = .returned (.int .i64 (idxP p (us.map (·.1)))) ∧ Below w.heap.size w w' := by
  have HV := Lib.hid hv
  have HP := Lib.hid hp
  obtain ⟨n, hn⟩ : ∃ n, n = us.length := ⟨_, rfl⟩
  obtain ⟨ao, cap, rfl⟩ := holdsU_shape hv n hn
  have HN := Lib.hid hn
  have hn5 : n ≤ 50000 := by omega
  clear hv hp hn hl
  go_enter Tryd.func64, Tryd.ntmps64
  go_wp2
  go_loopw [5, 8] (fun _ c wr => ∃ k : Nat, k ≤ n ∧ c = .int .i64 (k : Int) ∧ (∀ j x, j < k → (us.map (·.1))[j]? = some x → p x = false) ∧ Below w.heap.size w wr) (fun _ c _ => n - (intOf c).toNat)
  case atStart => exact ⟨0, Nat.zero_le _, rfl, fun j x hj => absurd hj (Nat.not_lt_zero _), Below.refl _ _⟩
  case round =>
    obtain ⟨k, hk, rfl, hall, hb⟩ := hrel
    have HA := Lib.hid hall
    have HB := Lib.hid hb
    clear hall hb
    by_cases hkn : k < n
    · have q0 : (k : Int) < (n : Int) := by omega
      have q1 : (k : Int) < 50000 := by omega
      obtain ⟨y, hy⟩ : ∃ y, us[k]? = some y := ⟨_, List.getElem?_eq_getElem (by have := HN.out; omega)⟩
      obtain ⟨ad, cap', e1, hc⟩ := holdsU_at (holdsU_below HV.out HB.out) n k HN.out.symm y hy
      cases e1
      have HC := Lib.hid hc
      have HY := Lib.hid hy
      have hcall := Lib.hid (HP.out y (List.mem_of_getElem? hy) wr HB.out)
      obtain ⟨ye, yv⟩ := y
      dsimp only at hcall HC
      clear hc hy
      cases hpy : p ye with
      | true =>
        rw [hpy] at hcall
        have HR := Lib.hid (show idxP p (us.map (·.1)) = (k : Int) from idxP_hit (fst_at HY.out) hpy HA.out)
        clear hpy
        go_wp2_with (first
          | (refine load_evA_on (by rfl) 36 (.tmp 14) rfl (ad.add (k * 38)) rfl Tryd.underlying36 evSize HC.out ?_)
          | (go_at_fn g; refine hcall.out.mono ?_; rintro x w1 ⟨rfl, hb⟩; have B1 := Lib.hid (below_next HB.out hb); clear hb))
        go_ret
        exact ⟨by rw [HR.out]; rfl, B1.out⟩
      | false =>
        rw [hpy] at hcall
        have HF := Lib.hid hpy
        clear hpy
        go_wp2_with (first
          | (refine load_evA_on (by rfl) 36 (.tmp 14) rfl (ad.add (k * 38)) rfl Tryd.underlying36 evSize HC.out ?_)
          | (go_at_fn g; refine hcall.out.mono ?_; rintro x w1 ⟨rfl, hb⟩; have B1 := Lib.hid (below_next HB.out hb); clear hb))
        refine ⟨⟨k + 1, by omega, by go_num, fun j x hj hx => ?_, B1.out⟩, by simp [intOf] <;> omega⟩
        rcases Nat.lt_or_ge j k with h | h
        · exact HA.out j x h hx
        · obtain rfl : j = k := by omega
          rw [fst_at HY.out] at hx; cases hx; exact HF.out
    · obtain rfl : k = n := by omega
      have q0 : ¬ (k : Int) < (k : Int) := by omega
      have HR := Lib.hid (show idxP p (us.map (·.1)) = -1 from idxP_miss (fun j x hj => HA.out j x (by rw [List.length_map] at hj; have := HN.out; omega)))
      go_wp2
      go_ret
      exact ⟨by rw [HR.out]; rfl, HB.out⟩
set_option maxRecDepth 100000 in
set_option maxHeartbeats 16000000 in
theorem contains_any (g : Nat) (lb : Array Value) (eg : ∀ args w, (callFunc g args).run Tryd.prog w = .ok (.enter g args) w) (p : Ev → Bool) (us : List (Ev × Value)) (hl : us.length ≤ 50000) (v : Value) (w : World) (hv : HoldsU w v us) (hp : Tells g lb p us w) : Calls Tryd.prog 61 #[v, .func (.func g) #[] lb] w fun x w' => x = .returned (.bool ((us.map (·.1)).any p)) ∧ Below w.heap.size w w' := by
  have IX := Lib.hid (index_any g lb eg p us hl v w hv hp)
  have HR := Lib.hid (idxP_any p (us.map (·.1)))
  generalize idxP p (us.map (·.1)) = r at IX HR
  clear hl hv hp
  go_enter Tryd.func61, Tryd.ntmps61
  go_wp2_with (first
    | (go_at_call 64; refine IX.out.mono ?_; rintro x w1 ⟨rfl, hb⟩))
  go_ret
  exact ⟨by rw [← HR.out]; rfl, hb⟩
theorem filter_take {us : List (Ev × Value)} {p : Ev → Bool} {k : Nat} {y : Ev × Value} (h : us[k]? = some y) : (us.take (k + 1)).filter (fun z => !p z.1) = (us.take k).filter (fun z => !p z.1) ++ (if p y.1 then [] else [y]) := by
  rw [List.take_add_one, h, List.filter_append]
  cases hp : p y.1 <;> simp [hp]
set_option maxRecDepth 100000 in
set_option maxHeartbeats 16000000 in
theorem without_any (g : Nat) (lb : Array Value) (eg : ∀ args w, (callFunc g args).run Tryd.prog w = .ok (.enter g args) w) (p : Ev → Bool) (us : List (Ev × Value)) (hl : us.length ≤ 50000) (v : Value) (w : World) (hv : HoldsU w v us) (hd : DepsU w us) (hp : Tells g lb p us w) : Calls Tryd.prog 37 #[v, .func (.func g) #[] lb] w fun x w' => ∃ y, x = .returned y ∧ w'.ownsRow w.heap.size 36 38 y (us.filter (fun z => !p z.1)).length (evsC (us.filter (fun z => !p z.1))) ∧ Below w.heap.size w w' := by
  have HV := Lib.hid hv
  have HP := Lib.hid hp
  have HD := Lib.hid hd
  obtain ⟨ie, hie, hiz⟩ := infoEv
  have HIZ := Lib.hid hiz
  obtain ⟨n, hn⟩ : ∃ n, n = us.length := ⟨_, rfl⟩
  obtain ⟨ao, cap, rfl⟩ := holdsU_shape hv n hn
  have HN := Lib.hid hn
  have hn5 : n ≤ 50000 := by omega
  clear hv hp hd hn hl hiz
  go_enter Tryd.func37, Tryd.ntmps37
  go_wp2
  go_loopw [5, 7, 10] (fun s _ c wr => ∃ k : Nat, k ≤ n ∧ c = .int .i64 (k : Int) ∧ wr.ownsRow w.heap.size 36 38 s ((us.take k).filter (fun z => !p z.1)).length (evsC ((us.take k).filter (fun z => !p z.1))) ∧ Below w.heap.size w wr) (fun _ _ c _ => n - (intOf c).toNat)
  case atStart => exact ⟨0, Nat.zero_le _, rfl, World.ownsRow_nil _ _ _ _, Below.refl _ _⟩
  case round =>
    obtain ⟨k, hk, rfl, hown, hb⟩ := hrel
    have HO := Lib.hid hown
    have HB := Lib.hid hb
    clear hown hb
    by_cases hkn : k < n
    · have q0 : (k : Int) < (n : Int) := by omega
      have q1 : (k : Int) < 50000 := by omega
      obtain ⟨y, hy⟩ : ∃ y, us[k]? = some y := ⟨_, List.getElem?_eq_getElem (by have := HN.out; omega)⟩
      obtain ⟨ad, cap', e1, hc⟩ := holdsU_at (holdsU_below HV.out HB.out) n k HN.out.symm y hy
      cases e1
      have HC := Lib.hid hc
      have hcall0 := Lib.hid (HP.out y (List.mem_of_getElem? hy))
      have HF := Lib.hid (filter_take (p := p) hy)
      have HL := Lib.hid (show ((us.take k).filter (fun z => !p z.1)).length ≤ 50000 by
        have h1 := List.length_filter_le (fun z : Ev × Value => !p z.1) (us.take k)
        rw [List.length_take] at h1; omega)
      obtain ⟨yo, yc, hys⟩ := dots_shape (HD.out y (List.mem_of_getElem? hy)) _ rfl
      obtain ⟨ye, yv⟩ := y
      dsimp only at hcall0 HC hys HF
      obtain ⟨yn, hyn⟩ : ∃ m, m = ye.deps.length := ⟨_, rfl⟩
      rw [← hyn] at hys
      subst hys
      generalize (us.take k).filter (fun z => !p z.1) = fs at HO HF HL
      clear hc hy hyn
      cases hpy : p ye with
      | true =>
        rw [hpy] at hcall0
        have HF := Lib.hid (show (us.take (k + 1)).filter (fun z => !p z.1) = fs by rw [HF.out, hpy]; simp)
        clear hpy
        go_wp2_with (first
          | (refine load_evA_on (by rfl) 36 (.tmp 12) rfl (ad.add (k * 38)) rfl Tryd.underlying36 evSize HC.out ?_)
          | (refine store_new rfl 36 (.tmp 7) (.tmp 13) rfl rfl wr _ (evC ye (.slice yo yn yc)) 36 rfl rfl rfl (by rw [evSize, evC_size]) (by rw [evC_size]; rfl) (evC_one _ _ rfl) ?_; rintro W2 hg hb hlt; have E2 := Lib.hid (show EvAt W2 wr.heap.size 36 ye (.slice yo yn yc) from hg); have B2 := Lib.hid (below_next HB.out hb); have O2 := Lib.hid (own_belowM HO.out hb); clear hg hb hlt)
          | (refine load_ev_on (by rfl) 36 (.tmp 7) rfl wr.heap.size rfl E2.out Tryd.underlying36 evSize ?_)
          | (go_at_fn g; refine (hcall0.out _ B2.out).mono ?_; rintro x w3 ⟨rfl, hb⟩; have B3 := Lib.hid (below_next B2.out hb); have O3 := Lib.hid (own_belowM O2.out hb); clear hb))
        exact ⟨⟨k + 1, by omega, by go_num, by rw [HF.out]; exact O3.out, B3.out⟩, by simp [intOf] <;> omega⟩
      | false =>
        rw [hpy] at hcall0
        have HF := Lib.hid (show (us.take (k + 1)).filter (fun z => !p z.1) = fs ++ [(ye, .slice yo yn yc)] by rw [HF.out, hpy]; simp)
        clear hpy
        go_upto_region 6 with (first
          | (refine load_evA_on (by rfl) 36 (.tmp 12) rfl (ad.add (k * 38)) rfl Tryd.underlying36 evSize HC.out ?_)
          | (refine store_new rfl 36 (.tmp 7) (.tmp 13) rfl rfl wr _ (evC ye (.slice yo yn yc)) 36 rfl rfl rfl (by rw [evSize, evC_size]) (by rw [evC_size]; rfl) (evC_one _ _ rfl) ?_; rintro W2 hg hb hlt; have E2 := Lib.hid (show EvAt W2 wr.heap.size 36 ye (.slice yo yn yc) from hg); have B2 := Lib.hid (below_next HB.out hb); have O2 := Lib.hid (own_belowM HO.out hb); clear hg hb hlt)
          | (refine load_ev_on (by rfl) 36 (.tmp 7) rfl wr.heap.size rfl E2.out Tryd.underlying36 evSize ?_)
          | (go_at_fn g; refine (hcall0.out _ B2.out).mono ?_; rintro x w3 ⟨rfl, hb⟩; have B3 := Lib.hid (below_next B2.out hb); have O3 := Lib.hid (own_belowM O2.out hb); have E3 := Lib.hid (evAt_kept E2.out hb); clear hb))
        obtain ⟨N9, hN9⟩ : ∃ N, w3.heap.size = N := ⟨_, rfl⟩
        have HN9 := Lib.hid hN9
        clear hN9
        go_wp2_with (first
          | (refine load_ev_on (by rfl) 36 (.tmp 7) rfl wr.heap.size rfl E3.out Tryd.underlying36 evSize ?_)
          | (refine build_evM rfl 20 rfl (.tmp 19) rfl N9 HN9.out ye yo yn yc rfl ?_; rintro wA hEA hBA hNA; have EA := Lib.hid hEA; have BA := Lib.hid (below_next B3.out hBA); have OA := Lib.hid (own_belowM O3.out hBA); clear hEA hBA hNA)
          | (refine append_evs rfl (.tmp 18) (.tmp 20) 24 rfl w.heap.size 36 ie Tryd.underlying24 hie HIZ.out _ fs [(ye, .slice yo yn yc)] rfl OA.out (fun q hq => by rw [List.mem_singleton.1 hq]; rfl) ⟨N9, 0, none⟩ 1 1 rfl rfl (evAt_one EA.out) (by have := HL.out; simp only [List.length_cons, List.length_nil]; omega) BA.out.size ?_; rintro v' w5 hown hgr; have B5 := Lib.hid (below_grown BA.out hgr BA.out.size (fun b hb => (OA.out.lt b hb).1)); have O5 := Lib.hid hown; clear hown hgr))
        exact ⟨⟨k + 1, by omega, by go_num, by rw [HF.out]; exact O5.out, B5.out⟩, by simp [intOf] <;> omega⟩
    · obtain rfl : k = n := by omega
      have q0 : ¬ (k : Int) < (k : Int) := by omega
      go_wp2
      go_ret
      exact ⟨_, rfl, by have h := HO.out; rw [List.take_of_length_le (by have := HN.out; omega)] at h; exact h, HB.out⟩
set_option maxRecDepth 100000 in
set_option maxHeartbeats 16000000 in
theorem cloneE_any (us : List (Ev × Value)) (hl : us.length ≤ 50000) (v : Value) (w : World) (hv : HoldsU w v us) (hd : DepsU w us) : Calls Tryd.prog 59 #[v] w fun x w' => ∃ y, x = .returned y ∧ w'.ownsRow w.heap.size 36 38 y us.length (evsC us) ∧ Below w.heap.size w w' := by
  obtain ⟨ie, hie, hiz⟩ := infoEv
  have HIZ := Lib.hid hiz
  have HD1 := Lib.hid (depsU_one hd)
  have q22 : ∀ (w : World) (a : Option Addr) (n c n' c' : Nat), (binOp .eql 24 (.slice a n c) (.slice none n' c')).run Tryd.prog w = .ok (.bool a.isNone) w := fun w a n c n' c' => Lib.run_eql_slice_nil w _ _ a n c n' c' Tryd.underlying24
  have u22 : ∀ w, Sem.run Tryd.prog (underlying 24) w = .ok (TypeDesc.slice 36) w := run_underlying Tryd.underlying24
  obtain ⟨ao, cap, rfl, hnil, hc⟩ := hv
  cases ao with
  | none =>
    obtain ⟨rfl, rfl⟩ := hnil rfl
    clear hc hnil hd hiz
    go_enter Tryd.func59, Tryd.ntmps59
    go_wp2
    go_ret
    exact ⟨_, rfl, World.ownsRow_nil _ _ _ _, Below.refl _ _⟩
  | some ad =>
    have HC := Lib.hid (hc ad rfl).2
    have HL := Lib.hid hl
    obtain ⟨n, hn⟩ : ∃ n, n = us.length := ⟨_, rfl⟩
    have HN := Lib.hid hn
    rw [← hn]
    have HB := Lib.hid ((Below.refl w.heap.size w).alloc (Nat.le_refl _) (.cells #[] 36 (0, 0)))
    clear hc hnil hl hn hd hiz
    go_enter Tryd.func59, Tryd.ntmps59
    go_wp2_with (first
      | (at_builtin; refine append_evs rfl (.tmp 5) (.tmp 6) 24 rfl w.heap.size 36 ie Tryd.underlying24 hie HIZ.out _ [] us rfl (World.ownsRow_made w #[] 0 (Nat.le_refl _) (Nat.zero_le _) rfl) HD1.out ad n cap rfl HN.out (fun j u hu => Lib.cell?_alloc_some _ (HC.out j u hu)) (by have := HL.out; simp; omega) (by simp) ?_; intro v1 w1 ho hg; rw [List.nil_append] at ho; have HO := Lib.hid ho; have HB1 := Lib.hid (below_grown HB.out hg HB.out.size (fun k hk => Nat.le_of_eq (Option.some.inj (show some w.heap.size = some k from hk)))); clear ho hg))
    go_ret
    exact ⟨_, rfl, by rw [HN.out]; exact HO.out, HB1.out⟩
set_option maxRecDepth 100000 in
set_option maxHeartbeats 16000000 in
theorem copied_any (us : List (Ev × Value)) (hl : us.length ≤ 50000) (hf : ∀ x ∈ us, x.1.deps.length < 2000000) (v : Value) (w : World) (hv : HoldsU w v us) (hd : DepsU w us) : Calls Tryd.prog 34 #[v] w fun x w' => ∃ y, x = .returned y ∧ HasEvs w' y (us.map (·.1)) ∧ Below w.heap.size w w' := by
  have CE := Lib.hid (cloneE_any us hl v w hv hd)
  have HD := Lib.hid hd
  have HF := Lib.hid hf
  obtain ⟨n, hn⟩ : ∃ n, n = us.length := ⟨_, rfl⟩
  rw [← hn] at CE
  have hn5 : n ≤ 50000 := by omega
  have HN := Lib.hid hn
  obtain ⟨ao, cap, hvs⟩ := holdsU_shape hv n hn
  subst hvs
  clear hl hf hv hd hn
  go_enter Tryd.func34, Tryd.ntmps34
  go_upto_region 2 with (first
    | (go_at_call 59; refine CE.out.mono ?_; rintro x w1 ⟨y, rfl, ho, hb⟩; have HO := Lib.hid ho; have HB := Lib.hid hb; clear ho hb))
  obtain ⟨yo, yc, hys⟩ := own_slice HO.out
  subst hys
  go_wp2
  go_loopw [4, 5, 10] (fun _ _ c wr => ∃ (k : Nat) (vs : List (Ev × Value)), k ≤ n ∧ c = .int .i64 (k : Int) ∧ vs.map (·.1) = us.map (·.1) ∧ wr.ownsRow w.heap.size 36 38 (.slice yo n yc) n (evsC vs) ∧ (∀ j y, j < k → vs[j]? = some y → TypDots wr y.2 y.1.deps) ∧ (∀ j, k ≤ j → vs[j]? = us[j]?) ∧ Below w.heap.size w wr) (fun _ _ c _ => n - (intOf c).toNat)
  case atStart => exact ⟨0, us, Nat.zero_le _, rfl, rfl, HO.out, fun j y hj => absurd hj (Nat.not_lt_zero _), fun _ _ => rfl, HB.out⟩
  case round =>
    obtain ⟨k, vs, hk, rfl, hmap, hown, hlo, hhi, hb⟩ := hrel
    have HM := Lib.hid hmap
    have HW := Lib.hid hown
    have HLO := Lib.hid hlo
    have HHI := Lib.hid hhi
    have HBB := Lib.hid hb
    clear hmap hown hlo hhi hb
    by_cases hkn : k < n
    · have q0 : (k : Int) < (n : Int) := by omega
      have q1 : (k : Int) < 50000 := by omega
      obtain ⟨y, hy⟩ : ∃ y, us[k]? = some y := ⟨_, List.getElem?_eq_getElem (by have := HN.out; omega)⟩
      have HV := Lib.hid (show vs[k]? = some y by rw [HHI.out k (Nat.le_refl _)]; exact hy)
      obtain ⟨g, cap', e1, hg0, hg1⟩ := HW.out.form (by omega)
      cases e1
      have HG := Lib.hid (And.intro hg0 hg1)
      obtain ⟨dyo, dyc, hys⟩ := dots_shape (HD.out y (List.mem_of_getElem? hy)) _ rfl
      have HDY := Lib.hid (HD.out y (List.mem_of_getElem? hy))
      have HFY := Lib.hid (HF.out y (List.mem_of_getElem? hy))
      obtain ⟨ye, yv⟩ := y
      obtain ⟨yn, hyn⟩ : ∃ m, m = ye.deps.length := ⟨_, rfl⟩
      dsimp only at hys HDY HFY
      rw [← hyn] at hys
      subst hys
      have HC := Lib.hid (show ∀ j u, (evC ye (.slice dyo yn dyc))[j]? = some u → wr.cell? ((⟨g, k * 38, none⟩ : Addr).add j) = some u from fun j u hu => by
        have hj : j < 38 := by have := (Array.getElem?_eq_some_iff.1 hu).1; rwa [evC_size] at this
        rw [Addr.add_lit, HW.out.cellAt _ (by omega)]
        exact evsC_at vs k _ HV.out j u hu)
      have CV := Lib.hid (fun w hv => cloneD_any ye.deps HFY.out (.slice dyo yn dyc) w hv)
      clear hy hg0 hg1 hyn
      go_upto_region 5 with (first
        | (refine load_evA_on (by rfl) 36 (.tmp 13) rfl ⟨g, k * 38, none⟩ rfl Tryd.underlying36 evSize HC.out ?_)
        | (refine store_new rfl 36 (.tmp 5) (.tmp 14) rfl rfl wr _ (evC ye (.slice dyo yn dyc)) 36 rfl rfl rfl (by rw [evSize, evC_size]) (by rw [evC_size]; rfl) (evC_one _ _ rfl) ?_; rintro W2 hg hb hlt; have E2 := Lib.hid (show EvAt W2 wr.heap.size 36 ye (.slice dyo yn dyc) from hg); have B2 := Lib.hid hb; clear hg hb hlt))
      have c2 := (evAt_cells E2.out).2.2.1
      go_wp2_with (first
        | (go_at_call 60; refine (CV.out _ (dots_below HDY.out (below_next HBB.out B2.out))).mono ?_; rintro x w3 ⟨nv, rfl, hnv, hb⟩; have B3 := Lib.hid (below_next B2.out hb); have NV := Lib.hid hnv; obtain ⟨no, nc, hns⟩ := dots_shape hnv.1 _ rfl; subst hns; clear hb hnv)
        | (refine store_deps rfl rfl 26 (.tmp 21) (.tmp 19) rfl w.heap.size 36 g n yc k vs (own_belowM HW.out B3.out) ye _ HV.out _ (by first | rfl | omega) rfl no ye.deps.length nc rfl (by kernel_rfl) ?_; rintro w4 hown4 hs4; have O4 := Lib.hid hown4; have S4 := Lib.hid hs4; clear hown4 hs4))
      obtain ⟨-, -, cs4, hcs4⟩ := own_blockM (own_belowM HW.out B3.out) g rfl
      refine ⟨⟨k + 1, vs.set k (ye, .slice no ye.deps.length nc), by omega, by go_num, ?_, O4.out, fun j z hj hz => ?_, fun j hj => ?_, ?_⟩, by simp [intOf] <;> omega⟩
      · rw [← HM.out]
        apply List.ext_getElem?
        intro j
        rw [List.getElem?_map, List.getElem?_map, List.getElem?_set]
        split
        · rename_i h; subst h
          rw [HV.out]; simp
          exact (List.getElem?_eq_some_iff.1 HV.out).1
        · rfl
      · rw [List.getElem?_set] at hz
        split at hz
        · rename_i h; subst h
          have hlt := (List.getElem?_eq_some_iff.1 HV.out).1
          rw [if_pos hlt] at hz
          cases hz
          exact typ_solo NV.out S4.out hcs4 (by decide)
        · rename_i h
          exact typ_solo (typ_below (HLO.out j z (by omega) hz) B3.out) S4.out hcs4 (by decide)
      · rw [List.getElem?_set_ne (by omega)]
        exact HHI.out j (by omega)
      · exact solo_below (below_next HBB.out B3.out) S4.out HG.out.1
    · obtain rfl : k = n := by omega
      have q0 : ¬ (k : Int) < (k : Int) := by omega
      have HX := Lib.hid (show HasEvs wr (.slice yo k yc) (us.map (·.1)) by
        have hlen : vs.length = k := by have := congrArg List.length HM.out; rw [List.length_map, List.length_map] at this; rw [this, ← HN.out]
        rw [← HM.out]
        refine evs_of_u (holdsU_own (by rw [hlen]; exact HW.out)) (fun x hx => ?_)
        obtain ⟨j, hj, rfl⟩ := List.mem_iff_getElem.1 hx
        exact (HLO.out j _ (by omega) (List.getElem?_eq_getElem hj)).1)
      go_wp2
      go_ret
      exact ⟨_, rfl, HX.out, HBB.out⟩
end Go.Proofs.YthkojphgjlojgaaDoor
