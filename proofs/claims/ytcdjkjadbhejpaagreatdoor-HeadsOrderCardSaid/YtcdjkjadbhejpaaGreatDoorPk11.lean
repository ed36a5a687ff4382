/-
Texts that all claims of this seat share, part 11: Law13Awake, Law13Drops, Law13Join, OpenDeeds, OpenBytes.
-/
import Derived.Test.YtcdjkjadbhejpaaGreatDoorProg
import Derived.WalkKit
import Derived.ProofKit
import Derived.OpenShut
import Derived.Deep.SlicePairs
import Derived.Deep.Slices
import Derived.SizedLaws
import Derived.ChangeSlices
import Derived.Test.YtcdjkjadbhejpaaGreatDoorPk10
namespace Go.Proofs.YtcdjkjadbhejpaaGreatDoor
open Go.RowKit
def da1 : DeedT := ⟨0, 0, 0, false, false, 1⟩
def da2 : DeedT := ⟨0, 0, 0, false, false, 2⟩
def aw1 : Ev := evH hist0 da1
def aw2 : Ev := evH (stepH hist0 da1) da2
theorem aw_out : (histN [da1, da2]).out = [aw1, aw2] := by rfl
theorem aw_hit1 : hitE aw2 aw1 = false := by decide +kernel
theorem aw_hit2 : hitE aw1 aw2 = true := by decide +kernel
theorem aw_out1 : outE aw2 aw1 = true := by decide +kernel
theorem aw_add1 : addE [aw1] aw2 = [aw2] := by
  unfold addE
  simp [aw_hit1, aw_out1, insE]
theorem aw_add2 : addE [aw2] aw1 = [aw2] := by
  unfold addE
  simp [aw_hit2]
theorem aw_may2 : mayE aw2 = true := by decide +kernel
theorem aw_heads : mayHs [aw2] = true := (mayHs_iff _).2 ⟨fun e he => by rw [List.mem_singleton.1 he]; exact aw_may2, List.pairwise_singleton _ _⟩
theorem aw_fit1 : FitE aw1 := ⟨by unfold I64; decide +kernel, by unfold I64; decide +kernel, by decide +kernel, by decide +kernel⟩
theorem aw_fit2 : FitE aw2 := ⟨by unfold I64; decide +kernel, by unfold I64; decide +kernel, by decide +kernel, by decide +kernel⟩
theorem aw_size : aw2.size = 2 := rfl
theorem aw_small : ∀ x ∈ [da1, da2], x.who < 256 ∧ x.other < 256 ∧ x.path < 256 ∧ x.size < 256 := by
  intro x hx
  simp only [List.mem_cons, List.mem_nil_iff, or_false] at hx
  rcases hx with rfl | rfl <;> decide
theorem addr_zero13 (a : Addr) : a.add 0 = a := by unfold Addr.add; split <;> simp_all
def deedCells : List Value := deedC da1 ++ deedC da2
theorem aw_deeds {w : World} {B : Nat} {T : TypeId} (h : w.heap[B]? = some (.cells deedCells.toArray T (0, 0))) : HasDeeds w (.slice (some ⟨B, 0, none⟩) 2 2) [da1, da2] := by
  refine ⟨some ⟨B, 0, none⟩, 2, rfl, (fun h => by cases h), fun ad had => ?_⟩
  cases had
  refine ⟨Nat.le_refl _, fun i d hi j u hu => ?_⟩
  rw [Addr.add_lit, Nat.zero_add]
  simp only [World.cell?, h]
  match i, hi with
  | 0, hi =>
    cases hi
    have hj : j < 6 := (List.getElem?_eq_some_iff.1 hu).1
    match j, hj with
    | 0, _ => exact hu
    | 1, _ => exact hu
    | 2, _ => exact hu
    | 3, _ => exact hu
    | 4, _ => exact hu
    | 5, _ => exact hu
  | 1, hi =>
    cases hi
    have hj : j < 6 := (List.getElem?_eq_some_iff.1 hu).1
    match j, hj with
    | 0, _ => exact hu
    | 1, _ => exact hu
    | 2, _ => exact hu
    | 3, _ => exact hu
    | 4, _ => exact hu
    | 5, _ => exact hu
  | i + 2, hi => simp at hi
set_option maxRecDepth 100000 in
set_option maxHeartbeats 16000000 in
theorem awake13_any (w : World) (hT : PowTab w) : Calls Tryz.prog 11 #[] w fun x w' => x = .returned (.bool true) ∧ Below w.heap.size w w' := by
  have HT := Lib.hid hT
  have HI := Lib.hid (fun v w hv => history_any [da1, da2] aw_small v w hv)
  rw [aw_out] at HI
  clear hT
  go_enter Tryz.func11, Tryz.ntmps11
  go_upto_region 2 with (first
    | (go_at_call 20; refine (HI.out _ _ (aw_deeds (heap_last _ _))).mono ?_; rintro x w2 ⟨vo, a, rfl, he, ha, hb⟩; have B2 := Lib.hid (((Below.refl w.heap.size w).alloc (Nat.le_refl _) _).trans (hb.mono (by simp))); have HE2 := Lib.hid he; have HA1 := Lib.hid (show (#[a 0, a 1, a 2] : Array Value).all (·.oneCell') = true by
        obtain ⟨x0, y0, e0⟩ := dots_shape (ha 0 (by omega)).1 _ rfl
        obtain ⟨x1, y1, e1⟩ := dots_shape (ha 1 (by omega)).1 _ rfl
        obtain ⟨x2, y2, e2⟩ := dots_shape (ha 2 (by omega)).1 _ rfl
        rw [e0, e1, e2]; simp [Value.oneCell']); clear hb he ha)
    | (refine store_new rfl 39 (.tmp 2) (.tmp 11) rfl rfl w2 _ #[a 0, a 1, a 2] 39 rfl rfl rfl (by kernel_rfl) rfl HA1.out ?_; rintro W3 hg hb hlt; have HV3 := Lib.hid (evs_below HE2.out hb); have B3 := Lib.hid (below_next B2.out hb); have HT3 := Lib.hid (powTab_below HT.out (below_next B2.out hb)); clear hg hb hlt))
  obtain ⟨us, hus, hdu, hhu⟩ := u_of_evs HV3.out
  have hu2 : us.length = 2 := by have := congrArg List.length hus; simpa using this
  obtain ⟨x1, x2, rfl⟩ : ∃ x1 x2, us = [x1, x2] := by
    match us, hu2 with
    | [x1, x2], _ => exact ⟨x1, x2, rfl⟩
  simp only [List.map_cons, List.map_nil, List.cons.injEq, and_true] at hus
  obtain ⟨e1, v1⟩ := x1
  obtain ⟨e2, v2⟩ := x2
  dsimp only at hus
  obtain ⟨rfl, rfl⟩ := hus
  obtain ⟨ad, cap, ev, hc1⟩ := holdsU_at hhu 2 0 rfl _ rfl
  have ev2 := ev
  obtain ⟨ad2, cap2, ev3, hc2⟩ := holdsU_at hhu 2 1 rfl _ rfl
  subst ev
  cases ev3
  have hroom := holdsU_room hhu
  dsimp only at hc1 hc2
  rw [Nat.zero_mul, addr_zero13] at hc1
  rw [Nat.one_mul] at hc2
  have hcap : (1 : Int) ≤ (cap : Int) := by omega
  have C1 := Lib.hid hc1
  have C2 := Lib.hid hc2
  have hd1 := hdu (aw1, v1) (by simp)
  have hd2 := hdu (aw2, v2) (by simp)
  have H1 := Lib.hid (show HoldsU W3 (.slice (some ad) 1 cap) [(aw1, v1)] from holdsU_take hhu 1 (by omega))
  have H2 := Lib.hid (show HoldsU W3 (.slice (some (ad.add 38)) 1 (cap - 1)) [(aw2, v2)] from ⟨some (ad.add 38), cap - 1, rfl, (fun h => by cases h), fun b hb => by
    cases hb
    refine ⟨by simp; omega, fun j u hu => ?_⟩
    exact hc2 j u (by simpa [evsC] using hu)⟩)
  have D1 := Lib.hid (show DepsU W3 [(aw1, v1)] from fun y hy => by rw [List.mem_singleton.1 hy]; exact hd1)
  have D2 := Lib.hid (show DepsU W3 [(aw2, v2)] from fun y hy => by rw [List.mem_singleton.1 hy]; exact hd2)
  have K1 := Lib.hid hd1
  have K2 := Lib.hid hd2
  obtain ⟨o1, c1, q1⟩ := dots_shape hd1 aw1.deps.length rfl
  obtain ⟨o2, c2, q2⟩ := dots_shape hd2 aw2.deps.length rfl
  have A1 := Lib.hid (fun w hv hd hu => add_any [(aw1, v1)] (by simp) (fun y hy => by rw [List.mem_singleton.1 hy]; exact aw_fit1) aw2 aw_fit2 (.slice (some ad) 1 cap) v2 w hv hd hu)
  have A2 := Lib.hid (fun w hv hd hu => add_any [(aw2, v2)] (by simp) (fun y hy => by rw [List.mem_singleton.1 hy]; exact aw_fit2) aw1 aw_fit1 (.slice (some (ad.add 38)) 1 (cap - 1)) v1 w hv hd hu)
  simp only [List.map_cons, List.map_nil] at A1 A2
  rw [aw_add1] at A1
  rw [aw_add2] at A2
  have hn0 : ¬ cap = 0 := by omega
  have hn1 : ¬ cap = 1 := by omega
  clear hhu hdu hc1 hc2 hd1 hd2 ev2 hroom HE2 HV3 HI HT
  go_upto_region 4 with fail
  refine wp_region_held_drew (S := fun w' => Below W3.heap.size W3 w') (by kernel_rfl) (drawS (Below.refl _ _)) (fun hHeld => ?_)
  generalize W3.drew = wd at hHeld ⊢
  refine take_at (i := 0) 15 rfl rfl (by kernel_rfl) (by kernel_rfl) (by kernel_rfl) (fun _ _ _ h => h) (sure_yes (by rfl) (fun w => by go_simp; try with_reducible rfl)) hHeld ?_
  simp only [List.setIfInBounds_toArray, List.set_cons_zero, List.set_cons_succ]
  refine take_at (i := 1) 16 rfl rfl (by kernel_rfl) (by kernel_rfl) (by kernel_rfl) (fun _ _ _ h => h) (sure_yes (by rfl) (fun w => by go_simp; try with_reducible rfl)) hHeld ?_
  simp only [List.setIfInBounds_toArray, List.set_cons_zero, List.set_cons_succ]
  refine take_at (i := 2) 17 rfl rfl (by kernel_rfl) (by kernel_rfl) (by kernel_rfl) (fun _ _ _ h => h) (sure_yes (by rfl) (fun w => by go_simp; try with_reducible rfl)) hHeld ?_
  simp only [List.setIfInBounds_toArray, List.set_cons_zero, List.set_cons_succ]
  refine take_at (i := 3) 18 rfl rfl (by kernel_rfl) (by kernel_rfl) (by kernel_rfl) (fun _ _ _ h => h) (sure_yes (by rfl) (fun w => by go_simp; try with_reducible rfl)) hHeld ?_
  simp only [List.setIfInBounds_toArray, List.set_cons_zero, List.set_cons_succ]
  refine take_at (i := 4) 19 rfl rfl (by kernel_rfl) (by kernel_rfl) (by kernel_rfl) (fun _ _ _ h => h) (evA_yields (by rfl) 30 (.tmp 18) rfl (ad.add 38) rfl Tryz.underlying30 evSize (fun w h j u hu => cell_under12 (C2.out j u hu) h)) hHeld ?_
  simp only [List.setIfInBounds_toArray, List.set_cons_zero, List.set_cons_succ]
  refine ready_call2 5 20 (by kernel_rfl) rfl rfl (by rfl) 16 (.tmp 16) (.tmp 19) 22 30 rfl (.slice (some ad) 1 cap) (.agg (evC aw2 v2)) rfl rfl (enters_of Tryz.func16 (by kernel_rfl) rfl) _ (A1.out _ (holdsU_below H1.out hHeld) (depsU_below D1.out hHeld) (dots_below K2.out hHeld)) (fun x wz hp => ?_)
  obtain ⟨va, rfl, he, hb⟩ := hp
  refine ⟨_, rfl, below_next hHeld hb, ?_⟩
  have HE_va := Lib.hid he
  replace hHeld := below_next hHeld hb
  clear hb he
  simp only [List.setIfInBounds_toArray, List.set_cons_zero, List.set_cons_succ]
  refine take_at (i := 6) 3 rfl rfl (by kernel_rfl) (by kernel_rfl) (by kernel_rfl) (fun _ _ _ h => h) (sure_yes (by rfl) (fun w => by go_simp; try with_reducible rfl)) hHeld ?_
  simp only [List.setIfInBounds_toArray, List.set_cons_zero, List.set_cons_succ]
  refine wpAnyH_done (by kernel_rfl) ?_ _
  have Z4 := Lib.hid hHeld
  have HB1 := Lib.hid (holdsU_below H2.out hHeld)
  have HB2 := Lib.hid (depsU_below D2.out hHeld)
  have HB3 := Lib.hid (dots_below K1.out hHeld)
  clear hHeld
  go_upto_region 5 with fail
  have CZ := Lib.hid (fun j u hu => cell_under12 (C1.out j u hu) Z4.out)
  refine wp_region_held_drew (S := fun w' => Below wz.heap.size wz w') (by kernel_rfl) (drawS (Below.refl _ _)) (fun hHeld => ?_)
  generalize wz.drew = wd at hHeld ⊢
  refine take_at (i := 0) 21 rfl rfl (by kernel_rfl) (by kernel_rfl) (by kernel_rfl) (fun _ _ _ h => h) (sure_yes (by rfl) (fun w => by go_simp; try with_reducible rfl)) hHeld ?_
  simp only [List.setIfInBounds_toArray, List.set_cons_zero, List.set_cons_succ]
  refine take_at (i := 1) 22 rfl rfl (by kernel_rfl) (by kernel_rfl) (by kernel_rfl) (fun _ _ _ h => h) (sure_yes (by rfl) (fun w => by go_simp; try with_reducible rfl)) hHeld ?_
  simp only [List.setIfInBounds_toArray, List.set_cons_zero, List.set_cons_succ]
  refine take_at (i := 2) 23 rfl rfl (by kernel_rfl) (by kernel_rfl) (by kernel_rfl) (fun _ _ _ h => h) (sure_yes (by rfl) (fun w => by go_simp; try with_reducible rfl)) hHeld ?_
  simp only [List.setIfInBounds_toArray, List.set_cons_zero, List.set_cons_succ]
  refine take_at (i := 3) 24 rfl rfl (by kernel_rfl) (by kernel_rfl) (by kernel_rfl) (fun _ _ _ h => h) (sure_yes (by rfl) (fun w => by go_simp; try with_reducible rfl)) hHeld ?_
  simp only [List.setIfInBounds_toArray, List.set_cons_zero, List.set_cons_succ]
  refine take_at (i := 4) 25 rfl rfl (by kernel_rfl) (by kernel_rfl) (by kernel_rfl) (fun _ _ _ h => h) (evA_yields (by rfl) 30 (.tmp 24) rfl ad rfl Tryz.underlying30 evSize (fun w h j u hu => cell_under12 (CZ.out j u hu) h)) hHeld ?_
  simp only [List.setIfInBounds_toArray, List.set_cons_zero, List.set_cons_succ]
  refine ready_call2 5 26 (by kernel_rfl) rfl rfl (by rfl) 16 (.tmp 22) (.tmp 25) 22 30 rfl (.slice (some (ad.add 38)) 1 (cap - 1)) (.agg (evC aw1 v1)) rfl rfl (enters_of Tryz.func16 (by kernel_rfl) rfl) _ (A2.out _ (holdsU_below HB1.out hHeld) (depsU_below HB2.out hHeld) (dots_below HB3.out hHeld)) (fun x wy hp => ?_)
  obtain ⟨vb, rfl, he, hb⟩ := hp
  refine ⟨_, rfl, below_next hHeld hb, ?_⟩
  have HE_vb := Lib.hid he
  replace hHeld := below_next hHeld hb
  clear hb he
  simp only [List.setIfInBounds_toArray, List.set_cons_zero, List.set_cons_succ]
  refine take_at (i := 6) 4 rfl rfl (by kernel_rfl) (by kernel_rfl) (by kernel_rfl) (fun _ _ _ h => h) (sure_yes (by rfl) (fun w => by go_simp; try with_reducible rfl)) hHeld ?_
  simp only [List.setIfInBounds_toArray, List.set_cons_zero, List.set_cons_succ]
  refine wpAnyH_done (by kernel_rfl) ?_ _
  have Z5 := Lib.hid hHeld
  clear hHeld
  obtain ⟨us, hus, hda, hha⟩ := u_of_evs (evs_below HE_va.out Z5.out)
  obtain ⟨vs, hvs, hdb, hhb⟩ := u_of_evs HE_vb.out
  have hu1 : us.length = 1 := by have := congrArg List.length hus; simpa using this
  have hu2 : vs.length = 1 := by have := congrArg List.length hvs; simpa using this
  obtain ⟨y1, rfl⟩ : ∃ x, us = [x] := List.length_eq_one_iff.1 hu1
  obtain ⟨y2, rfl⟩ : ∃ x, vs = [x] := List.length_eq_one_iff.1 hu2
  simp only [List.map_cons, List.map_nil, List.cons.injEq, and_true] at hus hvs
  obtain ⟨f1, w1⟩ := y1
  obtain ⟨f2, w2⟩ := y2
  dsimp only at hus hvs
  subst hus
  subst hvs
  obtain ⟨bd, bap, ev, hc1⟩ := holdsU_at hha 1 0 rfl _ rfl
  subst ev
  obtain ⟨cd, cap3, ev, hc2⟩ := holdsU_at hhb 1 0 rfl _ rfl
  subst ev
  rw [Nat.zero_mul, addr_zero13] at hc1 hc2
  have CA := ev_fieldM hc1 37 (by decide) _ (evC_at _ _).2.2.2.2.2
  have CB := ev_fieldM hc2 37 (by decide) _ (evC_at _ _).2.2.2.2.2
  rw [aw_size] at CA CB
  have MA := Lib.hid (may_heads13 [(aw2, w1)] (by simp) (fun y hy => by rw [List.mem_singleton.1 hy]; exact aw_fit2) _ _ hha hda (powTab_below (powTab_below HT3.out Z4.out) Z5.out))
  simp only [List.map_cons, List.map_nil] at MA
  rw [aw_heads] at MA
  clear hc1 hc2 hha hhb hda hdb hu1 hu2
  go_wp2_with (first
    | (go_at_call 13; refine MA.out.mono ?_; rintro x w9 ⟨rfl, hb⟩; have B9 := Lib.hid hb; clear hb))
  go_ret
  exact ⟨rfl, below_next B3.out (below_next (below_next Z4.out Z5.out) B9.out)⟩
end Go.Proofs.YtcdjkjadbhejpaaGreatDoor
namespace Go.Proofs.YtcdjkjadbhejpaaGreatDoor
open Go.RowKit
theorem insL_len (l : List Ev) (e : Ev) : (insL l e).length = l.length + 1 := by
  rw [insL_place]
  simp only [List.length_append, List.length_take, List.length_cons, List.length_drop]
  omega
theorem lastTo_few (l : List Ev) : ∀ i, (lastTo l i).length ≤ i
  | 0 => Nat.le_refl _
  | i + 1 => by
    have h := lastTo_few l i
    show (match l[i]? with | some e => if lastIs l i e then insL (lastTo l i) e else lastTo l i | none => lastTo l i).length ≤ i + 1
    cases l[i]? with
    | none => exact Nat.le_succ_of_le h
    | some e =>
      show (if lastIs l i e then insL (lastTo l i) e else lastTo l i).length ≤ i + 1
      split
      · rw [insL_len]; omega
      · omega
theorem last_few (l : List Ev) : (lastE l).length ≤ l.length := lastTo_few l l.length
theorem hist_fit {h : Hist} {n : Nat} (H : InvH h n) {e : Ev} (he : e ∈ h.out) : FitE e := by
  have h1 := may_hist H e he
  obtain ⟨i, hi, rfl⟩ := List.mem_iff_getElem.1 he
  obtain ⟨-, -, a, ha, er, e1, e2, -⟩ := H.evs _ he
  have hb := allV_bd (h.know a) a
  have hd : (h.out[i]).deps.length < 2000000 := by
    have hm : mayV (h.out[i]).deps = true := by
      unfold mayE knownE at h1
      simp only [Bool.and_eq_true] at h1
      exact h1.2.1.1
    have := rising_length hm; omega
  have hp : (h.out[i]).path.length < 1152921504606846976 := by
    unfold mayE at h1
    simp only [Bool.and_eq_true] at h1
    have := ((own_iff _).1 h1.2.2.1).2.2.1; omega
  exact ⟨by unfold I64; omega, by unfold I64; omega, hd, hp⟩
end Go.Proofs.YtcdjkjadbhejpaaGreatDoor
namespace Go.Proofs.YtcdjkjadbhejpaaGreatDoor
open Go.RowKit
theorem headsOf_mem {S T h : List Ev} (hm : ∀ e, e ∈ S ↔ e ∈ T) (H : HeadsOf S h) : HeadsOf T h :=
  ⟨H.1, fun e => (H.2 e).trans ⟨fun ⟨a, b⟩ => ⟨(hm e).1 a, fun f hf => b f ((hm f).2 hf)⟩, fun ⟨a, b⟩ => ⟨(hm e).2 a, fun f hf => b f ((hm f).1 hf)⟩⟩⟩
theorem join_all {S : List Ev} (G : Good S) : joinE [] S = lastE S := headsOf_one (headsOf_join (S := []) S (by simpa using G) headsOf_nil) (lastE_heads G)
theorem join_heads {S : List Ev} (G : Good S) : HeadsOf S (joinE [] S) := headsOf_join (S := []) S (by simpa using G) headsOf_nil
theorem join_again {S T : List Ev} (G : Good S) (hp : S.Perm T) : joinE (joinE [] S) T = lastE S :=
  headsOf_one (headsOf_mem (S := S ++ T) (fun e => by simp [hp.mem_iff]) (headsOf_join T (good_sub G fun x hx => (List.mem_append.1 hx).elim id fun h => hp.mem_iff.2 h) (join_heads G))) (lastE_heads G)
theorem join_two {A B S : List Ev} (G : Good S) (hm : ∀ e, (e ∈ A ∨ e ∈ B) ↔ e ∈ S) : joinE (joinE [] A) (joinE [] B) = lastE S := by
  have GA : Good A := good_sub G fun x hx => (hm x).1 (.inl hx)
  have GB : Good B := good_sub G fun x hx => (hm x).1 (.inr hx)
  have hb := join_heads GB
  have G1 : Good (A ++ B) := good_sub G fun x hx => (hm x).1 (List.mem_append.1 hx)
  have h1 : HeadsOf (A ++ joinE [] B) (joinE (joinE [] A) (joinE [] B)) := headsOf_join _ (good_sub G1 fun x hx => by
    rcases List.mem_append.1 hx with h | h
    · simp [h]
    · simp [((hb.2 x).1 h).1]) (join_heads GA)
  exact headsOf_one (headsOf_mem (fun e => by rw [List.mem_append]; exact hm e) (headsOf_more G1 hb h1)) (lastE_heads G)
theorem join_self {A : List Ev} (G : Good A) : joinE (joinE [] A) (joinE [] A) = joinE [] A := by
  rw [join_two (S := A) G (fun e => by simp), join_all G]
theorem join_mem {S : List Ev} {e : Ev} (h : e ∈ joinE [] S) : e ∈ S := (join_sub h).elim (fun h => by cases h) id
/-- What is known of events out of a history. -/
def OfHist (S : List Ev) : Prop := Good S ∧ (∀ e ∈ S, FitE e) ∧ ∀ e ∈ S, mayE e = true
theorem ofHist_hist {h : Hist} {n : Nat} (H : InvH h n) : OfHist h.out := ⟨good_hist H, fun _ he => hist_fit H he, may_hist H⟩
theorem ofHist_sub {S T : List Ev} (H : OfHist S) (hs : ∀ x ∈ T, x ∈ S) : OfHist T := ⟨good_sub H.1 hs, fun e he => H.2.1 e (hs e he), fun e he => H.2.2 e (hs e he)⟩
theorem fitU_of {us : List (Ev × Value)} (h : ∀ e ∈ us.map (·.1), FitE e) : FitU us := fun _ hx => h _ (List.mem_map_of_mem hx)
theorem mem_fst {us : List (Ev × Value)} {x : Ev × Value} (h : x ∈ us) : x.1 ∈ us.map (·.1) := List.mem_map_of_mem h
/-- List of like events. -/
theorem list_same (S : List Ev) (hl : S.length ≤ 40000) (hf : ∀ e ∈ S, FitE e) (v u : Value) (w : World) (hv : HasEvs w v S) (hu : HasEvs w u S) : Calls Tryz.prog 15 #[v, u] w fun x w' => x = .returned (.bool true) ∧ Below w.heap.size w w' := by
  obtain ⟨us, h1, h2, h3⟩ := u_of_evs hv
  obtain ⟨vs, g1, g2, g3⟩ := u_of_evs hu
  exact list_true13 us vs (by have := congrArg List.length h1; rw [List.length_map] at this; omega) (fun x hx => (hf _ (by rw [← h1]; exact mem_fst hx)).2.2.1) (h1.trans g1.symm) v u w h3 h2 g3 g2
/-- Two lists of events joined. -/
theorem join_evs (S T : List Ev) (hl : S.length + T.length ≤ 20000) (hs : ∀ e ∈ S, FitE e) (ht : ∀ e ∈ T, FitE e) (v u : Value) (w : World) (hv : HasEvs w v S) (hu : HasEvs w u T) : Calls Tryz.prog 18 #[v, u] w fun x w' => ∃ y, x = .returned y ∧ HasEvs w' y (joinE S T) ∧ Below w.heap.size w w' := by
  obtain ⟨us, h1, h2, h3⟩ := u_of_evs hv
  obtain ⟨vs, g1, g2, g3⟩ := u_of_evs hu
  have e1 := congrArg List.length h1
  have e2 := congrArg List.length g1
  rw [List.length_map] at e1 e2
  have := joinH_any us vs (by omega) (fitU_of (by rw [h1]; exact hs)) (fitU_of (by rw [g1]; exact ht)) v u w h3 h2 g3 g2
  rwa [h1, g1] at this
theorem may_evs (S : List Ev) (hl : S.length ≤ 50000) (hs : ∀ e ∈ S, FitE e) (v : Value) (w : World) (hv : HasEvs w v S) (hT : PowTab w) : Calls Tryz.prog 13 #[v] w fun x w' => x = .returned (.bool (mayHs S)) ∧ Below w.heap.size w w' := by
  obtain ⟨us, h1, h2, h3⟩ := u_of_evs hv
  have e1 := congrArg List.length h1
  rw [List.length_map] at e1
  have := may_heads13 us (by omega) (fitU_of (by rw [h1]; exact hs)) v w h3 h2 hT
  rwa [h1] at this
theorem last_evs (S : List Ev) (hl : S.length ≤ 40000) (hs : ∀ e ∈ S, FitE e) (v : Value) (w : World) (hv : HasEvs w v S) : Calls Tryz.prog 22 #[v] w fun x w' => ∃ y, x = .returned y ∧ HasEvs w' y (lastE S) ∧ Below w.heap.size w w' := by
  obtain ⟨us, h1, h2, h3⟩ := u_of_evs hv
  have e1 := congrArg List.length h1
  rw [List.length_map] at e1
  have := last_any13 us (by omega) (fun x hx => (hs _ (by rw [← h1]; exact mem_fst hx)).2.2.1) v w h3 h2
  refine this.mono ?_
  rintro x w' ⟨y, vs, rfl, hh, hm, he, hb⟩
  exact ⟨y, rfl, evs_of_u hh (fun z hz => dots_below (h2 z (hm z hz)) hb) |> fun h => by rw [he, h1] at h; exact h, hb⟩
theorem shuf_evs (S : List Ev) (hl : S.length ≤ 40000) (bs : List (BitVec 32)) (hbs : ∀ x ∈ bs, u32 x < 256) (v u : Value) (w : World) (hv : HasEvs w v S) (hu : HasBytes w u bs) : Calls Tryz.prog 21 #[v, u] w fun x w' => ∃ y T, x = .returned y ∧ HasEvs w' y T ∧ S.Perm T ∧ Below w.heap.size w w' := by
  obtain ⟨us, h1, h2, h3⟩ := u_of_evs hv
  have e1 := congrArg List.length h1
  rw [List.length_map] at e1
  refine (shuffled_any13 us (by omega) bs hbs v u w h3 h2 hu).mono ?_
  rintro x w' ⟨y, vs, rfl, hh, hp, hb⟩
  exact ⟨y, vs.map (·.1), rfl, evs_of_u hh (fun z hz => dots_below (h2 z (hp.mem_iff.2 hz)) hb), by rw [← h1]; exact hp.map _, hb⟩
theorem evs_take {w : World} {ao : Option Addr} {n cap : Nat} {S : List Ev} (h : HasEvs w (.slice ao n cap) S) : ∃ us, us.map (·.1) = S ∧ DepsU w us ∧ HoldsU w (.slice ao n cap) us ∧ us.length = n := by
  obtain ⟨us, h1, h2, h3⟩ := u_of_evs h
  obtain ⟨ao', cap', e, -⟩ := id h3
  simp only [Value.slice.injEq] at e
  exact ⟨us, h1, h2, h3, e.2.1.symm⟩
theorem evs_shape14 {w : World} {v : Value} {S : List Ev} (h : HasEvs w v S) : ∃ ao cap, v = .slice ao S.length cap := by
  obtain ⟨us, h1, h2, h3⟩ := u_of_evs h
  exact holdsU_shape h3 _ (by rw [← h1, List.length_map])
theorem evs_nil14 (w : World) : HasEvs w (.slice none 0 0) [] := ⟨[], rfl, (fun x hx => by cases hx), holdsU_nil w⟩
theorem evs_lo {w : World} {v : Value} {us : List (Ev × Value)} {k : Nat} (h : HoldsU w v (us.take k)) (hd : DepsU w us) : HasEvs w v ((us.map (·.1)).take k) := by
  rw [← List.map_take]; exact evs_of_u h fun z hz => hd z (List.mem_of_mem_take hz)
theorem evs_hi {w : World} {v : Value} {us : List (Ev × Value)} {k : Nat} (h : HoldsU w v (us.drop k)) (hd : DepsU w us) : HasEvs w v ((us.map (·.1)).drop k) := by
  rw [← List.map_drop]; exact evs_of_u h fun z hz => hd z (List.mem_of_mem_drop hz)
theorem many_nums (c n : Nat) (hc : c < 256) (hn : n ≤ 40) : ∃ r q : Nat, r ≤ n ∧ q ≤ n ∧ (c : Int).tmod ((n : Int) + 1) = (r : Int) ∧ (c : Int) % ((n : Int) + 1) = (r : Int) ∧ (n : Int) - (r : Int) = (q : Int) ∧ IntKind.i64.wrap (c : Int) = (c : Int) ∧ wrap64 (c : Int) = (c : Int) ∧ (((n : Int) + 1 == 0) = false) ∧ ¬ (n : Int) + 1 = 0 := by
  have h := deed_nums c (n + 1) hc
  have hr : c % (n + 1) < n + 1 := Nat.mod_lt _ (by omega)
  refine ⟨c % (n + 1), n - c % (n + 1), by omega, by omega, h.2.1, h.2.2, by omega, deed_wrap c hc, h.1, by simp; omega, by omega⟩
end Go.Proofs.YtcdjkjadbhejpaaGreatDoor
namespace Go.Proofs.YtcdjkjadbhejpaaGreatDoor
open Go.ChangeShapes Go.WideShapes Go.ChangeAt Go.RowKit
set_option maxRecDepth 100000 in
set_option maxHeartbeats 4000000 in
set_option linter.unusedSimpArgs false in
theorem open_deeds {H : Type} {enc : TypeId × Value → H} {w : World} {base : Nat} {sp : Nat → Bool} {held : Bool} {r : Reach} {b0 : Nat} {v : Value} {d : DataW H} {p : List MemPlace} (hv : Value.okWide Tryz.prog w r b0 37 v) (h : DataW.Trod enc Tryz.prog w base sp held 37 v d p) :
    ∃ l : List DeedT, (∀ x ∈ l, x.who < 256 ∧ x.other < 256 ∧ x.path < 256 ∧ x.size < 256) ∧ HasDeeds w v l := by
  have hc0 : Tryz.prog.cellsOf 76 = 6 := by kernel_rfl
  have hc1 : Tryz.prog.cellsOf 5 = 1 := by kernel_rfl
  have hc2 : Tryz.prog.cellsOf 4 = 1 := by kernel_rfl
  obtain ⟨a1, len, cap, rfl⟩ := okWide_slice Tryz.underlying37 hv
  obtain ⟨fuel, hf⟩ := h
  rcases Go.Deep.open_slice Tryz.underlying37 hf with ⟨hcs, -⟩ | ⟨a, len', cap', m, n, D, Pl, hcs, _, hl, hm, hmm, hx, hrow⟩
  · simp [Value.cells] at hcs
    obtain ⟨rfl, rfl, rfl⟩ := hcs
    exact ⟨[], by simp, deeds_nil w⟩
  · simp [Value.cells] at hcs
    obtain ⟨rfl, rfl, rfl⟩ := hcs
    have hlm : len ≤ m := by rw [hmm]; split <;> omega
    have each : ∀ i, i < len → ∃ x : DeedT, (x.who < 256 ∧ x.other < 256 ∧ x.path < 256 ∧ x.size < 256) ∧ ∀ j u, (deedC x)[j]? = some u → w.cell? (a.add (i * 6 + j)) = some u := fun i hi => by
      obtain ⟨cs', h1, h2⟩ := hrow i (by omega)
      rw [hc0] at h1
      obtain ⟨_, hlen, hcell⟩ := World.cells?_some h1
      match cs', hlen with
      | [k0, k1, k2, k3, k4, k5], _ =>
      obtain ⟨ys, m', _, _, _, hl', hf'⟩ := DataW.trod_struct Tryz.underlying76 h2
      match ys, hl' with
      | [y0, y1, y2, y3, y4, y5], _ =>
      have g0 := hf' 0 _ rfl
      have g1 := hf' 1 _ rfl
      have g2 := hf' 2 _ rfl
      have g3 := hf' 3 _ rfl
      have g4 := hf' 4 _ rfl
      have g5 := hf' 5 _ rfl
      simp [hc1, hc2] at g0 g1 g2 g3 g4 g5
      obtain ⟨x0, e0, -, w0⟩ := DataW.trod_int Tryz.underlying5 g0
      obtain ⟨x1, e1, -, w1⟩ := DataW.trod_int Tryz.underlying5 g1
      obtain ⟨x2, e2, -, w2⟩ := DataW.trod_int Tryz.underlying5 g2
      obtain ⟨x3, e3, -⟩ := DataW.trod_bool Tryz.underlying4 g3
      obtain ⟨x4, e4, -⟩ := DataW.trod_bool Tryz.underlying4 g4
      obtain ⟨x5, e5, -, w5⟩ := DataW.trod_int Tryz.underlying5 g5
      simp only [List.cons.injEq, and_true] at e0 e1 e2 e3 e4 e5
      have b0 := wf_u8_bd w0
      have b1 := wf_u8_bd w1
      have b2 := wf_u8_bd w2
      have b5 := wf_u8_bd w5
      refine ⟨⟨x0.toNat, x1.toNat, x2.toNat, x3, x4, x5.toNat⟩, ⟨by show x0.toNat < 256; omega, by show x1.toNat < 256; omega, by show x2.toNat < 256; omega, by show x5.toNat < 256; omega⟩, fun j u hu => ?_⟩
      have hj : j < 6 := by have := (List.getElem?_eq_some_iff.1 hu).1; simpa [deedC] using this
      have hh := hcell j hj
      rw [Go.Deep.add_add] at hh
      rw [hh, ← hu]
      subst e0 e1 e2 e3 e4 e5
      simp only [deedC, Int.toNat_of_nonneg b0.1, Int.toNat_of_nonneg b1.1, Int.toNat_of_nonneg b2.1, Int.toNat_of_nonneg b5.1]
    haveI : Inhabited DeedT := ⟨⟨0, 0, 0, false, false, 0⟩⟩
    obtain ⟨y, hy⟩ := Go.Deep.choose_lt each
    have hulen : ((List.range len).map y).length = len := by simp
    refine ⟨(List.range len).map y, fun x hx => ?_, some a, cap, by rw [hulen], (fun h => by cases h), fun ad had => ⟨by rw [hulen]; exact hl, fun i x hix j u hu => ?_⟩⟩
    · obtain ⟨i, hi, rfl⟩ := List.mem_map.1 hx
      exact (hy i (by simpa using hi)).1
    · cases had
      have hi : i < len := by have := (List.getElem?_eq_some_iff.1 hix).1; simpa using this
      rw [List.getElem?_map, List.getElem?_range hi] at hix
      obtain rfl := Option.some.inj hix
      exact (hy i hi).2 j u hu
end Go.Proofs.YtcdjkjadbhejpaaGreatDoor
namespace Go.Proofs.YtcdjkjadbhejpaaGreatDoor
open Go.ChangeShapes Go.WideShapes Go.ChangeAt Go.RowKit
theorem open_has_sized {H : Type} {enc : TypeId × Value → H} {P : Program} {w : World} {base : Nat} {sp : Nat → Bool} {held : Bool} {r : Reach} {b0 : Nat} {t e : TypeId} {v : Value} {d : DataW H} {p : List MemPlace}
    (ht : P.underlying t = some (.slice e)) (he : P.underlying e = some (.int .u8)) (hc : P.cellsOf e = 1)
    (hv : Value.okWide P w r b0 t v) (h : DataW.Trod enc P w base sp held t v d p) :
    ∃ bs : List (BitVec 32), (∀ x ∈ bs, u32 x < 256) ∧ HasBytes w v bs ∧ bs.length ≤ maxLen ∧ (bs = [] ∨ ∃ elems spare, d = .slice elems spare ∧ bs.length ≤ elems.length + spare.length) := by
  obtain ⟨a1, len, cap, rfl⟩ := okWide_slice ht hv
  obtain ⟨fuel, hf⟩ := h
  rcases open_ints ht he hc hf with ⟨hcs, -⟩ | ⟨a, len', cap', zs, hcs, _, hl, hm, hz, hx, hcell, hwz⟩
  · simp [Value.cells] at hcs
    obtain ⟨rfl, rfl, rfl⟩ := hcs
    exact ⟨[], by simp, ⟨none, 0, rfl, fun _ => ⟨rfl, rfl⟩, fun _ h => by cases h⟩, by simp, .inl rfl⟩
  · simp [Value.cells] at hcs
    obtain ⟨rfl, rfl, rfl⟩ := hcs
    have hlz : len ≤ zs.length := by rw [hz]; split <;> omega
    have hbd : ∀ j, j < len → 0 ≤ zs.getD j 0 ∧ zs.getD j 0 < 256 := fun j hj => by
      rw [show zs.getD j 0 = zs[j] from by simp [show j < zs.length by omega]]
      exact wf_u8_bd (hwz _ (List.getElem_mem _))
    have hlen : ((List.range len).map fun j => BitVec.ofInt 32 (zs.getD j 0)).length = len := by simp
    refine ⟨(List.range len).map fun j => BitVec.ofInt 32 (zs.getD j 0), fun x hx => ?_, ⟨some a, cap, by rw [hlen], (fun h => by cases h), fun ad had => ⟨by rw [hlen]; omega, fun j u hu => ?_⟩⟩, by rw [hlen]; omega, .inr ⟨_, _, (congrArg Prod.fst hx : _), by rw [hlen]; simp [lits]; omega⟩⟩
    · obtain ⟨j, hj, rfl⟩ := List.mem_map.1 hx
      have := hbd j (by simpa using hj)
      rw [u32_of _ (by omega) (by omega)]; omega
    · cases had
      have hj : j < len := by
        have := (List.getElem?_eq_some_iff.1 hu).1
        simpa [bytesL] using this
      have hb := hbd j hj
      have e1 : u = .int .u8 (zs.getD j 0) := by
        have e2 := bytesL_get ((List.range len).map fun j => BitVec.ofInt 32 (zs.getD j 0)) j (by simpa using hj)
        rw [e2] at hu
        rw [← Option.some.inj hu, show ((List.range len).map fun j => BitVec.ofInt 32 (zs.getD j 0)).getD j 0#32 = BitVec.ofInt 32 (zs.getD j 0) from by simp [hj], u32_of _ (by omega) (by omega)]
      rw [e1]; exact hcell j (by omega)
/-- The form's own reach bounds how many bytes a slice among the arguments has. -/
theorem sized_has {H : Type} {P : Program} {ts : List TypeId} {ds : List (DataW H)} {j : Nat} {t e : TypeId} {d : DataW H} {bs : List (BitVec 32)} (h : (DataW.weightsEach P ts ds).all (· ≤ reachBytes) = true)
    (ht : ts[j]? = some t) (hd : ds[j]? = some d) (hu : P.underlying t = some (.slice e)) (hb : P.bytesOf e = 1) (ho : bs = [] ∨ ∃ elems spare, d = .slice elems spare ∧ bs.length ≤ elems.length + spare.length) : bs.length ≤ 140737488351232 := by
  rcases ho with rfl | ⟨elems, spare, rfl, hl⟩
  · simp
  · have := sized_slice h ht hd hu
    rw [hb, Nat.mul_one] at this
    have hr : reachBytes = 140737488351232 := by decide
    omega
end Go.Proofs.YtcdjkjadbhejpaaGreatDoor
