/-
Texts that all claims of this seat share, part 6: Ref11Join, Ref10Parse, Ref11Parse, Law11Awake, Raises, Open09, Open10, OpenRows, Open11, Bulk, Witness.
-/
import Derived.Test.YtcnjgdnokiindaaDoorProg
import Derived.WalkKit
import Derived.ProofKit
import Derived.OpenShut
import Derived.Deep.SlicePairs
import Derived.ChangeSlices
import Derived.SizedLaws
import Derived.Deep.Matrix
import Derived.Test.YtcnjgdnokiindaaDoorRows
import Derived.Deep.DeepHandedRow
import Derived.Deep.DeepWitnessRowRef
import Derived.Lay
import Derived.LaidOnce
import Derived.Test.YtcnjgdnokiindaaDoorPk5
namespace Go.Proofs.YtcnjgdnokiindaaDoor
open Go.RowKit
/-- One row appended, in a region that draws its order. -/
theorem append_row_wp {P : Program} {w : World} {ops : Array Oper} {o : Oper} {ts : Array Value} {ds : List Deferred} {K : Act → World → Prop} {Q : Exit → Act → World → Prop} {C : Prop} (d : Nat) (hd : o.dst = some d) (hw : Region.wanted o (yielded ops ts) = true) (s x : Operand) (t : TypeId)
    (ho : o.op = .call { callee := .builtin .append, args := #[s, x], argTypes := #[t, t] })
    (B : Nat) (i : TypeInfo) (ht : P.underlying t = some (.slice 37)) (hi : P.info? 37 = some i) (hz : (i.zero.map (·.cells.size), i.size, i.bytes) = (some 1, 1, 24))
    (v : Value) (us : List R2) (y : R2) (hs : Act.eval { tmps := ts, defers := ds } s = v) (hown : OwnMat B w v us) (hy : RowIn B w y.2 y.1) (ad : Addr) (c : Nat) (hx : Act.eval { tmps := ts, defers := ds } x = .slice (some ad) 1 c)
    (hc : w.cell? ad = some y.2)
    (hlen : us.length + 1 ≤ 2000000) (hbase : B ≤ w.heap.size)
    (h : ∀ v' w', OwnMat B w' v' (us ++ [y]) → w.grownBy w' v.ownBlock → K { tmps := ts.setIfInBounds d v', defers := ds } w') :
    if Region.wanted o (yielded ops ts) = true then Oper.wp P o { tmps := ts, defers := ds } w K Q else C := by
  rw [if_pos hw]
  have hput : ∀ v', ({ tmps := ts, defers := ds } : Act).put o.dst v' = { tmps := ts.setIfInBounds d v', defers := ds } := fun v' => by rw [hd]; rfl
  have hadd : ad.add 0 = ad := by unfold Addr.add; split <;> simp_all
  simp only [Prod.mk.injEq] at hz
  obtain ⟨hz1, hz2, hz3⟩ := hz
  cases hzz : i.zero with
  | none => rw [hzz] at hz1; cases hz1
  | some z =>
    rw [hzz] at hz1
    simp only [Option.map_some, Option.some.injEq] at hz1
    refine wp_append_own w s x t ho B 37 i z 1 24 ht hi hzz hz2 hz3 hz1 (by decide) v us.length (us.map (·.2)) hs hown.1 ad 1 c [y.2] hx rfl (fun j u hj => ?_) (fun u hu => ?_)
      (by unfold maxLen; omega) (by omega) hbase fun v' w' h1 h2 _ => ?_
    · match j, hj with
      | 0, hj => rw [hadd, hc]; exact hj
    · rw [List.mem_singleton] at hu; subst hu
      exact dots_one_cell hy.1
    · rw [hput]
      exact h v' w' (ownMat_more hown hy (by rw [List.map_append, List.length_append]; exact h1) h2) h2
theorem joinM_at (a b : M2) : ∀ k : Nat, (joinM a b)[k]? = match a[k]?, b[k]? with
    | some x, some y => some (joinV x y)
    | some x, none => some x
    | none, some y => some y
    | none, none => none := by
  induction a generalizing b with
  | nil =>
    intro k
    rw [joinM]
    simp only [List.getElem?_nil]
    cases b[k]? <;> rfl
  | cons x a ih =>
    cases b with
    | nil =>
      intro k
      rw [joinM_nil]
      simp only [List.getElem?_nil]
      cases (x :: a)[k]? <;> rfl
    | cons y b =>
      intro k
      rw [joinM]
      cases k with
      | zero => rfl
      | succ k => simpa using ih b k
theorem drawS0 {n : Nat} {W w : World} (h : Below n W w) : Below n W w.drew := ⟨h.os, h.tape, h.output, h.size, h.block⟩
theorem ownMat_drew {B : Nat} {w : World} {v : Value} {us : List R2} (h : OwnMat B w v us) : OwnMat B w.drew v us := ownMat_below h (drawS0 (Below.refl _ _))
theorem take_at11 {m : M2} {k : Nat} {l : List D2} (h : m[k]? = some l) : m.take (k + 1) = m.take k ++ [l] := by
  rw [List.take_add_one, h]; rfl
set_option maxRecDepth 100000 in
set_option maxHeartbeats 16000000 in
theorem refJoin_any11 (a b : M2) (ha : Fits a) (hb : Fits b) (v u : Value) (w : World) (hv : HasMat w v a) (hu : HasMat w u b) : Calls Tryd.prog 14 #[v, u] w fun e w' => ∃ x, e = .returned x ∧ HasMat w' x (joinM a b) ∧ Below w.heap.size w w' := by
  obtain ⟨i0, hi, hz0⟩ := infoVec
  have HV := Lib.hid hv
  have HU := Lib.hid hu
  obtain ⟨ao, acap, rfl⟩ := mat_shape hv a.length rfl
  obtain ⟨bo, bcap, rfl⟩ := mat_shape hu b.length rfl
  obtain ⟨n, hn⟩ : ∃ n, n = a.length := ⟨_, rfl⟩
  obtain ⟨m, hm⟩ : ∃ m, m = b.length := ⟨_, rfl⟩
  have HN := Lib.hid hn
  have HM := Lib.hid hm
  rw [← hn] at HV ⊢
  rw [← hm] at HU ⊢
  have HFA := Lib.hid (fun k l (hl : a[k]? = some l) => fits_at ha hl)
  have HFB := Lib.hid (fun k l (hl : b[k]? = some l) => fits_at hb hl)
  have hn4 : n ≤ 1000 := by have := ha.1; omega
  have hm4 : m ≤ 1000 := by have := hb.1; omega
  have HTOT := Lib.hid (show (joinM a b).length = max n m by rw [joinM_length, hn, hm])
  clear hv hu ha hb hn hm
  go_enter Tryd.func14, Tryd.ntmps14
  go_wp2
  go_loopw [5, 6] (fun out c wr => ∃ (k : Nat) (us : List R2), k ≤ max n m ∧ c = .int .i64 (k : Int) ∧ us.map (·.1) = (joinM a b).take k ∧ OwnMat w.heap.size wr out us ∧ Below w.heap.size w wr) (fun _ c _ => max n m - (intOf c).toNat)
  case atStart => exact ⟨0, [], Nat.zero_le _, rfl, rfl, ownMat_nil _ _, Below.refl _ _⟩
  case round =>
    obtain ⟨k, us, hk, rfl, hus, ho, hb⟩ := hrel
    obtain ⟨oo, oc, rfl⟩ := ownMat_shape ho
    have hul : us.length = k := by
      have e := congrArg List.length hus
      rw [List.length_map, List.length_take, HTOT.out] at e; omega
    have HLEN := Lib.hid (show us.length + 1 ≤ 2000000 by omega)
    obtain ⟨K0, hK0⟩ : ∃ K0, K0 = us.length := ⟨_, rfl⟩
    rw [← hK0] at ho ⊢
    clear hK0 hul
    by_cases ha : k < n
    · have q0 : (k : Int) < (n : Int) := by omega
      have d0 : decide ((k : Int) < (n : Int)) = true := decide_eq_true q0
      have KK := Lib.hid (show k + 1 ≤ max n m ∧ max n m - (k + 1) < max n m - k by omega)
      obtain ⟨x, hx⟩ : ∃ x, a[k]? = some x := ⟨_, List.getElem?_eq_getElem (by have := HN.out; omega)⟩
      obtain ⟨ad, capa, x1, e1, d1, hd⟩ := mat_at HV.out n k HN.out.symm x hx
      simp only [Value.slice.injEq] at e1
      obtain ⟨rfl, -, rfl⟩ := e1
      obtain ⟨ao1, c1, rfl⟩ := dots_shape hd x.length rfl
      obtain ⟨n1, hn1⟩ : ∃ n1, n1 = x.length := ⟨_, rfl⟩
      rw [← hn1] at d1 hd
      by_cases hbm : k < m
      · have q1 : ¬ (k : Int) ≥ (m : Int) := by omega
        have q1' : (k : Int) < (m : Int) := by omega
        have q2 : ¬ (k : Int) ≥ (n : Int) := by omega
        obtain ⟨y, hy⟩ : ∃ y, b[k]? = some y := ⟨_, List.getElem?_eq_getElem (by have := HM.out; omega)⟩
        obtain ⟨bd, capb, y1, e2, d2, he⟩ := mat_at HU.out m k HM.out.symm y hy
        simp only [Value.slice.injEq] at e2
        obtain ⟨rfl, -, rfl⟩ := e2
        obtain ⟨ao2, c2, rfl⟩ := dots_shape he y.length rfl
        obtain ⟨n2, hn2⟩ : ∃ n2, n2 = y.length := ⟨_, rfl⟩
        rw [← hn2] at d2 he
        have JN := Lib.hid (fun w hv hu => refJoin_typ10 x y (HFA.out _ _ hx) (HFB.out _ _ hy) (.slice ao1 x.length c1) (.slice ao2 y.length c2) w hv hu)
        rw [← hn1, ← hn2] at JN
        have HT := Lib.hid (show (joinM a b).take (k + 1) = (joinM a b).take k ++ [joinV x y] from take_at11 (by rw [joinM_at, hx, hy]))
        have C0 := Lib.hid d1
        have C1 := Lib.hid d2
        have HD := Lib.hid hd
        have HE := Lib.hid he
        have HO := Lib.hid ho
        have HB := Lib.hid hb
        have HUS := Lib.hid hus
        clear d1 d2 hd he hx hy ho hb hus hn1 hn2 hk hbm ha
        have go_on : True := trivial
        go_upto_region 9 with fail
        refine wp_region_held_drew (S := fun w' => Below w.heap.size w w') (by kernel_rfl) (drawS0 HB.out) (fun hHeld => ?_)
        have O5 := Lib.hid (ownMat_drew HO.out)
        have hsz5 : w.heap.size ≤ wr.drew.heap.size := hHeld.size
        generalize wr.drew = wd at hHeld O5 hsz5 ⊢
        refine take_at (i := 0) 41 rfl rfl (by kernel_rfl) (by kernel_rfl) (by kernel_rfl) (fun _ _ _ h => h) (sure_yes (by rfl) (fun w => by go_simp; try with_reducible rfl)) hHeld ?_
        simp only [List.setIfInBounds_toArray, List.set_cons_zero, List.set_cons_succ]
        refine take_at (i := 1) 42 rfl rfl (by kernel_rfl) (by kernel_rfl) (by kernel_rfl) (fun _ _ _ h => h) (sure_yes (by rfl) (fun w => by go_simp; try with_reducible rfl)) hHeld ?_
        simp only [List.setIfInBounds_toArray, List.set_cons_zero, List.set_cons_succ]
        refine take_at (i := 2) 43 rfl rfl (by kernel_rfl) (by kernel_rfl) (by kernel_rfl) (fun _ _ _ h => h) (sure_yes (by rfl) (fun w => by go_simp; try with_reducible rfl)) hHeld ?_
        simp only [List.setIfInBounds_toArray, List.set_cons_zero, List.set_cons_succ]
        refine take_at (i := 3) 44 rfl rfl (by kernel_rfl) (by kernel_rfl) (by kernel_rfl) (fun _ _ _ h => h) (sure_yes (by rfl) (fun w => by go_simp; try with_reducible rfl)) hHeld ?_
        simp only [List.setIfInBounds_toArray, List.set_cons_zero, List.set_cons_succ]
        refine take_at (i := 5) 46 rfl rfl (by kernel_rfl) (by kernel_rfl) (by kernel_rfl) (fun _ _ _ h => h) (sure_yes (by rfl) (fun w => by go_simp; try with_reducible rfl)) hHeld ?_
        simp only [List.setIfInBounds_toArray, List.set_cons_zero, List.set_cons_succ]
        refine take_at (i := 6) 47 rfl rfl (by kernel_rfl) (by kernel_rfl) (by kernel_rfl) (fun _ _ _ h => h) (sure_yes (by rfl) (fun w => by go_simp; try with_reducible rfl)) hHeld ?_
        simp only [List.setIfInBounds_toArray, List.set_cons_zero, List.set_cons_succ]
        refine take_at (i := 7) 48 rfl rfl (by kernel_rfl) (by kernel_rfl) (by kernel_rfl) (fun _ _ _ h => h) (sure_yes (by rfl) (fun w => by go_simp; try with_reducible rfl)) hHeld ?_
        simp only [List.setIfInBounds_toArray, List.set_cons_zero, List.set_cons_succ]
        refine take_at (i := 4) 45 rfl rfl (by kernel_rfl) (by kernel_rfl) (by kernel_rfl) (fun _ _ _ h => h) (slice_yields (by rfl) 37 (.tmp 44) rfl (ad.add k) rfl ao1 n1 c1 Tryd.underlying37 (fun w h => cell_under C0.out h)) hHeld ?_
        simp only [List.setIfInBounds_toArray, List.set_cons_zero, List.set_cons_succ]
        refine take_at (i := 8) 49 rfl rfl (by kernel_rfl) (by kernel_rfl) (by kernel_rfl) (fun _ _ _ h => h) (slice_yields (by rfl) 37 (.tmp 48) rfl (bd.add k) rfl ao2 n2 c2 Tryd.underlying37 (fun w h => cell_under C1.out h)) hHeld ?_
        simp only [List.setIfInBounds_toArray, List.set_cons_zero, List.set_cons_succ]
        refine wpAnyH_ready (rs := [9]) (by kernel_rfl) (by simp) ?_
        refine AllReadyH.cons rfl (fun K hK => ?_) AllReadyH.nil
        go_simp
        go_at_call 34
        refine (JN.out _ (dots_below HD.out hHeld) (dots_below HE.out hHeld)).mono ?_
        rintro e w6 ⟨z, rfl, hz, hb⟩
        obtain ⟨zo, zc, rfl⟩ := dots_shape hz.1 _ rfl
        have HZ := Lib.hid hz
        have O6 := Lib.hid (ownMat_below O5.out hb)
        have hsz6 : w.heap.size ≤ w6.heap.size := Nat.le_trans hsz5 hb.size
        dsimp only
        refine hK.out _ _ (below_next hHeld hb) (fun hHeld => ?_)
        clear hK K hb hz
        refine wpAnyH_ready (rs := [10]) (by kernel_rfl) (by simp) ?_
        refine AllReadyH.cons rfl (fun K hK => ?_) AllReadyH.nil
        go_simp
        refine hK.out _ _ (hHeld.alloc hHeld.size _) (fun hHeld => ?_)
        clear hK K
        refine wpAnyH_ready (rs := [11]) (by kernel_rfl) (by simp) ?_
        refine AllReadyH.cons rfl (fun K hK => ?_) AllReadyH.nil
        refine append_row_wp 52 rfl (by rfl) (.tmp 41) (.tmp 51) 22 rfl w.heap.size i0 Tryd.underlying22 hi (infoVec3 hz0) (.slice oo K0 oc) us (_, _) rfl (ownMat_below O6.out ((Below.refl _ _).alloc (Nat.le_refl _) _)) (row_typ (typ_below HZ.out ((Below.refl _ _).alloc (Nat.le_refl _) _))) ⟨w6.heap.size, 0, none⟩ 1 rfl ((cell_of_row _ _ 0 _ _ _ (heap_last w6 _)).trans rfl) HLEN.out (by simp <;> omega) ?_
        intro v7 w7 ho7 hg7
        have HO7 := Lib.hid ho7
        have hB7 := below_grown hHeld hg7 hHeld.size (fun j hj => (O6.out.1.lt j hj).1)
        refine hK.out _ _ hB7 (fun hHeld => ?_)
        clear hK K ho7 hg7 hB7
        refine take_at (i := 12) 5 rfl rfl (by kernel_rfl) (by kernel_rfl) (by kernel_rfl) (fun _ _ _ h => h) (sure_yes (by rfl) (fun w => by go_simp; try with_reducible rfl)) hHeld ?_
        simp only [List.setIfInBounds_toArray, List.set_cons_zero, List.set_cons_succ]
        refine wpAnyH_done (by kernel_rfl) ?_ _
        have HB7 := Lib.hid hHeld
        clear hHeld
        go_wp2
        refine ⟨⟨k + 1, us ++ [_], KK.out.1, by simp, by rw [List.map_append, HUS.out, HT.out]; rfl, HO7.out, HB7.out⟩, ?_⟩
        have := KK.out.2; simp [intOf] <;> omega
      · have q1 : (k : Int) ≥ (m : Int) := by omega
        have hnone : b[k]? = none := List.getElem?_eq_none (by have := HM.out; omega)
        clear hbm ha
        have c0 := cell_under d1 hb
        have HR := Lib.hid (row_old hd (Nat.le_refl _) hb)
        have HT := Lib.hid (show (joinM a b).take (k + 1) = (joinM a b).take k ++ [x] from take_at11 (by rw [joinM_at, hx, hnone]))
        have HO := Lib.hid ho
        have HB := Lib.hid hb
        have HUS := Lib.hid hus
        clear d1 hd hx hnone ho hb hus hn1 hk
        go_wp2_with (first
          | (at_builtin; refine append_row rfl (.tmp 23) (.tmp 28) 22 rfl w.heap.size i0 Tryd.underlying22 hi (infoVec3 hz0) _ us (x, _) rfl (ownMat_below HO.out ((Below.refl _ _).alloc (Nat.le_refl _) _)) (row_below HR.out ((Below.refl _ _).alloc (Nat.le_refl _) _)) ⟨wr.heap.size, 0, none⟩ 1 rfl ((cell_of_row _ _ 0 _ _ _ (heap_last wr _)).trans rfl) HLEN.out (by have := HB.out.size; simp <;> omega) ?_; intro v7 w7 ho7 hg7; have HO7 := Lib.hid ho7; have HB7 := Lib.hid (below_grown (HB.out.alloc HB.out.size _) hg7 (by have := HB.out.size; simp <;> omega) (fun j hj => (HO.out.1.lt j hj).1)); clear ho7 hg7))
        refine ⟨⟨k + 1, us ++ [_], KK.out.1, by simp, by rw [List.map_append, HUS.out, HT.out]; rfl, HO7.out, HB7.out⟩, ?_⟩
        have := KK.out.2; simp [intOf] <;> omega
    · have q0 : ¬ (k : Int) < (n : Int) := by omega
      have d0 : decide ((k : Int) < (n : Int)) = false := decide_eq_false q0
      by_cases hbm : k < m
      · have q1 : ¬ (k : Int) ≥ (m : Int) := by omega
        have q1' : (k : Int) < (m : Int) := by omega
        have d1' : decide ((k : Int) < (m : Int)) = true := decide_eq_true q1'
        have q2 : (k : Int) ≥ (n : Int) := by omega
        have KK := Lib.hid (show k + 1 ≤ max n m ∧ max n m - (k + 1) < max n m - k by omega)
        have hnone : a[k]? = none := List.getElem?_eq_none (by have := HN.out; omega)
        obtain ⟨y, hy⟩ : ∃ y, b[k]? = some y := ⟨_, List.getElem?_eq_getElem (by have := HM.out; omega)⟩
        obtain ⟨bd, capb, y1, e2, d2, he⟩ := mat_at HU.out m k HM.out.symm y hy
        simp only [Value.slice.injEq] at e2
        obtain ⟨rfl, -, rfl⟩ := e2
        obtain ⟨ao2, c2, rfl⟩ := dots_shape he y.length rfl
        obtain ⟨n2, hn2⟩ : ∃ n2, n2 = y.length := ⟨_, rfl⟩
        rw [← hn2] at d2 he
        clear hbm ha
        have c0 := cell_under d2 hb
        have HR := Lib.hid (row_old he (Nat.le_refl _) hb)
        have HT := Lib.hid (show (joinM a b).take (k + 1) = (joinM a b).take k ++ [y] from take_at11 (by rw [joinM_at, hy, hnone]))
        have HO := Lib.hid ho
        have HB := Lib.hid hb
        have HUS := Lib.hid hus
        clear d2 he hy hnone ho hb hus hn2 hk
        go_wp2_with (first
          | (at_builtin; refine append_row rfl (.tmp 34) (.tmp 39) 22 rfl w.heap.size i0 Tryd.underlying22 hi (infoVec3 hz0) _ us (y, _) rfl (ownMat_below HO.out ((Below.refl _ _).alloc (Nat.le_refl _) _)) (row_below HR.out ((Below.refl _ _).alloc (Nat.le_refl _) _)) ⟨wr.heap.size, 0, none⟩ 1 rfl ((cell_of_row _ _ 0 _ _ _ (heap_last wr _)).trans rfl) HLEN.out (by have := HB.out.size; simp <;> omega) ?_; intro v7 w7 ho7 hg7; have HO7 := Lib.hid ho7; have HB7 := Lib.hid (below_grown (HB.out.alloc HB.out.size _) hg7 (by have := HB.out.size; simp <;> omega) (fun j hj => (HO.out.1.lt j hj).1)); clear ho7 hg7))
        refine ⟨⟨k + 1, us ++ [_], KK.out.1, by simp, by rw [List.map_append, HUS.out, HT.out]; rfl, HO7.out, HB7.out⟩, ?_⟩
        have := KK.out.2; simp [intOf] <;> omega
      · have q1 : ¬ (k : Int) < (m : Int) := by omega
        have d1' : decide ((k : Int) < (m : Int)) = false := decide_eq_false q1
        have HF := Lib.hid (show HasMat wr (.slice oo K0 oc) (joinM a b) by
          rw [List.take_of_length_le (by rw [HTOT.out]; omega)] at hus
          rw [← hus]; exact mat_of_own ho)
        have HB := Lib.hid hb
        clear ho hb hus hbm ha hk
        go_wp2
        go_ret
        exact ⟨_, rfl, HF.out, HB.out⟩
end Go.Proofs.YtcnjgdnokiindaaDoor
namespace Go.Proofs.YtcnjgdnokiindaaDoor
open Go.RowKit
/-- Whether all pieces are dots. -/
def allP (ps : List (List UInt8)) : Bool := ps.all (fun p => parErr p == 0)
theorem allP_snoc (ps : List (List UInt8)) (p : List UInt8) : allP (ps ++ [p]) = (allP ps && parErr p == 0) := by simp [allP, List.all_append]
theorem allP_bad {s : List UInt8} (h : s ≠ [45]) {ps : List (List UInt8)} (hp : ∃ r, piecesB 44 s = ps ++ r) (hb : allP ps = false) : parVErr s = 2 ∧ parV s = [] := by
  obtain ⟨r, hr⟩ := hp
  refine par_bad h ?_
  rw [goodP]
  have : (piecesB 44 s).all (fun p => parErr p == 0) = false := by
    rw [hr, List.all_append, show ps.all (fun p => parErr p == 0) = false from hb]; rfl
  rw [this]; rfl
/-- What the last comparison tells. -/
theorem last_cmp {s : List UInt8} (h : s ≠ [45]) (ha : allP (piecesB 44 s) = true) : (textV ((piecesB 44 s).map dotOf) = s ∧ parVErr s = 0 ∧ parV s = (piecesB 44 s).map dotOf) ∨ (textV ((piecesB 44 s).map dotOf) ≠ s ∧ parVErr s = 2 ∧ parV s = []) := by
  have hps : vecPs s = piecesB 44 s := by rw [vecPs, if_neg h]
  have hd : dotsOf s = (piecesB 44 s).map dotOf := by rw [dotsOf, hps]
  by_cases e : textV ((piecesB 44 s).map dotOf) = s
  · have hi : isVecT s = true := by
      rw [isVecT, hps, hd, show (piecesB 44 s).all (fun p => parErr p == 0) = true from ha, Bool.true_and, beq_iff_eq]; exact e
    exact .inl ⟨e, by rw [parVErr, hi]; rfl, by rw [parV, hi, hd]; rfl⟩
  · have hi : isVecT s = false := by
      rw [isVecT, hd, Bool.and_eq_false_iff]; right; rw [beq_eq_false_iff_ne]; exact e
    exact .inr ⟨e, by rw [parVErr, hi]; rfl, by rw [parV, hi]; rfl⟩
/-- The pieces that are whole ahead of a place are the first ones. -/
theorem cut_take (c : UInt8) (s : List UInt8) (k : Nat) : ∃ r, piecesB c s = (cutS c (s.take k)).1 ++ r := by
  have h : ∀ (r : List UInt8) (st : List (List UInt8) × List UInt8), ∃ z, (r.foldl (cutStep c) st).1 = st.1 ++ z := by
    intro r
    induction r with
    | nil => intro st; exact ⟨[], by simp⟩
    | cons b t ih =>
      intro st
      obtain ⟨z, hz⟩ := ih (cutStep c st b)
      rw [List.foldl_cons, hz]
      unfold cutStep
      split
      · exact ⟨[st.2] ++ z, by simp⟩
      · exact ⟨z, rfl⟩
  obtain ⟨z, hz⟩ := h (s.drop k) (cutS c (s.take k))
  refine ⟨z ++ [(cutS c s).2], ?_⟩
  have e : cutS c s = (s.drop k).foldl (cutStep c) (cutS c (s.take k)) := by
    conv => lhs; rw [← List.take_append_drop k s]
    rw [cutS, List.foldl_append]; rfl
  rw [piecesB, ← List.append_assoc, ← hz, ← e]
/-- Where a reading of a text stands: k bytes are read, the last piece began at f, the whole ones ahead of it are L. -/
def AtCut (s : List UInt8) (m k f : Nat) (L : List (List UInt8)) : Prop :=
  allP L = true ∧ ((k ≤ m ∧ f ≤ k ∧ f + (cutS 44 (s.take k)).2.length = k ∧ L = (cutS 44 (s.take k)).1) ∨ (k = m + 1 ∧ L = piecesB 44 s))
theorem atCut_start (s : List UInt8) (m : Nat) : AtCut s m 0 0 [] := ⟨rfl, .inl ⟨by omega, Nat.le_refl _, rfl, rfl⟩⟩
/-- The piece that ends at a place. -/
theorem cut_piece {s : List UInt8} {m k f : Nat} {L : List (List UInt8)} (h : AtCut s m k f L) (hm : m = s.length) (hk : k ≤ m) : f ≤ k ∧ (s.take k).drop f = (cutS 44 (s.take k)).2 ∧ L = (cutS 44 (s.take k)).1 := by
  obtain ⟨-, ⟨-, h0, h1, h2⟩ | ⟨h1, -⟩⟩ := h
  · have h3 := cut_end 44 (s.take k)
    rw [List.length_take, Nat.min_eq_left (by omega), show k - (cutS 44 (s.take k)).2.length = f by omega] at h3
    exact ⟨h0, h3, h2⟩
  · omega
theorem atCut_other {s : List UInt8} {m k f : Nat} {L : List (List UInt8)} {c : UInt8} (h : AtCut s m k f L) (hm : m = s.length) (hc : s[k]? = some c) (h44 : c ≠ 44) : AtCut s m (k + 1) f L := by
  obtain ⟨hlt, he⟩ := List.getElem?_eq_some_iff.1 hc
  obtain ⟨ha, ⟨h1, h0, h2, h3⟩ | ⟨h1, -⟩⟩ := h
  · refine ⟨ha, .inl ⟨by omega, by omega, ?_, ?_⟩⟩
    · rw [cutS_take 44 hlt, he, cutStep, if_neg h44, List.length_append, List.length_singleton]; omega
    · rw [cutS_take 44 hlt, he, cutStep, if_neg h44, h3]
  · omega
theorem atCut_comma {s : List UInt8} {m k f : Nat} {L : List (List UInt8)} {p : List UInt8} (h : AtCut s m k f L) (hm : m = s.length) (hc : s[k]? = some 44) (hp : p = (cutS 44 (s.take k)).2) (he : parErr p = 0) : AtCut s m (k + 1) (k + 1) (L ++ [p]) := by
  obtain ⟨hlt, hx⟩ := List.getElem?_eq_some_iff.1 hc
  obtain ⟨ha, ⟨h1, h0, h2, h3⟩ | ⟨h1, -⟩⟩ := h
  · refine ⟨by rw [allP_snoc, ha, he]; rfl, .inl ⟨by omega, Nat.le_refl _, ?_, ?_⟩⟩
    · rw [cutS_take 44 hlt, hx, cutStep, if_pos rfl]; rfl
    · rw [cutS_take 44 hlt, hx, cutStep, if_pos rfl, h3, hp]
  · omega
theorem atCut_end {s : List UInt8} {m f : Nat} {L : List (List UInt8)} {p : List UInt8} (h : AtCut s m m f L) (hm : m = s.length) (hp : p = (cutS 44 (s.take m)).2) (he : parErr p = 0) : AtCut s m (m + 1) (m + 1) (L ++ [p]) := by
  obtain ⟨ha, ⟨h1, h0, h2, h3⟩ | ⟨h1, -⟩⟩ := h
  · refine ⟨by rw [allP_snoc, ha, he]; rfl, .inr ⟨rfl, ?_⟩⟩
    rw [h3, hp, hm, List.take_length, piecesB]
  · omega
theorem atCut_bad {s : List UInt8} {m k f : Nat} {L : List (List UInt8)} {p : List UInt8} (h : AtCut s m k f L) (hm : m = s.length) (hk : k ≤ m) (h45 : s ≠ [45]) (hend : k = m ∨ s[k]? = some 44) (hp : p = (cutS 44 (s.take k)).2) (he : parErr p ≠ 0) : parVErr s = 2 ∧ parV s = [] := by
  have hb : allP (L ++ [p]) = false := by rw [allP_snoc, beq_eq_false_iff_ne.2 he, Bool.and_false]
  refine allP_bad h45 (ps := L ++ [p]) ?_ hb
  have hL := (cut_piece h hm hk).2.2
  rcases hend with rfl | hc
  · exact ⟨[], by rw [hL, hp, hm, List.take_length, piecesB, List.append_nil]⟩
  · obtain ⟨hlt, hx⟩ := List.getElem?_eq_some_iff.1 hc
    obtain ⟨r, hr⟩ := cut_take 44 s (k + 1)
    rw [cutS_take 44 hlt, hx, cutStep, if_pos rfl] at hr
    exact ⟨r, by rw [hr, hL, hp]⟩
theorem atCut_len {s : List UInt8} {m k f : Nat} {L : List (List UInt8)} (h : AtCut s m k f L) (hm : m = s.length) : L.length ≤ m + 1 := by
  obtain ⟨-, ⟨h1, -, -, h3⟩ | ⟨-, h3⟩⟩ := h
  · rw [h3]; have := pieces_count 44 (s.take k); rw [List.length_take] at this; omega
  · rw [h3]; have := pieces_length 44 s; omega
set_option maxRecDepth 100000 in
set_option maxHeartbeats 16000000 in
theorem refParse_typ10 (s : List UInt8) (hs : s.length < 1048576) (w : World) : Calls Tryd.prog 30 #[.string (str s)] w fun e w' => ∃ v, e = .returned (.tuple #[v, .int .i64 (parVErr s)]) ∧ TypDots w' v (parV s) ∧ Below w.heap.size w w' := by
  obtain ⟨i0, hi, hz⟩ := infoDot
  obtain ⟨m, hm⟩ : ∃ m, m = s.length := ⟨_, rfl⟩
  have HM := Lib.hid hm
  have hsz : (str s).size = m := by rw [str_size, hm]
  rw [← hm] at hs
  have s2 : (str s).toList = s := str_toList s
  have s3 : (ByteArray.mk #[45]).toList = [45] := ByteArray.toList_mk _
  by_cases h45 : s = [45]
  · have HP := Lib.hid (show parVErr s = 0 ∧ parV s = [] by rw [h45]; exact par_hyphen)
    have q1 : (s == [45]) = true := by rw [h45]; rfl
    have TX := Lib.hid (fun w => refText_any10 [] (by simp) (.slice none 0 0) w (dots_nil w))
    rw [show textV [] = s by rw [h45]; decide +kernel] at TX
    clear h45 hs hm
    go_enter Tryd.func30, Tryd.ntmps30
    go_wp2
    go_loopw [4, 5, 6] (fun o f c wr => o = .slice none 0 0 ∧ c = .int .i64 0 ∧ wr = w) (fun _ _ _ _ => 0)
    case atStart => exact ⟨rfl, rfl, rfl⟩
    case round =>
      obtain ⟨rfl, rfl, rfl⟩ := hrel
      go_wp2_with (first | (go_at_call 38; refine (TX.out _).mono ?_; rintro e w2 ⟨rfl, hb⟩; have B2 := Lib.hid hb; clear hb))
      go_ret2
      exact ⟨_, by rw [HP.out.1]; rfl, by rw [HP.out.2]; exact typ_nil _, B2.out⟩
  · have q1 : (s == [45]) = false := by rw [beq_eq_false_iff_ne]; exact h45
    have HH := Lib.hid h45
    have HMS := Lib.hid hs
    clear h45 hm
    go_enter Tryd.func30, Tryd.ntmps30
    go_wp2
    go_loopw [4, 5, 6] (fun o x c wr => ∃ (f k : Nat) (L : List (List UInt8)), k ≤ m + 1 ∧ c = .int .i64 (k : Int) ∧ x = .int .i64 (f : Int) ∧ AtCut s m k f L ∧ wr.ownsRow w.heap.size 44 2 o (L.map dotOf).length (dotsC (L.map dotOf)) ∧ Below w.heap.size w wr) (fun _ _ c _ => m + 1 - (intOf c).toNat)
    case atStart => exact ⟨0, 0, [], by omega, rfl, rfl, atCut_start s m, dots_own_nil _ _ _, Below.refl _ _⟩
    case round =>
      obtain ⟨f, k, L, hk, rfl, rfl, hcut, ho, hb⟩ := hrel
      have HC := Lib.hid hcut
      have HO := Lib.hid ho
      have HB := Lib.hid hb
      by_cases hkn : k ≤ m
      · have q0 : ¬ (m : Int) < (k : Int) := by omega
        have KK := Lib.hid (show k + 1 ≤ m + 1 ∧ m + 1 - (k + 1) < m + 1 - k by omega)
        obtain ⟨hfk, hpe, hLe⟩ := cut_piece hcut HM.out hkn
        have sl : ∀ w, (Instr.slice 9 (.string (str s)) (some (.int .i64 (f : Int))) (some (.int .i64 (k : Int))) none).run Tryd.prog w = .ok (.string (str ((s.take k).drop f))) w := fun w => slice_mid w 9 s f k hfk (by rw [← HM.out]; exact hkn) Tryd.underlying9
        rw [hpe] at sl
        obtain ⟨p, hpp⟩ : ∃ p, p = (cutS 44 (s.take k)).2 := ⟨_, rfl⟩
        rw [← hpp] at sl
        have HPL := Lib.hid (show p.length ≤ m by rw [hpp]; have h := cut_length 44 (s.take k); rw [List.length_take] at h; omega)
        clear hpe hLe hcut ho hb hfk
        by_cases hend : k = m
        · subst hend
          have PX := Lib.hid (fun w => refParse_any9 p (by have h1 := HPL.out; have h2 := HMS.out; omega) w)
          obtain ⟨r, hr'⟩ : ∃ r, r = parR p := ⟨_, rfl⟩
          obtain ⟨q, hq'⟩ : ∃ q, q = parQ p := ⟨_, rfl⟩
          obtain ⟨E, hE⟩ : ∃ E, E = parErr p := ⟨_, rfl⟩
          rw [← hr', ← hq', ← hE] at PX
          have HN := Lib.hid (show (L ++ [p]).map dotOf = L.map dotOf ++ [(r, q)] by rw [List.map_append, hr', hq']; rfl)
          have HLL := Lib.hid (show (L.map dotOf).length + 1 ≤ 2000000 by have h := atCut_len HC.out HM.out; have h2 := HMS.out; rw [List.length_map]; omega)
          clear hr' hq'
          by_cases hE0 : E = 0
          · have HX := Lib.hid (atCut_end HC.out HM.out hpp (by rw [← hE]; exact hE0))
            subst hE0
            clear hE hpp
            go_wp2_with (first
              | (go_at_call 56; refine (PX.out _).mono ?_; rintro e w2 ⟨rfl, hb⟩; have B2 := Lib.hid (below_next HB.out hb); have O2 := Lib.hid (own_below HO.out hb); clear hb)
              | (refine load_row_on (by rfl) 44 (.tmp 7) rfl w2.heap.size rfl 44 _ (0, 0) _ (heap_last w2 _) Tryd.underlying44 rfl (by kernel_rfl) ?_)
              | (at_builtin; refine append_dot rfl (.tmp 39) (.tmp 41) 37 rfl w.heap.size 44 i0 Tryd.underlying37 hi hz _ (L.map dotOf) (r, q) rfl ((O2.out.alloc _).alloc _) ⟨w2.heap.size + 1, 0, none⟩ 1 rfl ⟨(cell_of_row _ _ 0 _ _ _ (alloc2_1 w2 _ _)).trans rfl, by rw [Addr.add_lit]; exact (cell_of_row _ _ (0 + 1) _ _ _ (alloc2_1 w2 _ _)).trans rfl⟩ HLL.out (by have := B2.out.size; simp <;> omega) ?_; intro v1 w3 ho hg; rw [← HN.out] at ho; have HO1 := Lib.hid ho; have HB1 := Lib.hid (below_grown ((B2.out.alloc B2.out.size _).alloc (by have := B2.out.size; simp <;> omega) _) hg (by have := B2.out.size; simp <;> omega) (fun j hj => by have := (O2.out.lt j hj).1; omega)); clear ho hg))
            refine ⟨⟨k + 1, k + 1, L ++ [p], KK.out.1, by simp, by simp, HX.out, HO1.out, HB1.out⟩, ?_⟩
            have := KK.out.2; simp [intOf] <;> omega
          · have HX := Lib.hid (atCut_bad HC.out HM.out hkn HH.out (.inl rfl) hpp (by rw [← hE]; exact hE0))
            have t1 : (E != 0) = true := bne_iff_ne.2 hE0
            clear hE hpp hE0
            go_wp2_with (first
              | (go_at_call 56; refine (PX.out _).mono ?_; rintro e w2 ⟨rfl, hb⟩; have B2 := Lib.hid (below_next HB.out hb); have O2 := Lib.hid (own_below HO.out hb); clear hb))
            go_ret2
            exact ⟨_, by rw [HX.out.1]; rfl, by rw [HX.out.2]; exact typ_nil _, B2.out.alloc B2.out.size _⟩
        · obtain ⟨c, hc⟩ : ∃ c, s[k]? = some c := ⟨s[k]'(by have := HM.out; omega), List.getElem?_eq_getElem _⟩
          have i1 := fun w => index_str (P := Tryd.prog) w s .i64 k c hc Tryd.underlying9
          obtain ⟨x, hx⟩ : ∃ x, c.toNat = x := ⟨_, rfl⟩
          rw [hx] at i1
          have t2 : ((k : Int) == (m : Int)) = false := beq_eq_false_iff_ne.2 (by omega)
          have q2 : (k : Int) < (m : Int) := by omega
          by_cases h44 : x = 44
          · subst h44
            have hc44 : s[k]? = some 44 := by rw [hc]; exact congrArg some (UInt8.toNat_inj.1 hx)
            have HC44 := Lib.hid hc44
            clear hc hx hend
            have PX := Lib.hid (fun w => refParse_any9 p (by have h1 := HPL.out; have h2 := HMS.out; omega) w)
            obtain ⟨r, hr'⟩ : ∃ r, r = parR p := ⟨_, rfl⟩
            obtain ⟨q, hq'⟩ : ∃ q, q = parQ p := ⟨_, rfl⟩
            obtain ⟨E, hE⟩ : ∃ E, E = parErr p := ⟨_, rfl⟩
            rw [← hr', ← hq', ← hE] at PX
            have HN := Lib.hid (show (L ++ [p]).map dotOf = L.map dotOf ++ [(r, q)] by rw [List.map_append, hr', hq']; rfl)
            have HLL := Lib.hid (show (L.map dotOf).length + 1 ≤ 2000000 by have h := atCut_len HC.out HM.out; have h2 := HMS.out; rw [List.length_map]; omega)
            clear hr' hq' hc44
            by_cases hE0 : E = 0
            · have HX := Lib.hid (atCut_comma HC.out HM.out HC44.out hpp (by rw [← hE]; exact hE0))
              subst hE0
              clear hE hpp
              go_wp2_with (first
                | (go_at_call 56; refine (PX.out _).mono ?_; rintro e w2 ⟨rfl, hb⟩; have B2 := Lib.hid (below_next HB.out hb); have O2 := Lib.hid (own_below HO.out hb); clear hb)
                | (refine load_row_on (by rfl) 44 (.tmp 7) rfl w2.heap.size rfl 44 _ (0, 0) _ (heap_last w2 _) Tryd.underlying44 rfl (by kernel_rfl) ?_)
                | (at_builtin; refine append_dot rfl (.tmp 39) (.tmp 41) 37 rfl w.heap.size 44 i0 Tryd.underlying37 hi hz _ (L.map dotOf) (r, q) rfl ((O2.out.alloc _).alloc _) ⟨w2.heap.size + 1, 0, none⟩ 1 rfl ⟨(cell_of_row _ _ 0 _ _ _ (alloc2_1 w2 _ _)).trans rfl, by rw [Addr.add_lit]; exact (cell_of_row _ _ (0 + 1) _ _ _ (alloc2_1 w2 _ _)).trans rfl⟩ HLL.out (by have := B2.out.size; simp <;> omega) ?_; intro v1 w3 ho hg; rw [← HN.out] at ho; have HO1 := Lib.hid ho; have HB1 := Lib.hid (below_grown ((B2.out.alloc B2.out.size _).alloc (by have := B2.out.size; simp <;> omega) _) hg (by have := B2.out.size; simp <;> omega) (fun j hj => by have := (O2.out.lt j hj).1; omega)); clear ho hg))
              refine ⟨⟨k + 1, k + 1, L ++ [p], KK.out.1, by simp, by simp, HX.out, HO1.out, HB1.out⟩, ?_⟩
              have := KK.out.2; simp [intOf] <;> omega
            · have HX := Lib.hid (atCut_bad HC.out HM.out hkn HH.out (.inr HC44.out) hpp (by rw [← hE]; exact hE0))
              have t1 : (E != 0) = true := bne_iff_ne.2 hE0
              clear hE hpp hE0
              go_wp2_with (first
                | (go_at_call 56; refine (PX.out _).mono ?_; rintro e w2 ⟨rfl, hb⟩; have B2 := Lib.hid (below_next HB.out hb); have O2 := Lib.hid (own_below HO.out hb); clear hb))
              go_ret2
              exact ⟨_, by rw [HX.out.1]; rfl, by rw [HX.out.2]; exact typ_nil _, B2.out.alloc B2.out.size _⟩
          · have HX := Lib.hid (atCut_other HC.out HM.out hc (fun e => h44 (by rw [← hx, e]; rfl)))
            have t3 : ((x : Int) == 44) = false := beq_eq_false_iff_ne.2 (by omega)
            clear hc hx hend hpp h44
            go_wp2
            refine ⟨⟨f, k + 1, L, KK.out.1, by simp, by simp, HX.out, HO.out, HB.out⟩, ?_⟩
            have := KK.out.2; simp [intOf] <;> omega
      · obtain rfl : k = m + 1 := by omega
        have hL : L = piecesB 44 s := by
          obtain ⟨-, ⟨h1, -⟩ | ⟨-, h3⟩⟩ := hcut
          · omega
          · exact h3
        have hall : allP L = true := hcut.1
        have q0 : (m : Int) < ((m + 1 : Nat) : Int) := by omega
        have hlen := atCut_len hcut HM.out
        obtain ⟨ao, cap, rfl⟩ := own_slice ho
        have HD := Lib.hid (typ_of_own ho)
        have TX := Lib.hid (fun w hv => refText_any10 (L.map dotOf) (by have h2 := HMS.out; rw [List.length_map]; omega) (.slice ao (L.map dotOf).length cap) w hv)
        obtain ⟨K, hK⟩ : ∃ K, K = (L.map dotOf).length := ⟨_, rfl⟩
        rw [← hK] at TX HD ⊢
        have HLC := Lib.hid (last_cmp HH.out (by rw [← hL]; exact hall))
        rw [← hL] at HLC
        obtain ⟨T, hT⟩ : ∃ T, T = textV (L.map dotOf) := ⟨_, rfl⟩
        rw [← hT] at TX HLC
        have s4 : (str T).toList = T := str_toList T
        clear hL hall hcut ho hb hK hT hkn hlen
        rcases HLC.out with ⟨h1, h2, h3⟩ | ⟨h1, h2, h3⟩
        · have HE := Lib.hid (And.intro h2 h3)
          have t1 : (T == s) = true := beq_iff_eq.2 h1
          clear h1 h2 h3 HLC
          go_wp2_with (first | (go_at_call 38; refine (TX.out _ HD.out.1).mono ?_; rintro e w2 ⟨rfl, hb⟩; have B2 := Lib.hid hb; clear hb))
          go_ret2
          exact ⟨_, by rw [HE.out.1]; rfl, by rw [HE.out.2]; exact typ_below HD.out B2.out, below_next HB.out B2.out⟩
        · have HE := Lib.hid (And.intro h2 h3)
          have t1 : (T == s) = false := beq_eq_false_iff_ne.2 h1
          clear h1 h2 h3 HLC
          go_wp2_with (first | (go_at_call 38; refine (TX.out _ HD.out.1).mono ?_; rintro e w2 ⟨rfl, hb⟩; have B2 := Lib.hid hb; clear hb))
          go_ret2
          exact ⟨_, by rw [HE.out.1]; rfl, by rw [HE.out.2]; exact typ_nil _, below_next HB.out B2.out⟩
end Go.Proofs.YtcnjgdnokiindaaDoor
namespace Go.Proofs.YtcnjgdnokiindaaDoor
open Go.RowKit
/-- Whether all pieces are vectors. -/
def allM (ps : List (List UInt8)) : Bool := ps.all isVecT
theorem allM_snoc (ps : List (List UInt8)) (p : List UInt8) : allM (ps ++ [p]) = (allM ps && isVecT p) := by simp [allM, List.all_append]
theorem isVecT_err (p : List UInt8) : isVecT p = true ↔ parVErr p = 0 := by
  unfold parVErr; cases isVecT p <;> simp
theorem parV_len (p : List UInt8) : (parV p).length ≤ 32 := by
  cases h : isVecT p with
  | true => exact rising_length (text_parseV h).1
  | false => rw [parV, h]; exact Nat.zero_le _
theorem allM_bad {s : List UInt8} {n : Int} {ps : List (List UInt8)} (hp : ∃ r, piecesB 59 s = ps ++ r) (hb : allM ps = false) : parMErr s n = 2 ∧ parM s n = [] := by
  obtain ⟨r, hr⟩ := hp
  have h : isMatT s n = false := by
    rw [isMatT, hr, List.all_append, show ps.all isVecT = false from hb]; rfl
  rw [parMErr, parM, h]; exact ⟨rfl, rfl⟩
/-- What is asked of the rows behind the last one. -/
theorem last_may {s : List UInt8} (ha : allM (piecesB 59 s) = true) (n : Int) : (mayM ((piecesB 59 s).map parV) n = true ∧ parMErr s n = 0 ∧ parM s n = (piecesB 59 s).map parV) ∨ (mayM ((piecesB 59 s).map parV) n = false ∧ parMErr s n = 2 ∧ parM s n = []) := by
  have e : mayM ((piecesB 59 s).map parV) n = isMatT s n := by
    have h1 : ((piecesB 59 s).map parV).all mayV = true := by
      rw [List.all_eq_true]
      intro l hl
      obtain ⟨p, hp, rfl⟩ := List.mem_map.1 hl
      exact (text_parseV (List.all_eq_true.1 ha p hp)).1
    rw [mayM, isMatT, h1, show (piecesB 59 s).all isVecT = true from ha, List.length_map]
  cases h : isMatT s n with
  | true => exact .inl ⟨by rw [e, h], by rw [parMErr, h]; rfl, by rw [parM, h]; rfl⟩
  | false => exact .inr ⟨by rw [e, h], by rw [parMErr, h]; rfl, by rw [parM, h]; rfl⟩
/-- Where a reading of a text stands: k bytes are read, the last piece began at f, the whole ones ahead of it are L. -/
def AtSemi (s : List UInt8) (m k f : Nat) (L : List (List UInt8)) : Prop :=
  allM L = true ∧ ((k ≤ m ∧ f ≤ k ∧ f + (cutS 59 (s.take k)).2.length = k ∧ L = (cutS 59 (s.take k)).1) ∨ (k = m + 1 ∧ L = piecesB 59 s))
theorem atSemi_start (s : List UInt8) (m : Nat) : AtSemi s m 0 0 [] := ⟨rfl, .inl ⟨by omega, Nat.le_refl _, rfl, rfl⟩⟩
theorem semi_piece {s : List UInt8} {m k f : Nat} {L : List (List UInt8)} (h : AtSemi s m k f L) (hm : m = s.length) (hk : k ≤ m) : f ≤ k ∧ (s.take k).drop f = (cutS 59 (s.take k)).2 ∧ L = (cutS 59 (s.take k)).1 := by
  obtain ⟨-, ⟨-, h0, h1, h2⟩ | ⟨h1, -⟩⟩ := h
  · have h3 := cut_end 59 (s.take k)
    rw [List.length_take, Nat.min_eq_left (by omega), show k - (cutS 59 (s.take k)).2.length = f by omega] at h3
    exact ⟨h0, h3, h2⟩
  · omega
theorem atSemi_other {s : List UInt8} {m k f : Nat} {L : List (List UInt8)} {c : UInt8} (h : AtSemi s m k f L) (hm : m = s.length) (hc : s[k]? = some c) (h59 : c ≠ 59) : AtSemi s m (k + 1) f L := by
  obtain ⟨hlt, he⟩ := List.getElem?_eq_some_iff.1 hc
  obtain ⟨ha, ⟨h1, h0, h2, h3⟩ | ⟨h1, -⟩⟩ := h
  · refine ⟨ha, .inl ⟨by omega, by omega, ?_, ?_⟩⟩
    · rw [cutS_take 59 hlt, he, cutStep, if_neg h59, List.length_append, List.length_singleton]; omega
    · rw [cutS_take 59 hlt, he, cutStep, if_neg h59, h3]
  · omega
theorem atSemi_semi {s : List UInt8} {m k f : Nat} {L : List (List UInt8)} {p : List UInt8} (h : AtSemi s m k f L) (hm : m = s.length) (hc : s[k]? = some 59) (hp : p = (cutS 59 (s.take k)).2) (he : parVErr p = 0) : AtSemi s m (k + 1) (k + 1) (L ++ [p]) := by
  obtain ⟨hlt, hx⟩ := List.getElem?_eq_some_iff.1 hc
  obtain ⟨ha, ⟨h1, h0, h2, h3⟩ | ⟨h1, -⟩⟩ := h
  · refine ⟨by rw [allM_snoc, ha, (isVecT_err p).2 he]; rfl, .inl ⟨by omega, Nat.le_refl _, ?_, ?_⟩⟩
    · rw [cutS_take 59 hlt, hx, cutStep, if_pos rfl]; rfl
    · rw [cutS_take 59 hlt, hx, cutStep, if_pos rfl, h3, hp]
  · omega
theorem atSemi_end {s : List UInt8} {m f : Nat} {L : List (List UInt8)} {p : List UInt8} (h : AtSemi s m m f L) (hm : m = s.length) (hp : p = (cutS 59 (s.take m)).2) (he : parVErr p = 0) : AtSemi s m (m + 1) (m + 1) (L ++ [p]) := by
  obtain ⟨ha, ⟨h1, h0, h2, h3⟩ | ⟨h1, -⟩⟩ := h
  · refine ⟨by rw [allM_snoc, ha, (isVecT_err p).2 he]; rfl, .inr ⟨rfl, ?_⟩⟩
    rw [h3, hp, hm, List.take_length, piecesB]
  · omega
theorem atSemi_bad {s : List UInt8} {n : Int} {m k f : Nat} {L : List (List UInt8)} {p : List UInt8} (h : AtSemi s m k f L) (hm : m = s.length) (hk : k ≤ m) (hend : k = m ∨ s[k]? = some 59) (hp : p = (cutS 59 (s.take k)).2) (he : parVErr p ≠ 0) : parMErr s n = 2 ∧ parM s n = [] := by
  have hb : allM (L ++ [p]) = false := by
    rw [allM_snoc, show isVecT p = false from by
      rw [Bool.eq_false_iff]; exact fun h => he ((isVecT_err p).1 h), Bool.and_false]
  refine allM_bad (ps := L ++ [p]) ?_ hb
  have hL := (semi_piece h hm hk).2.2
  rcases hend with rfl | hc
  · exact ⟨[], by rw [hL, hp, hm, List.take_length, piecesB, List.append_nil]⟩
  · obtain ⟨hlt, hx⟩ := List.getElem?_eq_some_iff.1 hc
    obtain ⟨r, hr⟩ := cut_take 59 s (k + 1)
    rw [cutS_take 59 hlt, hx, cutStep, if_pos rfl] at hr
    exact ⟨r, by rw [hr, hL, hp]⟩
theorem atSemi_len {s : List UInt8} {m k f : Nat} {L : List (List UInt8)} (h : AtSemi s m k f L) (hm : m = s.length) : L.length ≤ m + 1 := by
  obtain ⟨-, ⟨h1, -, -, h3⟩ | ⟨-, h3⟩⟩ := h
  · rw [h3]; have := pieces_count 59 (s.take k); rw [List.length_take] at this; omega
  · rw [h3]; have := pieces_length 59 s; omega
set_option maxRecDepth 100000 in
set_option maxHeartbeats 16000000 in
theorem refParse_any11 (s : List UInt8) (hs : s.length < 1048576) (n : Int) (w : World) : Calls Tryd.prog 11 #[.string (str s), .int .i64 n] w fun e w' => ∃ v, e = .returned (.tuple #[v, .int .i64 (parMErr s n)]) ∧ HasMat w' v (parM s n) ∧ Below w.heap.size w w' := by
  obtain ⟨i0, hi, hz0⟩ := infoVec
  obtain ⟨m, hm⟩ : ∃ m, m = s.length := ⟨_, rfl⟩
  have HM := Lib.hid hm
  have hsz : (str s).size = m := by rw [str_size, hm]
  rw [← hm] at hs
  have s2 : (str s).toList = s := str_toList s
  have HMS := Lib.hid hs
  clear hm
  go_enter Tryd.func11, Tryd.ntmps11
  go_wp2
  go_loopw [6, 7, 8] (fun out x c wr => ∃ (f k : Nat) (L : List (List UInt8)) (us : List R2), k ≤ m + 1 ∧ c = .int .i64 (k : Int) ∧ x = .int .i64 (f : Int) ∧ AtSemi s m k f L ∧ us.map (·.1) = L.map parV ∧ OwnMat w.heap.size wr out us ∧ Below w.heap.size w wr) (fun _ _ c _ => m + 1 - (intOf c).toNat)
  case atStart => exact ⟨0, 0, [], [], by omega, rfl, rfl, atSemi_start s m, rfl, ownMat_nil _ _, Below.refl _ _⟩
  case round =>
    obtain ⟨f, k, L, us, hk, rfl, rfl, hcut, hus, ho, hb⟩ := hrel
    have HC := Lib.hid hcut
    have HO := Lib.hid ho
    have HB := Lib.hid hb
    have HUS := Lib.hid hus
    by_cases hkn : k ≤ m
    · have q0 : (k : Int) ≤ (m : Int) := by omega
      have KK := Lib.hid (show k + 1 ≤ m + 1 ∧ m + 1 - (k + 1) < m + 1 - k by omega)
      obtain ⟨hfk, hpe, hLe⟩ := semi_piece hcut HM.out hkn
      have sl : ∀ w, (Instr.slice 9 (.string (str s)) (some (.int .i64 (f : Int))) (some (.int .i64 (k : Int))) none).run Tryd.prog w = .ok (.string (str ((s.take k).drop f))) w := fun w => slice_mid w 9 s f k hfk (by rw [← HM.out]; exact hkn) Tryd.underlying9
      rw [hpe] at sl
      obtain ⟨p, hpp⟩ : ∃ p, p = (cutS 59 (s.take k)).2 := ⟨_, rfl⟩
      rw [← hpp] at sl
      have HPL := Lib.hid (show p.length ≤ m by rw [hpp]; have h := cut_length 59 (s.take k); rw [List.length_take] at h; omega)
      clear hpe hLe hcut ho hb hus hfk
      by_cases hend : k = m
      · subst hend
        have PX := Lib.hid (fun w => refParse_typ10 p (by have h1 := HPL.out; have h2 := HMS.out; omega) w)
        obtain ⟨E, hE⟩ : ∃ E, E = parVErr p := ⟨_, rfl⟩
        rw [← hE] at PX
        have HLL := Lib.hid (show us.length + 1 ≤ 2000000 by have h := atSemi_len HC.out HM.out; have h2 := HMS.out; have h3 := congrArg List.length HUS.out; rw [List.length_map, List.length_map] at h3; omega)
        have HN := Lib.hid (show ∀ z : Value, (us ++ [(parV p, z)]).map (·.1) = (L ++ [p]).map parV from fun z => by rw [List.map_append, HUS.out, List.map_append]; rfl)
        by_cases hE0 : E = 0
        · have HX := Lib.hid (atSemi_end HC.out HM.out hpp (by rw [← hE]; exact hE0))
          subst hE0
          clear hE hpp
          go_wp2_with (first
            | (go_at_call 30; refine (PX.out _).mono ?_; rintro e w2 ⟨z, rfl, hz, hb⟩; obtain ⟨zo, zc, rfl⟩ := dots_shape hz.1 _ rfl; have HZ := Lib.hid hz; have B2 := Lib.hid (below_next HB.out hb); have O2 := Lib.hid (ownMat_below HO.out hb); clear hb hz)
            | (at_builtin; refine append_row rfl (.tmp 37) (.tmp 39) 22 rfl w.heap.size i0 Tryd.underlying22 hi (infoVec3 hz0) _ us (parV p, _) rfl (ownMat_below O2.out ((Below.refl _ _).alloc (Nat.le_refl _) _)) (row_typ (typ_below HZ.out ((Below.refl _ _).alloc (Nat.le_refl _) _))) ⟨w2.heap.size, 0, none⟩ 1 rfl ((cell_of_row _ _ 0 _ _ _ (heap_last w2 _)).trans rfl) HLL.out (by have := B2.out.size; simp <;> omega) ?_; intro v1 w3 ho hg; have HO1 := Lib.hid ho; have HB1 := Lib.hid (below_grown (B2.out.alloc B2.out.size _) hg (by have := B2.out.size; simp <;> omega) (fun j hj => (O2.out.1.lt j hj).1)); clear ho hg))
          refine ⟨⟨k + 1, k + 1, L ++ [p], us ++ [_], KK.out.1, by simp, by simp, HX.out, HN.out _, HO1.out, HB1.out⟩, ?_⟩
          have := KK.out.2; simp [intOf] <;> omega
        · have HX := Lib.hid (atSemi_bad (n := n) HC.out HM.out hkn (.inl rfl) hpp (by rw [← hE]; exact hE0))
          have t1 : (E != 0) = true := bne_iff_ne.2 hE0
          clear hE hpp hE0
          go_wp2_with (first
            | (go_at_call 30; refine (PX.out _).mono ?_; rintro e w2 ⟨z, rfl, hz, hb⟩; obtain ⟨zo, zc, rfl⟩ := dots_shape hz.1 _ rfl; have HZ := Lib.hid hz; have B2 := Lib.hid (below_next HB.out hb); have O2 := Lib.hid (ownMat_below HO.out hb); clear hb hz))
          go_ret2
          exact ⟨_, by rw [HX.out.1]; rfl, by rw [HX.out.2]; exact mat_nil _, B2.out⟩
      · obtain ⟨c, hc⟩ : ∃ c, s[k]? = some c := ⟨s[k]'(by have := HM.out; omega), List.getElem?_eq_getElem _⟩
        have i1 := fun w => index_str (P := Tryd.prog) w s .i64 k c hc Tryd.underlying9
        obtain ⟨x, hx⟩ : ∃ x, c.toNat = x := ⟨_, rfl⟩
        rw [hx] at i1
        have t2 : ((k : Int) == (m : Int)) = false := beq_eq_false_iff_ne.2 (by omega)
        have q2 : (k : Int) < (m : Int) := by omega
        by_cases h59 : x = 59
        · subst h59
          have hc59 : s[k]? = some 59 := by rw [hc]; exact congrArg some (UInt8.toNat_inj.1 hx)
          have HC59 := Lib.hid hc59
          clear hc hx hend hc59
          have PX := Lib.hid (fun w => refParse_typ10 p (by have h1 := HPL.out; have h2 := HMS.out; omega) w)
          obtain ⟨E, hE⟩ : ∃ E, E = parVErr p := ⟨_, rfl⟩
          rw [← hE] at PX
          have HLL := Lib.hid (show us.length + 1 ≤ 2000000 by have h := atSemi_len HC.out HM.out; have h2 := HMS.out; have h3 := congrArg List.length HUS.out; rw [List.length_map, List.length_map] at h3; omega)
          have HN := Lib.hid (show ∀ z : Value, (us ++ [(parV p, z)]).map (·.1) = (L ++ [p]).map parV from fun z => by rw [List.map_append, HUS.out, List.map_append]; rfl)
          by_cases hE0 : E = 0
          · have HX := Lib.hid (atSemi_semi HC.out HM.out HC59.out hpp (by rw [← hE]; exact hE0))
            subst hE0
            clear hE hpp
            go_wp2_with (first
              | (go_at_call 30; refine (PX.out _).mono ?_; rintro e w2 ⟨z, rfl, hz, hb⟩; obtain ⟨zo, zc, rfl⟩ := dots_shape hz.1 _ rfl; have HZ := Lib.hid hz; have B2 := Lib.hid (below_next HB.out hb); have O2 := Lib.hid (ownMat_below HO.out hb); clear hb hz)
              | (at_builtin; refine append_row rfl (.tmp 37) (.tmp 39) 22 rfl w.heap.size i0 Tryd.underlying22 hi (infoVec3 hz0) _ us (parV p, _) rfl (ownMat_below O2.out ((Below.refl _ _).alloc (Nat.le_refl _) _)) (row_typ (typ_below HZ.out ((Below.refl _ _).alloc (Nat.le_refl _) _))) ⟨w2.heap.size, 0, none⟩ 1 rfl ((cell_of_row _ _ 0 _ _ _ (heap_last w2 _)).trans rfl) HLL.out (by have := B2.out.size; simp <;> omega) ?_; intro v1 w3 ho hg; have HO1 := Lib.hid ho; have HB1 := Lib.hid (below_grown (B2.out.alloc B2.out.size _) hg (by have := B2.out.size; simp <;> omega) (fun j hj => (O2.out.1.lt j hj).1)); clear ho hg))
            refine ⟨⟨k + 1, k + 1, L ++ [p], us ++ [_], KK.out.1, by simp, by simp, HX.out, HN.out _, HO1.out, HB1.out⟩, ?_⟩
            have := KK.out.2; simp [intOf] <;> omega
          · have HX := Lib.hid (atSemi_bad (n := n) HC.out HM.out hkn (.inr HC59.out) hpp (by rw [← hE]; exact hE0))
            have t1 : (E != 0) = true := bne_iff_ne.2 hE0
            clear hE hpp hE0
            go_wp2_with (first
              | (go_at_call 30; refine (PX.out _).mono ?_; rintro e w2 ⟨z, rfl, hz, hb⟩; obtain ⟨zo, zc, rfl⟩ := dots_shape hz.1 _ rfl; have HZ := Lib.hid hz; have B2 := Lib.hid (below_next HB.out hb); have O2 := Lib.hid (ownMat_below HO.out hb); clear hb hz))
            go_ret2
            exact ⟨_, by rw [HX.out.1]; rfl, by rw [HX.out.2]; exact mat_nil _, B2.out⟩
        · have HX := Lib.hid (atSemi_other HC.out HM.out hc (fun e => h59 (by rw [← hx, e]; rfl)))
          have t3 : ((x : Int) == 59) = false := beq_eq_false_iff_ne.2 (by omega)
          clear hc hx hend hpp h59
          go_wp2
          refine ⟨⟨f, k + 1, L, us, KK.out.1, by simp, by simp, HX.out, HUS.out, HO.out, HB.out⟩, ?_⟩
          have := KK.out.2; simp [intOf] <;> omega
    · obtain rfl : k = m + 1 := by omega
      have hL : L = piecesB 59 s := by
        obtain ⟨-, ⟨h1, -⟩ | ⟨-, h3⟩⟩ := hcut
        · omega
        · exact h3
      have hall : allM L = true := hcut.1
      have q0 : ¬ ((m + 1 : Nat) : Int) ≤ (m : Int) := by omega
      have hlen := atSemi_len hcut HM.out
      obtain ⟨oo, oc, rfl⟩ := ownMat_shape ho
      have HD := Lib.hid (show HasMat wr (.slice oo us.length oc) (L.map parV) by rw [← hus]; exact mat_of_own ho)
      have MM := Lib.hid (fun w hv => refMay_any11 (L.map parV) ⟨by have h2 := HMS.out; rw [List.length_map]; omega, fun l hl => by obtain ⟨p, -, rfl⟩ := List.mem_map.1 hl; have := parV_len p; omega⟩ n (.slice oo us.length oc) w hv)
      obtain ⟨K, hK⟩ : ∃ K, K = us.length := ⟨_, rfl⟩
      rw [← hK] at MM HD ⊢
      have HLM := Lib.hid (last_may (by rw [← hL]; exact hall) n)
      rw [← hL] at HLM
      obtain ⟨T, hT⟩ : ∃ T, T = mayM (L.map parV) n := ⟨_, rfl⟩
      rw [← hT] at MM HLM
      clear hL hall hcut ho hb hus hK hT hkn hlen
      rcases HLM.out with ⟨rfl, h2, h3⟩ | ⟨rfl, h2, h3⟩
      · have HE := Lib.hid (And.intro h2 h3)
        clear h2 h3 HLM
        go_wp2_with (first | (go_at_call 31; refine (MM.out _ HD.out).mono ?_; rintro e w2 ⟨rfl, hb⟩; have B2 := Lib.hid hb; clear hb))
        go_ret2
        exact ⟨_, by rw [HE.out.1]; rfl, by rw [HE.out.2]; exact mat_below HD.out B2.out, below_next HB.out B2.out⟩
      · have HE := Lib.hid (And.intro h2 h3)
        clear h2 h3 HLM
        go_wp2_with (first | (go_at_call 31; refine (MM.out _ HD.out).mono ?_; rintro e w2 ⟨rfl, hb⟩; have B2 := Lib.hid hb; clear hb))
        go_ret2
        exact ⟨_, by rw [HE.out.1]; rfl, by rw [HE.out.2]; exact mat_nil _, below_next HB.out B2.out⟩
end Go.Proofs.YtcnjgdnokiindaaDoor
namespace Go.Proofs.YtcnjgdnokiindaaDoor
open Go.RowKit
theorem joinV_ok (x y : List D2) : (joinV x y).length ≤ 1000 := by
  have h := joinV_len x y
  generalize joinV x y = z at *
  omega
theorem fits_join {a b : M2} (ha : Fits a) (hb : Fits b) : Fits (joinM a b) := by
  refine ⟨by rw [joinM_length]; have := ha.1; have := hb.1; omega, fun l hl => ?_⟩
  obtain ⟨k, hk⟩ := List.mem_iff_getElem?.1 hl
  rw [joinM_at] at hk
  split at hk
  · rw [← Option.some.inj hk]; exact joinV_ok _ _
  · rw [← Option.some.inj hk]; exact ha.2 _ (List.mem_of_getElem? ‹_›)
  · rw [← Option.some.inj hk]; exact hb.2 _ (List.mem_of_getElem? ‹_›)
  · simp at hk
theorem fits_raise {m : M2} (h : Fits m) (r : Int) (l : List D2) : Fits (raiseM m r l) := by
  refine ⟨by rw [raiseM_length]; exact h.1, fun x hx => ?_⟩
  unfold raiseM at hx
  split at hx
  · rcases List.mem_or_eq_of_mem_set hx with hx | e
    · exact h.2 x hx
    · rw [e]; exact joinV_ok _ _
  · exact h.2 x hx
theorem fits_new (n : Nat) (h : n ≤ 1000) : Fits (newM n) := by
  refine ⟨by rw [newM, List.length_replicate]; exact h, fun l hl => ?_⟩
  rw [newM, List.mem_replicate] at hl
  rw [hl.2]; exact Nat.zero_le _
theorem fits_two {m : M2} (h : Fits m) : m.length ≤ 2000000 ∧ ∀ l ∈ m, l.length < 2000000 :=
  ⟨by have := h.1; omega, fun l hl => by have := h.2 l hl; omega⟩
theorem parM_two (s : List UInt8) (n : Int) (hs : s.length < 1048576) : (parM s n).length ≤ 2000000 ∧ ∀ l ∈ parM s n, l.length < 2000000 := by
  unfold parM dotsM
  split
  · refine ⟨by rw [List.length_map]; have := pieces_length 59 s; omega, fun l hl => ?_⟩
    obtain ⟨p, -, rfl⟩ := List.mem_map.1 hl
    have := parV_len p; omega
  · exact ⟨Nat.zero_le _, fun _ h => by cases h⟩
theorem parM_fits (s : List UInt8) (n : Int) (hn : n ≤ 1000) : Fits (parM s n) := by
  unfold parM
  split
  · rename_i h
    simp only [isMatT, Bool.and_eq_true, decide_eq_true_eq] at h
    refine ⟨by rw [dotsM, List.length_map]; omega, fun l hl => ?_⟩
    obtain ⟨p, -, rfl⟩ := List.mem_map.1 hl
    have := parV_len p; omega
  · exact ⟨Nat.zero_le _, fun _ h => by cases h⟩
theorem same_self (a : M2) (hl : a.length ≤ 2000000 ∧ ∀ l ∈ a, l.length < 2000000) (v u : Value) (w : World) (hv : HasMat w v a) (hu : HasMat w u a) : Calls Tryd.prog 12 #[v, u] w fun e w' => e = .returned (.bool true) ∧ Below w.heap.size w w' := by
  have h := refSame_any11 a a hl v u w hv hu
  rwa [beq_self_eq_true] at h
theorem fitsOf {m : M2} (h : m.length ≤ 1000 ∧ ∀ l ∈ m, l.length ≤ 1000) : Fits m := h
theorem awake11_nums : ∃ A : M2, (parMErr [48, 58, 51, 44, 49, 58, 50, 59, 48, 58, 49] 2 = 0 ∧ parM [48, 58, 51, 44, 49, 58, 50, 59, 48, 58, 49] 2 = A) ∧ textV (lowM A) = [48, 58, 49] ∧ textM (raiseM A 1 [(1, 4)]) = [48, 58, 51, 44, 49, 58, 50, 59, 48, 58, 49, 44, 49, 58, 52] ∧ mayM A 2 = true ∧ (A.length ≤ 1000 ∧ ∀ l ∈ A, l.length ≤ 1000) ∧ ((raiseM A 1 [(1, 4)]).length ≤ 1000 ∧ ∀ l ∈ raiseM A 1 [(1, 4)], l.length ≤ 1000) ∧ (lowM A).length ≤ 32 ∧ (newM 3).length = 3 :=
  ⟨[[(0, 3), (1, 2)], [(0, 1)]], by decide +kernel⟩
set_option maxRecDepth 100000 in
set_option maxHeartbeats 32000000 in
theorem awake11_any (w : World) (hT : PowTab w) : Calls Tryd.prog 8 #[] w fun e w' => e = .returned (.bool true) ∧ Below w.heap.size w w' := by
  obtain ⟨A, ⟨a1, a2⟩, l1, r1, m1, fA, fR, lL, n3⟩ := awake11_nums
  have HT := Lib.hid hT
  have P1 := Lib.hid (show ∀ w, Calls Tryd.prog 10 #[.string ⟨#[48, 58, 51, 44, 49, 58, 50, 59, 48, 58, 49]⟩, .int .i64 2] w fun e w' => ∃ v, e = .returned (.tuple #[v, .int .i64 0]) ∧ HasMat w' v A ∧ Below w.heap.size w w' from fun w => by
    have h := matParse_any [48, 58, 51, 44, 49, 58, 50, 59, 48, 58, 49] (by decide) 2 w; rwa [a1, a2] at h)
  have RS := Lib.hid (fun w v u hv hu => matRaise_any A (fitsOf fA) 1 [(1, 4)] (by decide) v u w hv hu)
  have LO := Lib.hid (fun w v hv => matLow_any A (fitsOf fA) v w hv)
  have TV := Lib.hid (show ∀ w v, HasDots w v (lowM A) → PowTab w → Calls Tryd.prog 26 #[v] w fun e w' => e = .returned (.string ⟨#[48, 58, 49]⟩) ∧ Below w.heap.size w w' from fun w v hv hT => by
    have h := vecText_any (lowM A) (by omega) v w hv hT; rwa [l1] at h)
  obtain ⟨R, hR⟩ : ∃ R, R = raiseM A 1 [(1, 4)] := ⟨_, rfl⟩
  rw [← hR] at fR RS r1
  have TM := Lib.hid (show ∀ w v, HasMat w v R → PowTab w → Calls Tryd.prog 15 #[v] w fun e w' => e = .returned (.string ⟨#[48, 58, 51, 44, 49, 58, 50, 59, 48, 58, 49, 44, 49, 58, 52]⟩) ∧ Below w.heap.size w w' from fun w v hv hT => by
    have h := matText_any R (fitsOf fR) v w hv hT; rwa [r1] at h)
  have NW := Lib.hid (show ∀ w, Calls Tryd.prog 17 #[.int .i64 3] w fun e w' => ∃ v, e = .returned v ∧ HasMat w' v (newM 3) ∧ Below w.heap.size w w' from fun w => new_any 3 (by omega) (by omega) w)
  have MY := Lib.hid (fun w v hv => matMay_any A (fitsOf fA) 2 v w hv)
  rw [m1] at MY
  have N3 := Lib.hid n3
  have B0 := Lib.hid (Below.refl w.heap.size w)
  clear hT a1 a2 l1 r1 m1 fA fR lL hR n3
  go_enter Tryd.func8, Tryd.ntmps8
  go_wp2_with (first
    | (go_at_call 10; with_reducible refine (P1.out w).mono ?_; rintro e w1 ⟨x1, rfl, hx, hb⟩; have MA_1 := Lib.hid hx; obtain ⟨xo1, xc1, rfl⟩ := mat_shape hx _ rfl; have B1 := Lib.hid (below_next B0.out hb); clear hb hx)
    | (refine build_on (by rfl) 44 #[(0, .const (.int .i64 1)), (1, .const (.int .i64 4))] rfl _ _ (dot_built _ _) (by simp [Act.eval]) ?_)
    | (go_at_call 18; have HK := Lib.hid ((Below.refl w1.heap.size w1).alloc (Nat.le_refl _) (.cells #[.int .i64 1, .int .i64 4] 44 (0, 0))); refine (RS.out _ _ _ (mat_below MA_1.out HK.out) (dots_one w1 1 4)).mono ?_; rintro e w2 ⟨x2, rfl, hx, hb0⟩; have hb := below_next HK.out hb0; have MR_2 := Lib.hid hx; obtain ⟨xo2, xc2, rfl⟩ := mat_shape hx _ rfl; have MA_2 := Lib.hid (mat_below MA_1.out hb); have B2 := Lib.hid (below_next B1.out hb); clear hb hx hb0 HK)
    | (go_at_call 20; with_reducible refine (LO.out w2 _ MA_2.out).mono ?_; rintro e w3 ⟨x3, rfl, hx, hb⟩; have DL_3 := Lib.hid hx; obtain ⟨xo3, xc3, rfl⟩ := dots_shape hx _ rfl; have MA_3 := Lib.hid (mat_below MA_2.out hb); have MR_3 := Lib.hid (mat_below MR_2.out hb); have B3 := Lib.hid (below_next B2.out hb); clear hb hx)
    | (go_at_call 26; with_reducible refine (TV.out w3 _ DL_3.out (powTab_below HT.out B3.out)).mono ?_; rintro e w4 ⟨rfl, hb⟩; have MA_4 := Lib.hid (mat_below MA_3.out hb); have MR_4 := Lib.hid (mat_below MR_3.out hb); have B4 := Lib.hid (below_next B3.out hb); clear hb)
    | (go_at_call 15; with_reducible refine (TM.out w4 _ MR_4.out (powTab_below HT.out B4.out)).mono ?_; rintro e w5 ⟨rfl, hb⟩; have MA_5 := Lib.hid (mat_below MA_4.out hb); have B5 := Lib.hid (below_next B4.out hb); clear hb)
    | (go_at_call 17; with_reducible refine (NW.out w5).mono ?_; rintro e w6 ⟨x6, rfl, hx, hb⟩; have MN_6 := Lib.hid hx; obtain ⟨xo6, xc6, rfl⟩ := mat_shape hx 3 N3.out.symm; have MA_6 := Lib.hid (mat_below MA_5.out hb); have B6 := Lib.hid (below_next B5.out hb); clear hb hx)
    | (go_at_call 19; with_reducible refine (MY.out w6 _ MA_6.out).mono ?_; rintro e w7 ⟨rfl, hb⟩; have B7 := Lib.hid (below_next B6.out hb); clear hb))
  go_ret
  exact ⟨rfl, B7.out⟩
end Go.Proofs.YtcnjgdnokiindaaDoor
namespace Go.Proofs.YtcnjgdnokiindaaDoor
open Go.RowKit
/-- A replica and a vector. -/
abbrev W2 := Nat × List D2
/-- Raisings as the cells of a slice. -/
def raisC : List (W2 × Value) → List Value
  | [] => []
  | x :: t => .int .u8 (x.1.1 : Int) :: x.2 :: raisC t
theorem raisC_at (us : List (W2 × Value)) : ∀ k x, us[k]? = some x → (raisC us)[k * 2]? = some (.int .u8 (x.1.1 : Int)) ∧ (raisC us)[k * 2 + 1]? = some x.2 := by
  induction us with
  | nil => intro k x h; simp at h
  | cons y t ih =>
    intro k x h
    cases k with
    | zero => simp at h; subst h; exact ⟨rfl, rfl⟩
    | succ k =>
      have := ih k x (by simpa using h)
      rw [raisC, show (k + 1) * 2 = k * 2 + 2 from by omega]
      exact this
theorem raisC_inv (us : List (W2 × Value)) : ∀ j u, (raisC us)[j]? = some u → ∃ i x, us[i]? = some x ∧ ((j = i * 2 ∧ u = .int .u8 (x.1.1 : Int)) ∨ (j = i * 2 + 1 ∧ u = x.2)) := by
  induction us with
  | nil => intro j u h; simp [raisC] at h
  | cons x t ih =>
    intro j u h
    match j, h with
    | 0, h => exact ⟨0, x, rfl, .inl ⟨rfl, by simpa [raisC] using h.symm⟩⟩
    | 1, h => exact ⟨0, x, rfl, .inr ⟨rfl, by simpa [raisC] using h.symm⟩⟩
    | j + 2, h =>
      obtain ⟨i, y, h1, h2⟩ := ih j u (by simpa [raisC] using h)
      exact ⟨i + 1, y, by simpa using h1, h2.elim (fun ⟨a, b⟩ => .inl ⟨by omega, b⟩) (fun ⟨a, b⟩ => .inr ⟨by omega, b⟩)⟩
/-- A slice value whose elements are these. -/
def HasRaised (w : World) (v : Value) (l : List W2) : Prop :=
  ∃ us : List (W2 × Value), us.map (·.1) = l ∧ (∀ x ∈ us, HasDots w x.2 x.1.2) ∧ ∃ ao cap, v = .slice ao us.length cap ∧ (ao = none → us = [] ∧ cap = 0) ∧ ∀ ad, ao = some ad → us.length ≤ cap ∧ ∀ j u, (raisC us)[j]? = some u → w.cell? (ad.add j) = some u
theorem raised_nil (w : World) : HasRaised w (.slice none 0 0) [] := ⟨[], rfl, (fun _ h => by cases h), none, 0, rfl, fun _ => ⟨rfl, rfl⟩, fun _ h => by cases h⟩
theorem raised_below {w w' : World} {v : Value} {l : List W2} (h : HasRaised w v l) (hb : Below w.heap.size w w') : HasRaised w' v l := by
  obtain ⟨us, h1, h2, ao, cap, rfl, hnil, hc⟩ := h
  refine ⟨us, h1, fun x hx => dots_below (h2 x hx) hb, ao, cap, rfl, hnil, fun ad had => ⟨(hc ad had).1, fun j u hu => ?_⟩⟩
  have h1 := (hc ad had).2 j u hu
  exact (World.cell?_of_block (hb.block (ad.add j).block (World.block_lt_of_cell? w _ h1))).trans h1
theorem raised_shape {w : World} {v : Value} {l : List W2} (h : HasRaised w v l) (n : Nat) (hn : n = l.length) : ∃ ao cap, v = .slice ao n cap := by
  obtain ⟨us, rfl, -, ao, cap, rfl, -⟩ := h
  exact ⟨ao, cap, by rw [hn, List.length_map]⟩
/-- One of them. -/
theorem raised_at {w : World} {v : Value} {l : List W2} (h : HasRaised w v l) (n k : Nat) (hn : l.length = n) (f : W2) (hf : l[k]? = some f) : ∃ ad cap u, v = .slice (some ad) n cap ∧ w.cell? (ad.add (k * 2)) = some (.int .u8 (f.1 : Int)) ∧ w.cell? ⟨(ad.add (k * 2)).block, (ad.add (k * 2)).off + 1, none⟩ = some u ∧ HasDots w u f.2 := by
  obtain ⟨us, rfl, h2, ao, cap, rfl, hnil, hc⟩ := h
  rw [List.getElem?_map] at hf
  cases hx : us[k]? with
  | none => rw [hx] at hf; cases hf
  | some x =>
    rw [hx] at hf; cases hf
    cases ao with
    | none => obtain ⟨rfl, _⟩ := hnil rfl; simp at hx
    | some ad =>
      obtain ⟨p1, p2⟩ := raisC_at us k x hx
      exact ⟨ad, cap, x.2, by rw [← hn, List.length_map], (hc ad rfl).2 _ _ p1, by rw [← addr_next2]; exact (hc ad rfl).2 _ _ p2, h2 x (List.mem_of_getElem? hx)⟩
/-- A pair loaded from an address whose two cells are known. -/
theorem load_pair {P : Program} {ops : Array Oper} {rest : List Oper} {o : Oper} {a : Act} {w : World} {Q : Exit → Act → World → Prop} (hw : Region.wanted o (yielded ops a.tmps) = true) (ty : TypeId) (x : Operand) (ho : o.op = .load ty x)
    (A : Addr) (hx : a.eval x = .pointer (some A)) (r q : Value) {fs : Array Field} (hu : P.underlying ty = some (.struct fs)) (hi : (P.info? ty).map (·.size) = some 2) (hc : w.cell? A = some r ∧ w.cell? ⟨A.block, A.off + 1, none⟩ = some q)
    (h : wpList P ops Q rest (a.put o.dst (.agg #[r, q])) w) : wpList P ops Q (o :: rest) a w := by
  have hy : (execOp a.eval o).run P w = .ok (.value (.agg #[r, q])) w := by
    obtain ⟨h1, h2⟩ := hc
    have h3 : w.cell? (A.add 1) = some q := by rw [addr_next2 A 0]; simpa [Addr.add] using h2
    have h0 : A.add 0 = A := by unfold Addr.add; split <;> simp_all
    have hl : (loadCells A [r, q].length).run P w = .ok [r, q].toArray w :=
      run_loadCells_list (P := P) w A [r, q] (fun j v hv => by
        match j, hv with
        | 0, hv => rw [h0, h1]; exact hv
        | 1, hv => rw [h3]; exact hv)
    cases hq : P.info? ty with
    | none => simp [hq] at hi
    | some i =>
      have hs : i.size = 2 := by simpa [hq] using hi
      have hl2 : (loadCells A 2).run P w = .ok #[r, q] w := hl
      unfold execOp
      simp [ho, hx, Instr.loadAt, Instr.sureAddr, loadVar, isAgg, run_underlying hu, sizeOf, typeInfo, hq, hs, hl2]
  refine wpList_step fun K hK => ?_
  rw [if_pos hw]
  unfold Oper.wp
  rw [hy]
  exact hK _ _ h
/-- What is raised, modulo the number of replicas. -/
def redu (K : Nat) (l : List W2) : List W2 := l.map fun x => (x.1 % K, x.2)
theorem redu_length (K : Nat) (l : List W2) : (redu K l).length = l.length := List.length_map ..
theorem redu_at {K : Nat} {l : List W2} {i : Nat} {r : Nat} {v : List D2} (h : l[i]? = some (r, v)) : (redu K l)[i]? = some (r % K, v) := by rw [redu, List.getElem?_map, h]; rfl
theorem raises_snoc (l : List W2) (x : W2) (m : M2) : raises (l ++ [x]) m = raiseM (raises l m) (x.1 : Int) x.2 := by rw [raises, List.foldl_append]; rfl
theorem raises_take {l : List W2} {i : Nat} {r : Nat} {v : List D2} (h : l[i]? = some (r, v)) (m : M2) : raises (l.take (i + 1)) m = raiseM (raises (l.take i) m) (r : Int) v := by
  rw [List.take_add_one, h]; exact raises_snoc _ _ _
theorem rev_at {l : List W2} {i j : Nat} {x : W2} (h : l[j]? = some x) (hij : i + j + 1 = l.length) : l.reverse[i]? = some x := by
  rw [List.getElem?_reverse (by omega), show l.length - 1 - i = j by omega]; exact h
theorem one_next {l : List W2} {i c : Nat} {r : Nat} {v : List D2} (h : l[i]? = some (r, v)) (hi : i < c) (m : M2) :
    raises (l.take (min (i + 1) c)) m = raiseM (raises (l.take (min i c)) m) (r : Int) v ∧ raises ((l.take (i + 1)).drop c) m = raises ((l.take i).drop c) m := by
  rw [Nat.min_eq_left (by omega), Nat.min_eq_left (by omega)]
  exact ⟨raises_take h m, by rw [List.drop_of_length_le (by rw [List.length_take]; omega), List.drop_of_length_le (by rw [List.length_take]; omega)]⟩
theorem two_next {l : List W2} {i c : Nat} {r : Nat} {v : List D2} (h : l[i]? = some (r, v)) (hi : ¬ i < c) (m : M2) :
    raises (l.take (min (i + 1) c)) m = raises (l.take (min i c)) m ∧ raises ((l.take (i + 1)).drop c) m = raiseM (raises ((l.take i).drop c) m) (r : Int) v := by
  rw [Nat.min_eq_right (by omega), Nat.min_eq_right (by omega)]
  refine ⟨rfl, ?_⟩
  have hlt := (List.getElem?_eq_some_iff.1 h).1
  rw [List.take_add_one, h, List.drop_append_of_le_length (by rw [List.length_take]; omega)]
  exact raises_snoc _ _ _
end Go.Proofs.YtcnjgdnokiindaaDoor
namespace Go.Proofs.YtcnjgdnokiindaaDoor
open Go.ChangeShapes Go.WideShapes Go.ChangeAt Go.RowKit
set_option maxRecDepth 100000 in
set_option linter.unusedSimpArgs false in
/-- A struct of type api.Dot by value, opened. -/
theorem open_dot {H : Type} {enc : TypeId × Value → H} {w : World} {base : Nat} {sp : Nat → Bool} {held : Bool} {r : Reach} {b0 : Nat} {v : Value} {d : DataW H} {p : List MemPlace} (hv : Value.okWide Tryd.prog w r b0 44 v) (h : DataW.Trod enc Tryd.prog w base sp held 44 v d p) :
    ∃ (xReplica : Int) (xSeq : Int), v = .agg #[.int .i64 xReplica, .int .i64 xSeq] ∧ d = .agg [.lit (.int .i64 xReplica), .lit (.int .i64 xSeq)] ∧ (Lit.int .i64 xReplica).wf = true ∧ (Lit.int .i64 xSeq).wf = true := by
  have hc0 : Tryd.prog.cellsOf 44 = 2 := by kernel_rfl
  have hc1 : Tryd.prog.cellsOf 3 = 1 := by kernel_rfl
  have hc2 : Tryd.prog.cellsOf 2 = 1 := by kernel_rfl
  unfold Value.okWide at hv
  rw [Tryd.underlying44] at hv
  obtain ⟨cs, rfl, hsz, _⟩ := hv
  rw [hc0] at hsz
  obtain ⟨fuel, hy⟩ := h
  match cs, hsz with
  | ⟨[c0, c1]⟩, _ =>
  change DataW.trod enc Tryd.prog w base sp held fuel 44 [c0, c1] = some (d, p) at hy
  obtain ⟨ys, m, _, hx0, _, hl, hf⟩ := DataW.trod_struct Tryd.underlying44 hy
  obtain ⟨rfl, rfl⟩ := Prod.mk.inj hx0
  match ys, hl with
  | [y_0, y_1], _ =>
  have hy_0 := hf 0 _ rfl
  have hy_1 := hf 1 _ rfl
  simp [hc0, hc1, hc2] at hy_0 hy_1
  obtain ⟨xReplica, e_xReplica, rfl, s_xReplica⟩ := DataW.trod_int Tryd.underlying3 hy_0
  obtain ⟨xSeq, e_xSeq, rfl, s_xSeq⟩ := DataW.trod_int Tryd.underlying2 hy_1
  simp at e_xReplica e_xSeq
  subst e_xReplica e_xSeq
  exact ⟨xReplica, xSeq, rfl, by simp, s_xReplica, s_xSeq⟩
end Go.Proofs.YtcnjgdnokiindaaDoor
namespace Go.Proofs.YtcnjgdnokiindaaDoor
open Go.ChangeShapes Go.WideShapes Go.ChangeAt Go.RowKit
theorem open_dots_has {H : Type} {enc : TypeId × Value → H} {P : Program} {w : World} {base : Nat} {sp : Nat → Bool} {held : Bool} {r : Reach} {b0 : Nat} {t e : TypeId} {f0 f1 : Field} {v : Value} {d : DataW H} {p : List MemPlace}
    (ht : P.underlying t = some (.slice e)) (he : P.underlying e = some (.struct #[f0, f1])) (ce : P.cellsOf e = 2) (o0 : f0.offset = 0) (o1 : f1.offset = 1) (c0 : P.cellsOf f0.type = 1) (c1 : P.cellsOf f1.type = 1)
    (h0 : P.underlying f0.type = some (.int .i64)) (h1 : P.underlying f1.type = some (.int .i64))
    (hv : Value.okWide P w r b0 t v) (h : DataW.Trod enc P w base sp held t v d p) : ∃ l : List D2, HasDots w v l := by
  obtain ⟨a1, len, cap, rfl⟩ := okWide_slice ht hv
  obtain ⟨fuel, hf⟩ := h
  rcases Go.Deep.open_slice_pairs ht he ce o0 o1 c0 c1 hf with ⟨hcs, -⟩ | ⟨a, len', cap', m, n, V0, V1, D0, D1, P0, P1, hcs, _, hl, hm, hmm, hx, hrow⟩
  · simp [Value.cells] at hcs
    obtain ⟨rfl, rfl, rfl⟩ := hcs
    exact ⟨[], dots_nil w⟩
  · simp [Value.cells] at hcs
    obtain ⟨rfl, rfl, rfl⟩ := hcs
    have hlm : len ≤ m := by rw [hmm]; split <;> omega
    have each : ∀ i, i < len → ∃ y : D2, w.cell? (a.add (i * 2)) = some (.int .i64 y.1) ∧ w.cell? (a.add (i * 2 + 1)) = some (.int .i64 y.2) := fun i hi => by
      obtain ⟨g1, g2, g3, g4⟩ := hrow i (by omega)
      obtain ⟨x, e1, -, -⟩ := DataW.trod_int h0 g3
      obtain ⟨z, e2, -, -⟩ := DataW.trod_int h1 g4
      simp only [List.cons.injEq, and_true] at e1 e2
      exact ⟨(x, z), by rw [g1, e1], by rw [g2, e2]⟩
    obtain ⟨y, hy⟩ := Go.Deep.choose_lt each
    have hus : ∀ i x, ((List.range len).map y)[i]? = some x → i < len ∧ x = y i := fun i x hx => by
      have hi : i < len := by
        have := (List.getElem?_eq_some_iff.1 hx).1
        simpa using this
      refine ⟨hi, ?_⟩
      rw [List.getElem?_map, List.getElem?_range hi] at hx
      exact (Option.some.inj hx).symm
    have hulen : ((List.range len).map y).length = len := by simp
    refine ⟨(List.range len).map y, some a, cap, by rw [hulen], (fun h => by cases h), fun ad had => ⟨by rw [hulen]; exact hl, fun j u hu => ?_⟩⟩
    cases had
    obtain ⟨i, x, hx, hor⟩ := dotsC_inv _ j u hu
    obtain ⟨hi, rfl⟩ := hus i x hx
    rcases hor with ⟨rfl, rfl⟩ | ⟨rfl, rfl⟩
    · exact (hy i hi).1
    · exact (hy i hi).2
end Go.Proofs.YtcnjgdnokiindaaDoor
namespace Go.Proofs.YtcnjgdnokiindaaDoor
open Go.ChangeShapes Go.WideShapes Go.ChangeAt Go.RowKit
theorem mem_weightsAll {H : Type} {P : Program} {e : TypeId} {d : DataW H} {m : Nat} : ∀ {ds : List (DataW H)}, d ∈ ds → m ∈ DataW.weights P e d → m ∈ DataW.weightsAll P e ds
  | x :: ds, h, hm => by
    simp only [DataW.weightsAll, List.mem_append]
    rcases List.mem_cons.1 h with rfl | h
    · exact .inl hm
    · exact .inr (mem_weightsAll h hm)
end Go.Proofs.YtcnjgdnokiindaaDoor
namespace Go.Proofs.YtcnjgdnokiindaaDoor
open Go.ChangeShapes Go.WideShapes Go.ChangeAt Go.RowKit
theorem sized_elem11 {H : Type} {P : Program} {ts : List TypeId} {ds : List (DataW H)} {k : Nat} {t e : TypeId} {fs : Array Field} {elems spare parts : List (DataW H)} (h : (DataW.weightsEach P ts ds).all (· ≤ reachBytes) = true)
    (ht : ts[k]? = some t) (hd : ds[k]? = some (.slice elems spare)) (hu : P.underlying t = some (.slice e)) (he : P.underlying e = some (.struct fs)) (hm : (.agg parts : DataW H) ∈ elems) : (DataW.weightsEach P (fs.toList.map (·.type)) parts).all (· ≤ reachBytes) = true := by
  rw [List.all_eq_true]
  intro n hn
  refine List.all_eq_true.1 h _ (DataW.weights_mem_each ht hd n ?_)
  simp only [DataW.weights, hu, List.mem_cons, List.mem_append]
  exact .inr (.inl (mem_weightsAll hm (by simp only [DataW.weights, he]; exact hn)))
/-- The cell of a slice of dots that lies in memory. -/
theorem open_dots_cell {H : Type} {enc : TypeId × Value → H} {P : Program} {w : World} {base : Nat} {sp : Nat → Bool} {held : Bool} {t e : TypeId} {f0 f1 : Field} {v : Value} {d : DataW H} {p : List MemPlace} {fuel : Nat}
    (ht : P.underlying t = some (.slice e)) (he : P.underlying e = some (.struct #[f0, f1])) (ce : P.cellsOf e = 2) (o0 : f0.offset = 0) (o1 : f1.offset = 1) (c0 : P.cellsOf f0.type = 1) (c1 : P.cellsOf f1.type = 1)
    (h0 : P.underlying f0.type = some (.int .i64)) (h1 : P.underlying f1.type = some (.int .i64)) (hf : DataW.trod enc P w base sp held fuel t [v] = some (d, p)) : ∃ l : List D2, HasDots w v l ∧ (l = [] ∨ ∃ elems spare, d = .slice elems spare ∧ l.length ≤ elems.length + spare.length) := by
  rcases Go.Deep.open_slice_pairs ht he ce o0 o1 c0 c1 hf with ⟨hcs, -⟩ | ⟨a, len, cap, m, n, V0, V1, D0, D1, P0, P1, hcs, _, hl, hm, hmm, hx, hrow⟩
  · simp only [List.cons.injEq, and_true] at hcs
    subst hcs
    exact ⟨[], dots_nil w, .inl rfl⟩
  · simp only [List.cons.injEq, and_true] at hcs
    subst hcs
    have hlm : len ≤ m := by rw [hmm]; split <;> omega
    have each : ∀ i, i < len → ∃ y : D2, w.cell? (a.add (i * 2)) = some (.int .i64 y.1) ∧ w.cell? (a.add (i * 2 + 1)) = some (.int .i64 y.2) := fun i hi => by
      obtain ⟨g1, g2, g3, g4⟩ := hrow i (by omega)
      obtain ⟨x, e1, -, -⟩ := DataW.trod_int h0 g3
      obtain ⟨z, e2, -, -⟩ := DataW.trod_int h1 g4
      simp only [List.cons.injEq, and_true] at e1 e2
      exact ⟨(x, z), by rw [g1, e1], by rw [g2, e2]⟩
    obtain ⟨y, hy⟩ := Go.Deep.choose_lt each
    have hus : ∀ i x, ((List.range len).map y)[i]? = some x → i < len ∧ x = y i := fun i x hx => by
      have hi : i < len := by
        have := (List.getElem?_eq_some_iff.1 hx).1
        simpa using this
      refine ⟨hi, ?_⟩
      rw [List.getElem?_map, List.getElem?_range hi] at hx
      exact (Option.some.inj hx).symm
    have hulen : ((List.range len).map y).length = len := by simp
    refine ⟨(List.range len).map y, ⟨some a, cap, by rw [hulen], (fun h => by cases h), fun ad had => ⟨by rw [hulen]; exact hl, fun j u hu => ?_⟩⟩, .inr ⟨_, _, (congrArg Prod.fst hx : _), by rw [hulen]; simp⟩⟩
    cases had
    obtain ⟨i, x, hx, hor⟩ := dotsC_inv _ j u hu
    obtain ⟨hi, rfl⟩ := hus i x hx
    rcases hor with ⟨rfl, rfl⟩ | ⟨rfl, rfl⟩
    · exact (hy i hi).1
    · exact (hy i hi).2
theorem open_mat_has {H : Type} {enc : TypeId × Value → H} {P : Program} {w : World} {base : Nat} {sp : Nat → Bool} {held : Bool} {r : Reach} {b0 : Nat} {s t e : TypeId} {f0 f1 : Field} {v : Value} {d : DataW H} {p : List MemPlace}
    (hs : P.underlying s = some (.slice t)) (ct : P.cellsOf t = 1) (ht : P.underlying t = some (.slice e)) (he : P.underlying e = some (.struct #[f0, f1])) (ce : P.cellsOf e = 2) (o0 : f0.offset = 0) (o1 : f1.offset = 1) (c0 : P.cellsOf f0.type = 1) (c1 : P.cellsOf f1.type = 1)
    (h0 : P.underlying f0.type = some (.int .i64)) (h1 : P.underlying f1.type = some (.int .i64))
    (hv : Value.okWide P w r b0 s v) (h : DataW.Trod enc P w base sp held s v d p) : ∃ m : M2, HasMat w v m := by
  obtain ⟨a1, len, cap, rfl⟩ := okWide_slice hs hv
  obtain ⟨fuel, hf⟩ := h
  rcases Go.Deep.open_slice1 hs ct hf with ⟨hcs, -⟩ | ⟨a, len', cap', m, n, V, D, Pl, hcs, _, hl, hm, hmm, hx, hrow⟩
  · simp [Value.cells] at hcs
    obtain ⟨rfl, rfl, rfl⟩ := hcs
    exact ⟨[], mat_nil w⟩
  · simp [Value.cells] at hcs
    obtain ⟨rfl, rfl, rfl⟩ := hcs
    have hlm : len ≤ m := by rw [hmm]; split <;> omega
    have each : ∀ i, i < len → ∃ y : R2, w.cell? (a.add i) = some y.2 ∧ HasDots w y.2 y.1 := fun i hi => by
      obtain ⟨g1, g2⟩ := hrow i (by omega)
      obtain ⟨l, hl, -⟩ := open_dots_cell ht he ce o0 o1 c0 c1 h0 h1 g2
      exact ⟨(l, V i), g1, hl⟩
    obtain ⟨y, hy⟩ := Go.Deep.choose_lt each
    have hulen : ((List.range len).map y).length = len := by simp
    refine ⟨((List.range len).map y).map (·.1), (List.range len).map y, rfl, fun x hx => ?_, some a, cap, by rw [hulen], (fun h => by cases h), fun ad had => ⟨by rw [hulen]; exact hl, fun j u hu => ?_⟩⟩
    · obtain ⟨i, hi, rfl⟩ := List.mem_map.1 hx
      exact (hy i (by simpa using hi)).2
    · cases had
      rw [List.getElem?_map, List.getElem?_map] at hu
      cases hj : (List.range len)[j]? with
      | none => rw [hj] at hu; cases hu
      | some i =>
        rw [hj] at hu
        obtain ⟨hlt, he⟩ := List.getElem?_eq_some_iff.1 hj
        rw [List.getElem_range] at he
        subst he
        cases hu
        exact (hy j (by simpa using hlt)).1
theorem open_raised_has {H : Type} {enc : TypeId × Value → H} {P : Program} {w : World} {base : Nat} {held : Bool} {r : Reach} {b0 : Nat} {t e q x : TypeId} {f0 f1 g0 g1 : Field} {v : Value} {d : DataW H} {p : List MemPlace} {ts : List TypeId} {ds : List (DataW H)} {k : Nat}
    (ht : P.underlying t = some (.slice e)) (he : P.underlying e = some (.struct #[f0, f1])) (ce : P.cellsOf e = 2) (o0 : f0.offset = 0) (o1 : f1.offset = 1) (c0 : P.cellsOf f0.type = 1) (c1 : P.cellsOf f1.type = 1)
    (h0 : P.underlying f0.type = some (.int .u8)) (hx1 : f1.type = q) (h1 : P.underlying q = some (.slice x)) (hxs : P.underlying x = some (.struct #[g0, g1])) (cx : P.cellsOf x = 2) (go0 : g0.offset = 0) (go1 : g1.offset = 1) (cg0 : P.cellsOf g0.type = 1) (cg1 : P.cellsOf g1.type = 1)
    (u0 : P.underlying g0.type = some (.int .i64)) (u1 : P.underlying g1.type = some (.int .i64)) (bx : P.bytesOf x = 16)
    (hv : Value.okWide P w r b0 t v) (h : DataW.Trod enc P w base (fun _ => true) held t v d p) (hreach : (DataW.weightsEach P ts ds).all (· ≤ reachBytes) = true) (hts : ts[k]? = some t) (hds : ds[k]? = some d) :
    ∃ l : List W2, (∀ f ∈ l, f.1 < 256 ∧ f.2.length < 10000000000000) ∧ HasRaised w v l := by
  subst hx1
  have hr : reachBytes = 140737488351232 := by decide
  obtain ⟨a1, len, cap, rfl⟩ := okWide_slice ht hv
  obtain ⟨fuel, hf⟩ := h
  rcases Go.Deep.open_slice_pairs ht he ce o0 o1 c0 c1 hf with ⟨hcs, -⟩ | ⟨a, len', cap', m, n, V0, V1, D0, D1, P0, P1, hcs, _, hl, hm, hmm, hx, hrow⟩
  · simp [Value.cells] at hcs
    obtain ⟨rfl, rfl, rfl⟩ := hcs
    exact ⟨[], by simp, raised_nil w⟩
  · simp [Value.cells] at hcs
    obtain ⟨rfl, rfl, rfl⟩ := hcs
    have hd : d = .slice ((List.range len).map fun i => .agg [D0 i, D1 i]) ((List.range (m - len)).map fun j => .agg [D0 (len + j), D1 (len + j)]) := congrArg Prod.fst hx
    have hlm : len ≤ m := by rw [hmm]; split <;> omega
    have each : ∀ i, i < len → ∃ y : W2 × Value, w.cell? (a.add (i * 2)) = some (.int .u8 (y.1.1 : Int)) ∧ w.cell? (a.add (i * 2 + 1)) = some y.2 ∧ HasDots w y.2 y.1.2 ∧ y.1.1 < 256 ∧ y.1.2.length < 10000000000000 := fun i hi => by
      obtain ⟨g1, g2, g3, g4⟩ := hrow i (by omega)
      obtain ⟨z, e1, -, wz⟩ := DataW.trod_int h0 g3
      have hz := wf_u8_bd wz
      obtain ⟨l, k1, k2⟩ := open_dots_cell h1 hxs cx go0 go1 cg0 cg1 u0 u1 g4
      have hw := sized_elem11 (parts := [D0 i, D1 i]) hreach hts (by rw [hds, hd]) ht he (List.mem_map.2 ⟨i, by simpa using hi, rfl⟩)
      simp only [List.cons.injEq, and_true] at e1
      refine ⟨((z.toNat, l), V1 i), by rw [g1, e1]; show some (Value.int .u8 z) = some (.int .u8 ((z.toNat : Nat) : Int)); rw [Int.toNat_of_nonneg hz.1], g2, k1, by show z.toNat < 256; omega, ?_⟩
      show l.length < 10000000000000
      rcases k2 with rfl | ⟨elems, spare, e4, k4⟩
      · simp
      · have w1 := sized_slice hw (j := 1) (t := f1.type) rfl (by rw [e4]; rfl) h1
        rw [bx, hr] at w1
        omega
    obtain ⟨y, hy⟩ := Go.Deep.choose_lt each
    have hus : ∀ i x, ((List.range len).map y)[i]? = some x → i < len ∧ x = y i := fun i x hx => by
      have hi : i < len := by
        have := (List.getElem?_eq_some_iff.1 hx).1
        simpa using this
      refine ⟨hi, ?_⟩
      rw [List.getElem?_map, List.getElem?_range hi] at hx
      exact (Option.some.inj hx).symm
    have hulen : ((List.range len).map y).length = len := by simp
    refine ⟨((List.range len).map y).map (·.1), fun f hf => ?_, (List.range len).map y, rfl, fun x hx => ?_, some a, cap, by rw [hulen], (fun h => by cases h), fun ad had => ⟨by rw [hulen]; exact hl, fun j u hu => ?_⟩⟩
    · obtain ⟨x, hx, rfl⟩ := List.mem_map.1 hf
      obtain ⟨i, hi, rfl⟩ := List.mem_map.1 hx
      exact (hy i (by simpa using hi)).2.2.2
    · obtain ⟨i, hi, rfl⟩ := List.mem_map.1 hx
      exact (hy i (by simpa using hi)).2.2.1
    · cases had
      obtain ⟨i, x, hx, hor⟩ := raisC_inv _ j u hu
      obtain ⟨hi, rfl⟩ := hus i x hx
      rcases hor with ⟨rfl, rfl⟩ | ⟨rfl, rfl⟩
      · exact (hy i hi).1
      · exact (hy i hi).2.1
theorem u8_of11 {a : Int} (h : (Lit.int .u8 a).wf = true) : ∃ n : Nat, a = (n : Int) ∧ n < 256 := by
  have := wf_u8_bd h
  exact ⟨a.toNat, by omega, by omega⟩
end Go.Proofs.YtcnjgdnokiindaaDoor
namespace Go.Proofs.YtcnjgdnokiindaaDoor
theorem bulk_mem {H : Type} {d : DataW H} : ∀ {l : List (DataW H)}, d ∈ l → Rows.uptoBulk d ≤ Rows.uptoBulkAll l
  | x :: r, h => by
    simp only [Rows.uptoBulkAll]
    rcases List.mem_cons.1 h with e | e
    · subst e; omega
    · have := bulk_mem e; omega
theorem small_string {H : Type} {l : List (DataW H)} (hk : Rows.uptoSmall H l = true) {bytes : List UInt8} (h : DataW.lit (.string bytes) ∈ l) : bytes.length < 1048576 := by
  have h1 := bulk_mem h
  have h2 : Rows.uptoBulkAll l ≤ 1048576 := by simpa [Rows.uptoSmall] using hk
  simp only [Rows.uptoBulk] at h1
  omega
end Go.Proofs.YtcnjgdnokiindaaDoor
namespace Go.Proofs.YtcnjgdnokiindaaDoor
theorem witness_zip {H : Type} {enc : TypeId × Value → H} {C : Checked} {os : Os} {f : FuncId} {fn : Func} {s : OpenSpec} {conds : List PathCond} {apart : Bool} {laid : List (String × DataW Unit)} (modest : Bool) (w0 : World) (args : Array Value) (hos : w0.os = os)
    (hs : (w0.forCall (fun _ _ => 0) ⟨#[], args, []⟩).Shaped C.prog) (hok : Input.okWideB C.prog (w0.forCall (fun _ _ => 0) ⟨#[], args, []⟩) f ⟨#[], args, []⟩ = true)
    (hrow : s.preRow enc C.prog fn conds apart laid (w0.forCall (fun _ _ => 0) ⟨#[], args, []⟩).memory args) :
    ∃ (w : World) (tape : Tape) (i : Input), w.os = os ∧ (w.forCall tape i).Shaped C.prog ∧ i.vars = [] ∧ Input.okWide C.prog (w.forCall tape i) .any w.heap.size f i ∧
      s.preRow enc C.prog fn conds apart laid (w.forCall tape i).memory i.args ∧ ({ modest := modest } : Assume).holds C.prog (lone (Frame.enter C.prog f i.args .normal) [] (w.forCall tape i)) :=
  ⟨w0, fun _ _ => 0, ⟨#[], args, []⟩, hos, hs, (Input.okWide_of_okWideB (base := 0) hok).1, (Input.okWide_of_okWideB hok).2, hrow, by
    simp only [Assume.holds]
    exact ⟨by simp, by simp, fun _ => Modest.zero, by simp, by simp⟩⟩
end Go.Proofs.YtcnjgdnokiindaaDoor
