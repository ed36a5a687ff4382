/-
Texts that all claims of this seat share, part 15: Law14All.
-/
import Derived.WalkKit
import Derived.ProofKit
import Derived.OpenShut
import Derived.Test.YtlcojmligbikoaaGreatDoorPk14
namespace Go.Proofs.YtlcojmligbikoaaGreatDoor
open Go.RowKit
theorem row_mid {w : World} {A : Addr} {s : Sh} (hc : ∀ j u, (shC s)[j]? = some u → w.cell? (A.add j) = some u) : w.rangeAt A.block (A.off + 3) (row .u8 32 s.sum).toList := fun j u hu => by
  have h := hc (3 + j) u (shC_sum s j u hu)
  unfold Addr.add at h
  rw [if_neg (by omega)] at h
  rw [Nat.add_assoc]; exact h
theorem ev_mid {w : World} {A : Addr} {e : Ev} {v : Value} (hc : ∀ j u, (evC e v)[j]? = some u → w.cell? (A.add j) = some u) : w.rangeAt A.block (A.off + 5) (row .u8 32 e.sum).toList := fun j u hu => by
  have h := hc (5 + j) u (evC_sum e v j u hu)
  unfold Addr.add at h
  rw [if_neg (by omega)] at h
  rw [Nat.add_assoc]; exact h
theorem range_under {w w' : World} {b n : Nat} {cs : List Value} (h : w.rangeAt b n cs) (hb : Below w.heap.size w w') : w'.rangeAt b n cs := fun j u hu => cell_under12 (h j u hu) hb
theorem mid_yields {P : Program} {ops : Array Oper} {S : World → Prop} {o : Oper} {a : Act} (hw : Region.wanted o (yielded ops a.tmps) = true) (ty : TypeId) (x : Operand) (ho : o.op = .load ty x)
    (b m : Nat) (hx : a.eval x = .pointer (some ⟨b, m, none⟩)) (f : Nat → BitVec 32) {n : Nat} {u : TypeId} (hu : P.underlying ty = some (.array n u)) (hi : (P.info? ty).map (·.size) = some 32) (hS : ∀ w, S w → w.rangeAt b m (row .u8 32 f).toList) : YieldsIf P ops S o (.agg (row .u8 32 f)) a := by
  have h := yieldsIf_load_mid (ops := ops) (S := S) hw ty x ho b m hx (row .u8 32 f).toList _ hS hu rfl (by rw [hi]; simp [row_size])
  rwa [Array.toArray_toList] at h
theorem rows_neq (f : Nat → BitVec 32) : ∀ w, (binOp .neq 31 (.agg (row .u8 32 f)) (.agg (row .u8 32 f))).run Tryz.prog w = .ok (.bool false) w := fun w => by
  obtain ⟨inf, hinf⟩ := info_of (P := Tryz.prog) (t := 5) Tryz.underlying5
  rw [run_neq_struct, show (10000 : Nat) = 9999 + 1 from rfl, run_equalIn_array w 9999 _ _ Tryz.underlying31 hinf, show (9999 : Nat) = 9998 + 1 from rfl, items_row w 9998 32 f f Tryz.underlying5 (by kernel_rfl) (List.range 32) (by simp)]
  simp [Result.andThen]
theorem rows_guard (x y : Operand) (xs ys : Array Value) : ∀ w, (eqGuard .neq 31 x y (.agg xs) (.agg ys)).run Tryz.prog w = .ok () w := fun w => run_eqGuard_agg w .neq 31 x y xs ys (by kernel_rfl)
theorem str_neq {a b : List UInt8} {r : Bool} (h : r = !(a == b)) : ∀ w, (binOp .neq 9 (.string (str a)) (.string (str b))).run Tryz.prog w = .ok (.bool r) w := fun w => by
  have u := Tryz.underlying9
  subst h
  go_simp
  simp [str_toList]
theorem str_eql {a b : List UInt8} {r : Bool} (h : r = (a == b)) : ∀ w, (binOp .eql 9 (.string (str a)) (.string (str b))).run Tryz.prog w = .ok (.bool r) w := fun w => by
  have u := Tryz.underlying9
  subst h
  go_simp
  simp [str_toList]
theorem dots_eql {r q r' q' : Int} {b : Bool} (hb : b = (decide (r = r') && decide (q = q'))) : ∀ w, (binOp .eql 29 (.agg #[.int .i64 r, .int .i64 q]) (.agg #[.int .i64 r', .int .i64 q'])).run Tryz.prog w = .ok (.bool b) w := fun w => by
  subst hb
  go_simp; by_cases h1 : r = r' <;> by_cases h2 : q = q' <;> simp_all
theorem countP_step {l : List Sh} {k : Nat} {s : Sh} (hs : l[k]? = some s) (p : Sh → Bool) : (l.take (k + 1)).countP p = (l.take k).countP p + if p s then 1 else 0 := by
  rw [List.take_add_one, hs, List.countP_append]
  cases h : p s <;> simp [h]
theorem puts_step {l : List (Ev × Value)} {i : Nat} {e : Ev} {u : Value} (h : l[i]? = some (e, u)) : ((l.take (i + 1)).filter fun z => putE z.1).length = ((l.take i).filter fun z => putE z.1).length + if putE e then 1 else 0 := by
  rw [List.take_add_one, h, List.filter_append, List.length_append]
  cases hp : putE e <;> simp [hp]
theorem view_short {h : List Ev} (H : Heads h) {S : List Sh} (hs : StableK Sh.path (showsE h) S) {s : Sh} (hm : s ∈ S) : s.path.length < 1152921504606846976 := by
  obtain ⟨e, he, rfl⟩ := List.mem_map.1 ((stable_mem hs).1 hm)
  obtain ⟨he, -⟩ := List.mem_filter.1 he
  have h1 := ((own_iff _).1 (heads_own H he)).2.2.1
  have hme := H.1 e he
  unfold mayE mayD at hme
  simp only [Bool.and_eq_true, decide_eq_true_eq] at hme
  have h2 := (copy_may (heads_own H he) hme.1.1 (by omega) hme.1.2.2.1 hme.1.2.2.2).1
  unfold shE
  dsimp only
  split <;> omega
theorem opH_k2 {P : Program} {md : Region.Mode} {ops : Array Oper} {Q : Exit → Act → World → Prop} {S : World → Prop} {fuel : Nat} {listed : Array Bool} {ts : Array Value} {ds : List Deferred} {w : World} {i : Nat} {o : Oper} (d : Nat) (hoi : ops[i]? = some o) (hd : o.dst = some d) (hw : Region.wanted o (yielded ops ts) = true) (f : FuncId) (x y : Operand) (t u : TypeId)
    (ho : o.op = .call { callee := .value (.func f), args := #[x, y], argTypes := #[t, u] }) (v z : Value) (hx : Act.eval { tmps := ts, defers := ds } x = v) (hy : Act.eval { tmps := ts, defers := ds } y = z) (eg : ∀ vs w, (callFunc f vs).run P w = .ok (.enter f vs) w) (Post : Ending → World → Prop) (hcall : Calls P f #[v, z] w Post)
    (h : ∀ e w', Post e w' → ∃ r, e = .returned r ∧ S w' ∧ wpAnyH P md ops Q S fuel (listed.setIfInBounds i true) { tmps := ts.setIfInBounds d r, defers := ds } w') : OpH P md ops Q S fuel listed { tmps := ts, defers := ds } w i :=
  opH_c2 d hoi hd hw f (.func f) x y t u ho rfl v z hx hy eg Post hcall h
set_option linter.unusedSimpArgs false in
set_option maxRecDepth 100000 in
set_option maxHeartbeats 16000000 in
theorem viewAll_walk (l : List DeedT) (hs : ∀ x ∈ l, x.who < 256 ∧ x.other < 256 ∧ x.path < 256 ∧ x.size < 256) (v : Value) (w : World) (hv : HasDeeds w v l) (hT : PowTab w) (tab : Tab w) : Calls Tryz.prog 5 #[v] w fun x w' => x = .returned (.bool true) ∧ Below w.heap.size w w' := by
  have HT := Lib.hid hT
  have TB := Lib.hid tab
  have HV := Lib.hid hv
  have HI := Lib.hid (fun v w hv => history_any l hs v w hv)
  obtain ⟨nn, hinv⟩ := inv_hist l (fun x hx => (hs x hx).2.2.2)
  have HIN := Lib.hid hinv
  clear hv hT tab hs hinv
  go_enter Tryz.func5, Tryz.ntmps5
  go_upto_region 3 with (first
    | (go_at_call 10; refine (awake14_any _ HT.out TB.out).mono ?_; rintro x w1 ⟨rfl, hb⟩; have B1 := Lib.hid hb; clear hb)
    | (go_at_call 22; refine (HI.out _ _ (deeds_below HV.out B1.out)).mono ?_; rintro x w2 ⟨vo, a, rfl, he, ha, hb⟩; have B2 := Lib.hid (below_next B1.out hb); have HE2 := Lib.hid he; have HA1 := Lib.hid (show (#[a 0, a 1, a 2] : Array Value).all (·.oneCell') = true by
        obtain ⟨x0, y0, e0⟩ := dots_shape (ha 0 (by omega)).1 _ rfl
        obtain ⟨x1, y1, e1⟩ := dots_shape (ha 1 (by omega)).1 _ rfl
        obtain ⟨x2, y2, e2⟩ := dots_shape (ha 2 (by omega)).1 _ rfl
        rw [e0, e1, e2]; simp [Value.oneCell']); clear hb he ha)
    | (refine store_new rfl 57 (.tmp 5) (.tmp 19) rfl rfl w2 _ #[a 0, a 1, a 2] 57 rfl rfl rfl (by kernel_rfl) rfl HA1.out ?_; rintro W3 hg hb hlt; have HV3 := Lib.hid (evs_below HE2.out hb); have B3 := Lib.hid (below_next B2.out hb); clear hg hb hlt))
  obtain ⟨us, hus, hdu, hhu⟩ := u_of_evs HV3.out
  have HUS := Lib.hid hus
  have hul : us.length ≤ 40 := by have := congrArg List.length hus; rw [List.length_map] at this; rw [this]; exact hist_len l 40
  have HFU := Lib.hid (show ∀ x ∈ us, FitE x.1 from fun x hx => hist_fit HIN.out (by rw [← hus]; exact List.mem_map_of_mem hx))
  have LST := Lib.hid (last_any13 us (by omega) (fun x hx => (HFU.out x hx).2.2.1) vo W3 hhu hdu)
  rw [hus] at LST
  have HDU := Lib.hid hdu
  have HUL := Lib.hid hul
  clear hhu hdu hus hul
  go_upto_region 4 with (first
    | (go_at_call 23; refine LST.out.mono ?_; rintro x W4 ⟨hv4, vs, rfl, hh4, hm4, he4, hb⟩; have C4 := Lib.hid hb; have HH := Lib.hid hh4; have HM4 := Lib.hid hm4; have HE4 := Lib.hid he4; clear hb hh4 hm4 he4))
  have HFV := Lib.hid (show FitU vs from fun z hz => HFU.out z (HM4.out z hz))
  have HDV := Lib.hid (show DepsU W4 vs from fun z hz => dots_below (HDU.out z (HM4.out z hz)) C4.out)
  have B4 := Lib.hid (below_next B3.out C4.out)
  have HHD := Lib.hid (show Heads (vs.map (·.1)) by rw [HE4.out]; exact heads_hist HIN.out)
  have HVL := Lib.hid (show vs.length ≤ 40 by
    have h1 := congrArg List.length HE4.out
    rw [List.length_map] at h1
    have h2 : (lastE (histN l).out).length ≤ (histN l).out.length := last_few _
    have h3 : (histN l).out.length ≤ 40 := hist_len l 40
    omega)
  obtain ⟨n, hn⟩ : ∃ n, n = vs.length := ⟨_, rfl⟩
  obtain ⟨ho, hc, rfl⟩ := holdsU_shape HH.out n hn
  have HN := Lib.hid hn
  have hn5 : n ≤ 40 := by have := HVL.out; omega
  clear hn LST HFU HDU HM4 HV3 HE2 HI
  go_upto_region 5 with (first
    | (go_at_call 11; refine (view_any vs (by have := HVL.out; omega) HFV.out _ W4 HH.out HDV.out (powTab_below HT.out B4.out)).mono ?_; rintro x w5 ⟨sv, rfl, hvw, hb⟩; have HVW := Lib.hid hvw; have C5 := Lib.hid hb; clear hvw hb))
  obtain ⟨S, hst, hhs⟩ := HVW.out
  have HST := Lib.hid hst
  have HHS := Lib.hid hhs
  obtain ⟨m, hm⟩ : ∃ m, m = S.length := ⟨_, rfl⟩
  obtain ⟨so, sc, rfl⟩ := holdsS_shape hhs m hm
  have HMS := Lib.hid hm
  have hm5 : m ≤ 40 := by rw [hm, view_len hst]; exact Nat.le_trans (List.length_filter_le _ _) (by rw [List.length_map]; exact HVL.out)
  have B5 := Lib.hid (below_next B4.out C5.out)
  have HH5 := Lib.hid (holdsU_below HH.out C5.out)
  have ENC := Lib.hid (show ∀ vs w, (callFunc 24 vs).run Tryz.prog w = .ok (.enter 24 vs) w from (enters_of Tryz.func24 (by kernel_rfl) rfl))
  have ENU := Lib.hid (show ∀ vs w, (callFunc 25 vs).run Tryz.prog w = .ok (.enter 25 vs) w from (enters_of Tryz.func25 (by kernel_rfl) rfl))
  clear hst hhs hm
  go_wp2
  go_loopw [8, 9] (fun pv c wr => ∃ i : Nat, i ≤ n ∧ c = .int .i64 (i : Int) ∧ pv = .int .i64 ((((vs.take i).filter fun z => putE z.1).length : Nat) : Int) ∧ Below w5.heap.size w5 wr) (fun _ c _ => n - (intOf c).toNat)
  case atStart => exact ⟨0, Nat.zero_le _, rfl, rfl, Below.refl _ _⟩
  case round =>
    obtain ⟨i, hi, rfl, rfl, hb⟩ := hrel
    have HB := Lib.hid hb
    have HLF := Lib.hid (show ((vs.take i).filter fun z => putE z.1).length ≤ i from Nat.le_trans (List.length_filter_le _ _) (by rw [List.length_take]; exact Nat.min_le_left _ _))
    obtain ⟨p0, hp0⟩ : ∃ p, p = ((vs.take i).filter fun z => putE z.1).length := ⟨_, rfl⟩
    rw [← hp0]
    rw [← hp0] at HLF
    have HP00 := Lib.hid hp0
    clear hb hp0
    by_cases hin : i < n
    · have q0 : (i : Int) < (n : Int) := by omega
      have q1 : (i : Int) < 50000 := by omega
      have hi1 : i + 1 ≤ n := hin
      have hi5 : i < 50000 := by omega
      have qp : IntKind.i64.wrap ((p0 : Int) + 1) = ((p0 + 1 : Nat) : Int) := by have := HLF.out; rw [IntKind.wrap_i64]; omega
      obtain ⟨x, hx⟩ : ∃ x, vs[i]? = some x := ⟨_, List.getElem?_eq_getElem (by have := HN.out; omega)⟩
      obtain ⟨ad, cap', e1, hcx⟩ := holdsU_at (holdsU_below HH5.out HB.out) n i HN.out.symm x hx
      cases e1
      have hfx := HFV.out x (List.mem_of_getElem? hx)
      obtain ⟨ye, yv⟩ := x
      dsimp only at hcx hfx
      have HFX := Lib.hid hfx
      have HPS := Lib.hid (puts_step hx)
      have HME := Lib.hid (show ye ∈ vs.map (·.1) from List.mem_map_of_mem (List.mem_of_getElem? hx))
      have HC := Lib.hid hcx
      have c2 := ev_fieldM hcx 3 (by decide) _ (evC_at ye yv).2.2.2.1
      obtain ⟨kd, hkd⟩ : ∃ kd, ye.kind = kd := ⟨_, rfl⟩
      rw [hkd] at c2
      clear hx hcx hfx hi
      generalize wr = wq at *
      by_cases hk1 : kd = 1
      · subst hk1
        have HP1P := Lib.hid ((putE_iff ye).2 hkd)
        clear hkd
        go_wp2
        go_loopw [10, 11] (fun mv c wr => ∃ k : Nat, mv = .int .i64 (((S.take k).countP fun s => dotS s ye : Nat) : Int) ∧ k ≤ m ∧ c = .int .i64 (k : Int) ∧ Below wq.heap.size wq wr) (fun _ c _ => m - (intOf c).toNat)
        case atStart => exact ⟨0, rfl, Nat.zero_le _, rfl, Below.refl _ _⟩
        case round =>
          obtain ⟨k, rfl, hk, rfl, hb⟩ := hrel
          have HB7 := Lib.hid hb
          clear hb
          by_cases hkl : k < m
          · have q3 : (k : Int) < (m : Int) := by omega
            have q4 : (k : Int) < 50000 := by omega
            obtain ⟨x, hx⟩ : ∃ x, S[k]? = some x := ⟨_, List.getElem?_eq_getElem (by have := HMS.out; omega)⟩
            obtain ⟨sd, cap1, e1, hsx⟩ := holdsS_at (holdsS_below HHS.out (below_next HB.out HB7.out)) m k HMS.out.symm x hx
            cases e1
            have CS := Lib.hid (countP_step hx (fun s => dotS s ye))
            have hle : (S.take k).countP (fun s => dotS s ye) ≤ 40 := Nat.le_trans List.countP_le_length (by rw [List.length_take]; omega)
            obtain ⟨c0, hc0⟩ : ∃ c, c = (S.take k).countP (fun s => dotS s ye) := ⟨_, rfl⟩
            rw [← hc0] at CS hle
            rw [← hc0]
            have qc : IntKind.i64.wrap ((c0 : Int) + 1) = ((c0 + 1 : Nat) : Int) := by rw [IntKind.wrap_i64]; omega
            have HXM := Lib.hid (List.mem_of_getElem? hx)
            have hcy : ∀ j u, (evC ye yv)[j]? = some u → wr.cell? ((ad.add (i * 38)).add j) = some u := fun j u hu => cell_under12 (HC.out j u hu) HB7.out
            have HE0 := Lib.hid (show wr.cell? (ad.add (i * 38)) = some (.int .i64 ye.r) by have h := hcy 0 _ (evC_at ye yv).1; rwa [addr_zeroS] at h)
            have HE1 := Lib.hid (ev_fieldM hcy 1 (by decide) _ (evC_at ye yv).2.1)
            have HE4 := Lib.hid (ev_fieldM hcy 4 (by decide) _ (evC_at ye yv).2.2.2.2.1)
            have HE37 := Lib.hid (ev_fieldM hcy 37 (by decide) _ (evC_at ye yv).2.2.2.2.2)
            have HE5 := Lib.hid (ev_mid hcy)
            have HP0 := Lib.hid (sh_field0 hsx _ (shC_at x).1)
            have HP1 := Lib.hid (sh_fieldS hsx 1 (by decide) _ (shC_at x).2.1)
            have HP2 := Lib.hid (sh_fieldS hsx 2 (by decide) _ (shC_at x).2.2.1)
            have HZ := Lib.hid (sh_fieldS hsx 35 (by decide) _ (shC_at x).2.2.2)
            have HM := Lib.hid (row_mid hsx)
            have HQD := Lib.hid (dots_eql (r := x.r) (q := x.q) (r' := ye.r) (q' := ye.q) (b := dotS x ye) rfl)
            clear hx hsx hcy hle hc0
            generalize wr = w8 at *
            go_upto_region 15 with fail
            refine wp_region_held_drew (S := fun w' => Below w8.heap.size w8 w') (by kernel_rfl) (drawS (Below.refl _ _)) (fun hHeld => ?_)
            generalize w8.drew = wd at hHeld ⊢
            refine take_at (i := 0) 44 rfl rfl (by kernel_rfl) (by kernel_rfl) (by kernel_rfl) (fun _ _ _ h => h) (sure_yes (by rfl) (fun w => by go_simp; try with_reducible rfl)) hHeld ?_
            simp only [List.setIfInBounds_toArray, List.set_cons_zero, List.set_cons_succ]
            refine take_at (i := 1) 45 rfl rfl (by kernel_rfl) (by kernel_rfl) (by kernel_rfl) (fun _ _ _ h => h) (sure_yes (by rfl) (fun w => by go_simp; try with_reducible rfl)) hHeld ?_
            simp only [List.setIfInBounds_toArray, List.set_cons_zero, List.set_cons_succ]
            refine take_at (i := 2) 46 rfl rfl (by kernel_rfl) (by kernel_rfl) (by kernel_rfl) (fun _ _ _ h => h) (sure_yes (by rfl) (fun w => by go_simp; try with_reducible rfl)) hHeld ?_
            simp only [List.setIfInBounds_toArray, List.set_cons_zero, List.set_cons_succ]
            refine take_at (i := 3) 47 rfl rfl (by kernel_rfl) (by kernel_rfl) (by kernel_rfl) (fun _ _ _ h => h) (sure_yes (by rfl) (fun w => by go_simp; try with_reducible rfl)) hHeld ?_
            simp only [List.setIfInBounds_toArray, List.set_cons_zero, List.set_cons_succ]
            refine take_at (i := 5) 49 rfl rfl (by kernel_rfl) (by kernel_rfl) (by kernel_rfl) (fun _ _ _ h => h) (sure_yes (by rfl) (fun w => by go_simp; try with_reducible rfl)) hHeld ?_
            simp only [List.setIfInBounds_toArray, List.set_cons_zero, List.set_cons_succ]
            refine take_at (i := 6) 50 rfl rfl (by kernel_rfl) (by kernel_rfl) (by kernel_rfl) (fun _ _ _ h => h) (sure_yes (by rfl) (fun w => by go_simp; try with_reducible rfl)) hHeld ?_
            simp only [List.setIfInBounds_toArray, List.set_cons_zero, List.set_cons_succ]
            refine take_at (i := 7) 51 rfl rfl (by kernel_rfl) (by kernel_rfl) (by kernel_rfl) (fun _ _ _ h => h) (sure_yes (by rfl) (fun w => by go_simp; try with_reducible rfl)) hHeld ?_
            simp only [List.setIfInBounds_toArray, List.set_cons_zero, List.set_cons_succ]
            refine take_at (i := 8) 52 rfl rfl (by kernel_rfl) (by kernel_rfl) (by kernel_rfl) (fun _ _ _ h => h) (sure_yes (by rfl) (fun w => by go_simp; try with_reducible rfl)) hHeld ?_
            simp only [List.setIfInBounds_toArray, List.set_cons_zero, List.set_cons_succ]
            refine take_at (i := 4) 48 rfl rfl (by kernel_rfl) (by kernel_rfl) (by kernel_rfl) (fun _ _ _ h => h) (dot_yields (by rfl) 29 (.tmp 47) rfl ⟨(sd.add (k * 36)).block, (sd.add (k * 36)).off + 1, none⟩ rfl x.r x.q Tryz.underlying29 (by kernel_rfl) (fun w h => ⟨cell_under12 HP1.out h, cell_under12 HP2.out h⟩)) hHeld ?_
            simp only [List.setIfInBounds_toArray, List.set_cons_zero, List.set_cons_succ]
            refine take_at (i := 9) 53 rfl rfl (by kernel_rfl) (by kernel_rfl) (by kernel_rfl) (fun _ _ _ h => h) (dot_yields (by rfl) 29 (.tmp 52) rfl (ad.add (i * 38)) rfl ye.r ye.q Tryz.underlying29 (by kernel_rfl) (fun w h => ⟨cell_under12 HE0.out h, cell_under12 HE1.out h⟩)) hHeld ?_
            simp only [List.setIfInBounds_toArray, List.set_cons_zero, List.set_cons_succ]
            refine take_at (i := 10) 54 rfl rfl (by kernel_rfl) (by kernel_rfl) (by kernel_rfl) (fun _ _ _ h => h) (sure_yes (by rfl) (op_knownS rfl rfl rfl (dots_guard _ _ _ _ _) HQD.out)) hHeld ?_
            simp only [List.setIfInBounds_toArray, List.set_cons_zero, List.set_cons_succ]
            refine wpAnyH_done (by kernel_rfl) ?_ _
            have B8 := Lib.hid (below_next HB7.out hHeld)
            have HLD := Lib.hid hHeld
            clear hHeld
            generalize wd = w9 at *
            obtain ⟨dd, hdd⟩ : ∃ d, dotS x ye = d := ⟨_, rfl⟩
            rw [hdd]
            cases dd with
            | true =>
              have HDD := Lib.hid hdd
              have HXE := Lib.hid (view_of_dot HHD.out HST.out HME.out HXM.out hdd)
              have HM3 := Lib.hid (show w8.rangeAt (sd.add (k * 36)).block ((sd.add (k * 36)).off + 3) (row .u8 32 ye.sum).toList by have h := HM.out; rwa [show x.sum = ye.sum from by rw [HXE.out]; rfl] at h)
              have HZ35 := Lib.hid (show w8.cell? ⟨(sd.add (k * 36)).block, (sd.add (k * 36)).off + 35, none⟩ = some (.int .i64 ye.size) by have h := HZ.out; rwa [show x.size = ye.size from by rw [HXE.out]; rfl] at h)
              have HPT := Lib.hid (show x.path = ye.path ∨ x.path = copyL ye.path ye.r ye.q by
                rw [HXE.out]
                unfold shE
                dsimp only
                split
                · exact .inl rfl
                · exact .inr rfl)
              have CPY := Lib.hid (fun w => refCopy_any ye.path ye.r ye.q HFX.out.2.2.2 HFX.out.1 HFX.out.2.1 w)
              clear hdd
              by_cases hpp : x.path = ye.path
              · have HQ1 := Lib.hid (str_neq (a := x.path) (b := ye.path) (r := false) (by rw [hpp]; simp))
                clear hpp
                go_upto_region 17 with fail
                refine wp_region_held_drew (S := fun w' => Below w8.heap.size w8 w') (by kernel_rfl) (drawS HLD.out) (fun hHeld => ?_)
                generalize w9.drew = wd at hHeld ⊢
                refine take_at (i := 0) 57 rfl rfl (by kernel_rfl) (by kernel_rfl) (by kernel_rfl) (fun _ _ _ h => h) (sure_yes (by rfl) (fun w => by go_simp; try with_reducible rfl)) hHeld ?_
                simp only [List.setIfInBounds_toArray, List.set_cons_zero, List.set_cons_succ]
                refine take_at (i := 1) 58 rfl rfl (by kernel_rfl) (by kernel_rfl) (by kernel_rfl) (fun _ _ _ h => h) (sure_yes (by rfl) (fun w => by go_simp; try with_reducible rfl)) hHeld ?_
                simp only [List.setIfInBounds_toArray, List.set_cons_zero, List.set_cons_succ]
                refine take_at (i := 2) 59 rfl rfl (by kernel_rfl) (by kernel_rfl) (by kernel_rfl) (fun _ _ _ h => h) (sure_yes (by rfl) (fun w => by go_simp; try with_reducible rfl)) hHeld ?_
                simp only [List.setIfInBounds_toArray, List.set_cons_zero, List.set_cons_succ]
                refine take_at (i := 3) 60 rfl rfl (by kernel_rfl) (by kernel_rfl) (by kernel_rfl) (fun _ _ _ h => h) (sure_yes (by rfl) (fun w => by go_simp; try with_reducible rfl)) hHeld ?_
                simp only [List.setIfInBounds_toArray, List.set_cons_zero, List.set_cons_succ]
                refine take_at (i := 5) 62 rfl rfl (by kernel_rfl) (by kernel_rfl) (by kernel_rfl) (fun _ _ _ h => h) (sure_yes (by rfl) (fun w => by go_simp; try with_reducible rfl)) hHeld ?_
                simp only [List.setIfInBounds_toArray, List.set_cons_zero, List.set_cons_succ]
                refine take_at (i := 6) 63 rfl rfl (by kernel_rfl) (by kernel_rfl) (by kernel_rfl) (fun _ _ _ h => h) (sure_yes (by rfl) (fun w => by go_simp; try with_reducible rfl)) hHeld ?_
                simp only [List.setIfInBounds_toArray, List.set_cons_zero, List.set_cons_succ]
                refine take_at (i := 7) 64 rfl rfl (by kernel_rfl) (by kernel_rfl) (by kernel_rfl) (fun _ _ _ h => h) (sure_yes (by rfl) (fun w => by go_simp; try with_reducible rfl)) hHeld ?_
                simp only [List.setIfInBounds_toArray, List.set_cons_zero, List.set_cons_succ]
                refine take_at (i := 8) 65 rfl rfl (by kernel_rfl) (by kernel_rfl) (by kernel_rfl) (fun _ _ _ h => h) (sure_yes (by rfl) (fun w => by go_simp; try with_reducible rfl)) hHeld ?_
                simp only [List.setIfInBounds_toArray, List.set_cons_zero, List.set_cons_succ]
                refine take_at (i := 4) 61 rfl rfl (by kernel_rfl) (by kernel_rfl) (by kernel_rfl) (fun _ _ _ h => h) (str_yields12 (by rfl) 9 (.tmp 60) rfl (sd.add (k * 36)) rfl (str x.path) Tryz.underlying9 (fun w h => cell_under12 HP0.out h)) hHeld ?_
                simp only [List.setIfInBounds_toArray, List.set_cons_zero, List.set_cons_succ]
                refine take_at (i := 9) 66 rfl rfl (by kernel_rfl) (by kernel_rfl) (by kernel_rfl) (fun _ _ _ h => h) (str_yields12 (by rfl) 9 (.tmp 65) rfl ⟨(ad.add (i * 38)).block, (ad.add (i * 38)).off + 4, none⟩ rfl (str ye.path) Tryz.underlying9 (fun w h => cell_under12 HE4.out h)) hHeld ?_
                simp only [List.setIfInBounds_toArray, List.set_cons_zero, List.set_cons_succ]
                refine take_at (i := 10) 67 rfl rfl (by kernel_rfl) (by kernel_rfl) (by kernel_rfl) (fun _ _ _ h => h) (sure_yes (by rfl) (op_knownS rfl rfl rfl (str_guard _ _ _ _ _) HQ1.out)) hHeld ?_
                simp only [List.setIfInBounds_toArray, List.set_cons_zero, List.set_cons_succ]
                refine take_at (i := 11) 68 rfl rfl (by kernel_rfl) (by kernel_rfl) (by kernel_rfl) (fun _ _ _ h => h) (sure_yes (by rfl) (fun w => by go_simp; try with_reducible rfl)) hHeld ?_
                simp only [List.setIfInBounds_toArray, List.set_cons_zero, List.set_cons_succ]
                refine take_at (i := 12) 69 rfl rfl (by kernel_rfl) (by kernel_rfl) (by kernel_rfl) (fun _ _ _ h => h) (.inr ⟨by rfl, rfl⟩) hHeld ?_
                simp only [List.setIfInBounds_toArray, List.set_cons_zero, List.set_cons_succ]
                refine take_at (i := 13) 70 rfl rfl (by kernel_rfl) (by kernel_rfl) (by kernel_rfl) (fun _ _ _ h => h) (.inr ⟨by rfl, rfl⟩) hHeld ?_
                simp only [List.setIfInBounds_toArray, List.set_cons_zero, List.set_cons_succ]
                refine take_at (i := 14) 71 rfl rfl (by kernel_rfl) (by kernel_rfl) (by kernel_rfl) (fun _ _ _ h => h) (.inr ⟨by rfl, rfl⟩) hHeld ?_
                simp only [List.setIfInBounds_toArray, List.set_cons_zero, List.set_cons_succ]
                refine take_at (i := 15) 72 rfl rfl (by kernel_rfl) (by kernel_rfl) (by kernel_rfl) (fun _ _ _ h => h) (.inr ⟨by rfl, rfl⟩) hHeld ?_
                simp only [List.setIfInBounds_toArray, List.set_cons_zero, List.set_cons_succ]
                refine take_at (i := 16) 73 rfl rfl (by kernel_rfl) (by kernel_rfl) (by kernel_rfl) (fun _ _ _ h => h) (.inr ⟨by rfl, rfl⟩) hHeld ?_
                simp only [List.setIfInBounds_toArray, List.set_cons_zero, List.set_cons_succ]
                refine take_at (i := 17) 74 rfl rfl (by kernel_rfl) (by kernel_rfl) (by kernel_rfl) (fun _ _ _ h => h) (.inr ⟨by rfl, rfl⟩) hHeld ?_
                simp only [List.setIfInBounds_toArray, List.set_cons_zero, List.set_cons_succ]
                refine take_at (i := 18) 75 rfl rfl (by kernel_rfl) (by kernel_rfl) (by kernel_rfl) (fun _ _ _ h => h) (.inr ⟨by rfl, rfl⟩) hHeld ?_
                simp only [List.setIfInBounds_toArray, List.set_cons_zero, List.set_cons_succ]
                refine take_at (i := 19) 76 rfl rfl (by kernel_rfl) (by kernel_rfl) (by kernel_rfl) (fun _ _ _ h => h) (.inr ⟨by rfl, rfl⟩) hHeld ?_
                simp only [List.setIfInBounds_toArray, List.set_cons_zero, List.set_cons_succ]
                refine take_at (i := 20) 77 rfl rfl (by kernel_rfl) (by kernel_rfl) (by kernel_rfl) (fun _ _ _ h => h) (.inr ⟨by rfl, rfl⟩) hHeld ?_
                simp only [List.setIfInBounds_toArray, List.set_cons_zero, List.set_cons_succ]
                refine take_at (i := 21) 78 rfl rfl (by kernel_rfl) (by kernel_rfl) (by kernel_rfl) (fun _ _ _ h => h) (.inr ⟨by rfl, rfl⟩) hHeld ?_
                simp only [List.setIfInBounds_toArray, List.set_cons_zero, List.set_cons_succ]
                refine take_at (i := 22) 79 rfl rfl (by kernel_rfl) (by kernel_rfl) (by kernel_rfl) (fun _ _ _ h => h) (.inr ⟨by rfl, rfl⟩) hHeld ?_
                simp only [List.setIfInBounds_toArray, List.set_cons_zero, List.set_cons_succ]
                refine take_at (i := 23) 80 rfl rfl (by kernel_rfl) (by kernel_rfl) (by kernel_rfl) (fun _ _ _ h => h) (.inr ⟨by rfl, rfl⟩) hHeld ?_
                simp only [List.setIfInBounds_toArray, List.set_cons_zero, List.set_cons_succ]
                refine take_at (i := 24) 81 rfl rfl (by kernel_rfl) (by kernel_rfl) (by kernel_rfl) (fun _ _ _ h => h) (.inr ⟨by rfl, rfl⟩) hHeld ?_
                simp only [List.setIfInBounds_toArray, List.set_cons_zero, List.set_cons_succ]
                refine take_at (i := 25) 82 rfl rfl (by kernel_rfl) (by kernel_rfl) (by kernel_rfl) (fun _ _ _ h => h) (.inr ⟨by rfl, rfl⟩) hHeld ?_
                simp only [List.setIfInBounds_toArray, List.set_cons_zero, List.set_cons_succ]
                refine take_at (i := 26) 83 rfl rfl (by kernel_rfl) (by kernel_rfl) (by kernel_rfl) (fun _ _ _ h => h) (.inr ⟨by rfl, rfl⟩) hHeld ?_
                simp only [List.setIfInBounds_toArray, List.set_cons_zero, List.set_cons_succ]
                refine take_at (i := 27) 84 rfl rfl (by kernel_rfl) (by kernel_rfl) (by kernel_rfl) (fun _ _ _ h => h) (.inr ⟨by rfl, rfl⟩) hHeld ?_
                simp only [List.setIfInBounds_toArray, List.set_cons_zero, List.set_cons_succ]
                refine take_at (i := 28) 85 rfl rfl (by kernel_rfl) (by kernel_rfl) (by kernel_rfl) (fun _ _ _ h => h) (.inr ⟨by rfl, rfl⟩) hHeld ?_
                simp only [List.setIfInBounds_toArray, List.set_cons_zero, List.set_cons_succ]
                refine take_at (i := 29) 86 rfl rfl (by kernel_rfl) (by kernel_rfl) (by kernel_rfl) (fun _ _ _ h => h) (sure_yes (by rfl) (fun w => by go_simp; try with_reducible rfl)) hHeld ?_
                simp only [List.setIfInBounds_toArray, List.set_cons_zero, List.set_cons_succ]
                refine take_at (i := 30) 87 rfl rfl (by kernel_rfl) (by kernel_rfl) (by kernel_rfl) (fun _ _ _ h => h) (sure_yes (by rfl) (fun w => by go_simp; try with_reducible rfl)) hHeld ?_
                simp only [List.setIfInBounds_toArray, List.set_cons_zero, List.set_cons_succ]
                refine take_at (i := 31) 88 rfl rfl (by kernel_rfl) (by kernel_rfl) (by kernel_rfl) (fun _ _ _ h => h) (sure_yes (by rfl) (fun w => by go_simp; try with_reducible rfl)) hHeld ?_
                simp only [List.setIfInBounds_toArray, List.set_cons_zero, List.set_cons_succ]
                refine take_at (i := 32) 89 rfl rfl (by kernel_rfl) (by kernel_rfl) (by kernel_rfl) (fun _ _ _ h => h) (sure_yes (by rfl) (fun w => by go_simp; try with_reducible rfl)) hHeld ?_
                simp only [List.setIfInBounds_toArray, List.set_cons_zero, List.set_cons_succ]
                refine take_at (i := 33) 90 rfl rfl (by kernel_rfl) (by kernel_rfl) (by kernel_rfl) (fun _ _ _ h => h) (sure_yes (by rfl) (fun w => by go_simp; try with_reducible rfl)) hHeld ?_
                simp only [List.setIfInBounds_toArray, List.set_cons_zero, List.set_cons_succ]
                refine take_at (i := 34) 91 rfl rfl (by kernel_rfl) (by kernel_rfl) (by kernel_rfl) (fun _ _ _ h => h) (sure_yes (by rfl) (fun w => by go_simp; try with_reducible rfl)) hHeld ?_
                simp only [List.setIfInBounds_toArray, List.set_cons_zero, List.set_cons_succ]
                refine take_at (i := 36) 93 rfl rfl (by kernel_rfl) (by kernel_rfl) (by kernel_rfl) (fun _ _ _ h => h) (sure_yes (by rfl) (fun w => by go_simp; try with_reducible rfl)) hHeld ?_
                simp only [List.setIfInBounds_toArray, List.set_cons_zero, List.set_cons_succ]
                refine take_at (i := 37) 94 rfl rfl (by kernel_rfl) (by kernel_rfl) (by kernel_rfl) (fun _ _ _ h => h) (sure_yes (by rfl) (fun w => by go_simp; try with_reducible rfl)) hHeld ?_
                simp only [List.setIfInBounds_toArray, List.set_cons_zero, List.set_cons_succ]
                refine take_at (i := 38) 95 rfl rfl (by kernel_rfl) (by kernel_rfl) (by kernel_rfl) (fun _ _ _ h => h) (sure_yes (by rfl) (fun w => by go_simp; try with_reducible rfl)) hHeld ?_
                simp only [List.setIfInBounds_toArray, List.set_cons_zero, List.set_cons_succ]
                refine take_at (i := 39) 96 rfl rfl (by kernel_rfl) (by kernel_rfl) (by kernel_rfl) (fun _ _ _ h => h) (sure_yes (by rfl) (fun w => by go_simp; try with_reducible rfl)) hHeld ?_
                simp only [List.setIfInBounds_toArray, List.set_cons_zero, List.set_cons_succ]
                refine take_at (i := 35) 92 rfl rfl (by kernel_rfl) (by kernel_rfl) (by kernel_rfl) (fun _ _ _ h => h) (mid_yields (by rfl) 31 (.tmp 91) rfl (sd.add (k * 36)).block ((sd.add (k * 36)).off + 3) rfl ye.sum Tryz.underlying31 sumSizeS (fun w h => range_under HM3.out h)) hHeld ?_
                simp only [List.setIfInBounds_toArray, List.set_cons_zero, List.set_cons_succ]
                refine take_at (i := 40) 97 rfl rfl (by kernel_rfl) (by kernel_rfl) (by kernel_rfl) (fun _ _ _ h => h) (mid_yields (by rfl) 31 (.tmp 96) rfl (ad.add (i * 38)).block ((ad.add (i * 38)).off + 5) rfl ye.sum Tryz.underlying31 sumSizeS (fun w h => range_under HE5.out h)) hHeld ?_
                simp only [List.setIfInBounds_toArray, List.set_cons_zero, List.set_cons_succ]
                refine take_at (i := 41) 98 rfl rfl (by kernel_rfl) (by kernel_rfl) (by kernel_rfl) (fun _ _ _ h => h) (sure_yes (by rfl) (op_knownS rfl rfl rfl (rows_guard _ _ _ _) (rows_neq ye.sum))) hHeld ?_
                simp only [List.setIfInBounds_toArray, List.set_cons_zero, List.set_cons_succ]
                refine take_at (i := 42) 99 rfl rfl (by kernel_rfl) (by kernel_rfl) (by kernel_rfl) (fun _ _ _ h => h) (sure_yes (by rfl) (fun w => by go_simp; try with_reducible rfl)) hHeld ?_
                simp only [List.setIfInBounds_toArray, List.set_cons_zero, List.set_cons_succ]
                refine take_at (i := 43) 100 rfl rfl (by kernel_rfl) (by kernel_rfl) (by kernel_rfl) (fun _ _ _ h => h) (sure_yes (by rfl) (fun w => by go_simp; try with_reducible rfl)) hHeld ?_
                simp only [List.setIfInBounds_toArray, List.set_cons_zero, List.set_cons_succ]
                refine take_at (i := 44) 101 rfl rfl (by kernel_rfl) (by kernel_rfl) (by kernel_rfl) (fun _ _ _ h => h) (sure_yes (by rfl) (fun w => by go_simp; try with_reducible rfl)) hHeld ?_
                simp only [List.setIfInBounds_toArray, List.set_cons_zero, List.set_cons_succ]
                refine take_at (i := 45) 102 rfl rfl (by kernel_rfl) (by kernel_rfl) (by kernel_rfl) (fun _ _ _ h => h) (sure_yes (by rfl) (fun w => by go_simp; try with_reducible rfl)) hHeld ?_
                simp only [List.setIfInBounds_toArray, List.set_cons_zero, List.set_cons_succ]
                refine take_at (i := 46) 103 rfl rfl (by kernel_rfl) (by kernel_rfl) (by kernel_rfl) (fun _ _ _ h => h) (sure_yes (by rfl) (fun w => by go_simp; try with_reducible rfl)) hHeld ?_
                simp only [List.setIfInBounds_toArray, List.set_cons_zero, List.set_cons_succ]
                refine take_at (i := 47) 104 rfl rfl (by kernel_rfl) (by kernel_rfl) (by kernel_rfl) (fun _ _ _ h => h) (sure_yes (by rfl) (fun w => by go_simp; try with_reducible rfl)) hHeld ?_
                simp only [List.setIfInBounds_toArray, List.set_cons_zero, List.set_cons_succ]
                refine take_at (i := 49) 106 rfl rfl (by kernel_rfl) (by kernel_rfl) (by kernel_rfl) (fun _ _ _ h => h) (sure_yes (by rfl) (fun w => by go_simp; try with_reducible rfl)) hHeld ?_
                simp only [List.setIfInBounds_toArray, List.set_cons_zero, List.set_cons_succ]
                refine take_at (i := 50) 107 rfl rfl (by kernel_rfl) (by kernel_rfl) (by kernel_rfl) (fun _ _ _ h => h) (sure_yes (by rfl) (fun w => by go_simp; try with_reducible rfl)) hHeld ?_
                simp only [List.setIfInBounds_toArray, List.set_cons_zero, List.set_cons_succ]
                refine take_at (i := 51) 108 rfl rfl (by kernel_rfl) (by kernel_rfl) (by kernel_rfl) (fun _ _ _ h => h) (sure_yes (by rfl) (fun w => by go_simp; try with_reducible rfl)) hHeld ?_
                simp only [List.setIfInBounds_toArray, List.set_cons_zero, List.set_cons_succ]
                refine take_at (i := 52) 109 rfl rfl (by kernel_rfl) (by kernel_rfl) (by kernel_rfl) (fun _ _ _ h => h) (sure_yes (by rfl) (fun w => by go_simp; try with_reducible rfl)) hHeld ?_
                simp only [List.setIfInBounds_toArray, List.set_cons_zero, List.set_cons_succ]
                refine take_at (i := 48) 105 rfl rfl (by kernel_rfl) (by kernel_rfl) (by kernel_rfl) (fun _ _ _ h => h) (int_yieldsA (by rfl) 3 (.tmp 104) rfl ⟨(sd.add (k * 36)).block, (sd.add (k * 36)).off + 35, none⟩ rfl .i64 ye.size Tryz.underlying3 (fun w h => cell_under12 HZ35.out h)) hHeld ?_
                simp only [List.setIfInBounds_toArray, List.set_cons_zero, List.set_cons_succ]
                refine take_at (i := 53) 110 rfl rfl (by kernel_rfl) (by kernel_rfl) (by kernel_rfl) (fun _ _ _ h => h) (int_yieldsA (by rfl) 3 (.tmp 109) rfl ⟨(ad.add (i * 38)).block, (ad.add (i * 38)).off + 37, none⟩ rfl .i64 ye.size Tryz.underlying3 (fun w h => cell_under12 HE37.out h)) hHeld ?_
                simp only [List.setIfInBounds_toArray, List.set_cons_zero, List.set_cons_succ]
                refine take_at (i := 54) 111 rfl rfl (by kernel_rfl) (by kernel_rfl) (by kernel_rfl) (fun _ _ _ h => h) (sure_yes (by rfl) (fun w => by go_simp; try with_reducible rfl)) hHeld ?_
                simp only [List.setIfInBounds_toArray, List.set_cons_zero, List.set_cons_succ]
                refine take_at (i := 55) 112 rfl rfl (by kernel_rfl) (by kernel_rfl) (by kernel_rfl) (fun _ _ _ h => h) (sure_yes (by rfl) (fun w => by go_simp; try with_reducible rfl)) hHeld ?_
                simp only [List.setIfInBounds_toArray, List.set_cons_zero, List.set_cons_succ]
                refine wpAnyH_done (by kernel_rfl) ?_ _
                have BB := Lib.hid (below_next HB7.out hHeld)
                clear hHeld
                go_wp2
                go_roundw
                case rel => exact ⟨k + 1, by have h := CS.out; rw [if_pos HDD.out] at h; rw [h]; first | rfl | go_num, by omega, by go_num, BB.out⟩
                case measure => simp [intOf] <;> omega
              · have HQ1 := Lib.hid (str_neq (a := x.path) (b := ye.path) (r := true) (by rw [beq_eq_false_iff_ne.2 hpp]; rfl))
                have HQ2 := Lib.hid (str_neq (a := x.path) (b := copyL ye.path ye.r ye.q) (r := false) (by rw [HPT.out.resolve_left hpp]; simp))
                clear hpp
                go_upto_region 17 with fail
                refine wp_region_held_drew (S := fun w' => Below w8.heap.size w8 w') (by kernel_rfl) (drawS HLD.out) (fun hHeld => ?_)
                generalize w9.drew = wd at hHeld ⊢
                refine take_at (i := 0) 57 rfl rfl (by kernel_rfl) (by kernel_rfl) (by kernel_rfl) (fun _ _ _ h => h) (sure_yes (by rfl) (fun w => by go_simp; try with_reducible rfl)) hHeld ?_
                simp only [List.setIfInBounds_toArray, List.set_cons_zero, List.set_cons_succ]
                refine take_at (i := 1) 58 rfl rfl (by kernel_rfl) (by kernel_rfl) (by kernel_rfl) (fun _ _ _ h => h) (sure_yes (by rfl) (fun w => by go_simp; try with_reducible rfl)) hHeld ?_
                simp only [List.setIfInBounds_toArray, List.set_cons_zero, List.set_cons_succ]
                refine take_at (i := 2) 59 rfl rfl (by kernel_rfl) (by kernel_rfl) (by kernel_rfl) (fun _ _ _ h => h) (sure_yes (by rfl) (fun w => by go_simp; try with_reducible rfl)) hHeld ?_
                simp only [List.setIfInBounds_toArray, List.set_cons_zero, List.set_cons_succ]
                refine take_at (i := 3) 60 rfl rfl (by kernel_rfl) (by kernel_rfl) (by kernel_rfl) (fun _ _ _ h => h) (sure_yes (by rfl) (fun w => by go_simp; try with_reducible rfl)) hHeld ?_
                simp only [List.setIfInBounds_toArray, List.set_cons_zero, List.set_cons_succ]
                refine take_at (i := 5) 62 rfl rfl (by kernel_rfl) (by kernel_rfl) (by kernel_rfl) (fun _ _ _ h => h) (sure_yes (by rfl) (fun w => by go_simp; try with_reducible rfl)) hHeld ?_
                simp only [List.setIfInBounds_toArray, List.set_cons_zero, List.set_cons_succ]
                refine take_at (i := 6) 63 rfl rfl (by kernel_rfl) (by kernel_rfl) (by kernel_rfl) (fun _ _ _ h => h) (sure_yes (by rfl) (fun w => by go_simp; try with_reducible rfl)) hHeld ?_
                simp only [List.setIfInBounds_toArray, List.set_cons_zero, List.set_cons_succ]
                refine take_at (i := 7) 64 rfl rfl (by kernel_rfl) (by kernel_rfl) (by kernel_rfl) (fun _ _ _ h => h) (sure_yes (by rfl) (fun w => by go_simp; try with_reducible rfl)) hHeld ?_
                simp only [List.setIfInBounds_toArray, List.set_cons_zero, List.set_cons_succ]
                refine take_at (i := 8) 65 rfl rfl (by kernel_rfl) (by kernel_rfl) (by kernel_rfl) (fun _ _ _ h => h) (sure_yes (by rfl) (fun w => by go_simp; try with_reducible rfl)) hHeld ?_
                simp only [List.setIfInBounds_toArray, List.set_cons_zero, List.set_cons_succ]
                refine take_at (i := 4) 61 rfl rfl (by kernel_rfl) (by kernel_rfl) (by kernel_rfl) (fun _ _ _ h => h) (str_yields12 (by rfl) 9 (.tmp 60) rfl (sd.add (k * 36)) rfl (str x.path) Tryz.underlying9 (fun w h => cell_under12 HP0.out h)) hHeld ?_
                simp only [List.setIfInBounds_toArray, List.set_cons_zero, List.set_cons_succ]
                refine take_at (i := 9) 66 rfl rfl (by kernel_rfl) (by kernel_rfl) (by kernel_rfl) (fun _ _ _ h => h) (str_yields12 (by rfl) 9 (.tmp 65) rfl ⟨(ad.add (i * 38)).block, (ad.add (i * 38)).off + 4, none⟩ rfl (str ye.path) Tryz.underlying9 (fun w h => cell_under12 HE4.out h)) hHeld ?_
                simp only [List.setIfInBounds_toArray, List.set_cons_zero, List.set_cons_succ]
                refine take_at (i := 10) 67 rfl rfl (by kernel_rfl) (by kernel_rfl) (by kernel_rfl) (fun _ _ _ h => h) (sure_yes (by rfl) (op_knownS rfl rfl rfl (str_guard _ _ _ _ _) HQ1.out)) hHeld ?_
                simp only [List.setIfInBounds_toArray, List.set_cons_zero, List.set_cons_succ]
                refine take_at (i := 11) 68 rfl rfl (by kernel_rfl) (by kernel_rfl) (by kernel_rfl) (fun _ _ _ h => h) (sure_yes (by rfl) (fun w => by go_simp; try with_reducible rfl)) hHeld ?_
                simp only [List.setIfInBounds_toArray, List.set_cons_zero, List.set_cons_succ]
                refine take_at (i := 12) 69 rfl rfl (by kernel_rfl) (by kernel_rfl) (by kernel_rfl) (fun _ _ _ h => h) (sure_yes (by rfl) (fun w => by go_simp; try with_reducible rfl)) hHeld ?_
                simp only [List.setIfInBounds_toArray, List.set_cons_zero, List.set_cons_succ]
                refine take_at (i := 13) 70 rfl rfl (by kernel_rfl) (by kernel_rfl) (by kernel_rfl) (fun _ _ _ h => h) (sure_yes (by rfl) (fun w => by go_simp; try with_reducible rfl)) hHeld ?_
                simp only [List.setIfInBounds_toArray, List.set_cons_zero, List.set_cons_succ]
                refine take_at (i := 14) 71 rfl rfl (by kernel_rfl) (by kernel_rfl) (by kernel_rfl) (fun _ _ _ h => h) (sure_yes (by rfl) (fun w => by go_simp; try with_reducible rfl)) hHeld ?_
                simp only [List.setIfInBounds_toArray, List.set_cons_zero, List.set_cons_succ]
                refine take_at (i := 15) 72 rfl rfl (by kernel_rfl) (by kernel_rfl) (by kernel_rfl) (fun _ _ _ h => h) (sure_yes (by rfl) (fun w => by go_simp; try with_reducible rfl)) hHeld ?_
                simp only [List.setIfInBounds_toArray, List.set_cons_zero, List.set_cons_succ]
                refine take_at (i := 17) 74 rfl rfl (by kernel_rfl) (by kernel_rfl) (by kernel_rfl) (fun _ _ _ h => h) (sure_yes (by rfl) (fun w => by go_simp; try with_reducible rfl)) hHeld ?_
                simp only [List.setIfInBounds_toArray, List.set_cons_zero, List.set_cons_succ]
                refine take_at (i := 18) 75 rfl rfl (by kernel_rfl) (by kernel_rfl) (by kernel_rfl) (fun _ _ _ h => h) (sure_yes (by rfl) (fun w => by go_simp; try with_reducible rfl)) hHeld ?_
                simp only [List.setIfInBounds_toArray, List.set_cons_zero, List.set_cons_succ]
                refine take_at (i := 19) 76 rfl rfl (by kernel_rfl) (by kernel_rfl) (by kernel_rfl) (fun _ _ _ h => h) (sure_yes (by rfl) (fun w => by go_simp; try with_reducible rfl)) hHeld ?_
                simp only [List.setIfInBounds_toArray, List.set_cons_zero, List.set_cons_succ]
                refine take_at (i := 20) 77 rfl rfl (by kernel_rfl) (by kernel_rfl) (by kernel_rfl) (fun _ _ _ h => h) (sure_yes (by rfl) (fun w => by go_simp; try with_reducible rfl)) hHeld ?_
                simp only [List.setIfInBounds_toArray, List.set_cons_zero, List.set_cons_succ]
                refine take_at (i := 22) 79 rfl rfl (by kernel_rfl) (by kernel_rfl) (by kernel_rfl) (fun _ _ _ h => h) (sure_yes (by rfl) (fun w => by go_simp; try with_reducible rfl)) hHeld ?_
                simp only [List.setIfInBounds_toArray, List.set_cons_zero, List.set_cons_succ]
                refine take_at (i := 23) 80 rfl rfl (by kernel_rfl) (by kernel_rfl) (by kernel_rfl) (fun _ _ _ h => h) (sure_yes (by rfl) (fun w => by go_simp; try with_reducible rfl)) hHeld ?_
                simp only [List.setIfInBounds_toArray, List.set_cons_zero, List.set_cons_succ]
                refine take_at (i := 24) 81 rfl rfl (by kernel_rfl) (by kernel_rfl) (by kernel_rfl) (fun _ _ _ h => h) (sure_yes (by rfl) (fun w => by go_simp; try with_reducible rfl)) hHeld ?_
                simp only [List.setIfInBounds_toArray, List.set_cons_zero, List.set_cons_succ]
                refine take_at (i := 25) 82 rfl rfl (by kernel_rfl) (by kernel_rfl) (by kernel_rfl) (fun _ _ _ h => h) (sure_yes (by rfl) (fun w => by go_simp; try with_reducible rfl)) hHeld ?_
                simp only [List.setIfInBounds_toArray, List.set_cons_zero, List.set_cons_succ]
                refine take_at (i := 16) 73 rfl rfl (by kernel_rfl) (by kernel_rfl) (by kernel_rfl) (fun _ _ _ h => h) (str_yields12 (by rfl) 9 (.tmp 72) rfl (sd.add (k * 36)) rfl (str x.path) Tryz.underlying9 (fun w h => cell_under12 HP0.out h)) hHeld ?_
                simp only [List.setIfInBounds_toArray, List.set_cons_zero, List.set_cons_succ]
                refine take_at (i := 21) 78 rfl rfl (by kernel_rfl) (by kernel_rfl) (by kernel_rfl) (fun _ _ _ h => h) (str_yields12 (by rfl) 9 (.tmp 77) rfl ⟨(ad.add (i * 38)).block, (ad.add (i * 38)).off + 4, none⟩ rfl (str ye.path) Tryz.underlying9 (fun w h => cell_under12 HE4.out h)) hHeld ?_
                simp only [List.setIfInBounds_toArray, List.set_cons_zero, List.set_cons_succ]
                refine take_at (i := 26) 83 rfl rfl (by kernel_rfl) (by kernel_rfl) (by kernel_rfl) (fun _ _ _ h => h) (dot_yields (by rfl) 29 (.tmp 82) rfl (ad.add (i * 38)) rfl ye.r ye.q Tryz.underlying29 (by kernel_rfl) (fun w h => ⟨cell_under12 HE0.out h, cell_under12 HE1.out h⟩)) hHeld ?_
                simp only [List.setIfInBounds_toArray, List.set_cons_zero, List.set_cons_succ]
                refine ready_one 27 (by kernel_rfl) ?_
                refine opH_k2 84 rfl rfl (by rfl) 24 (.tmp 78) (.tmp 83) 9 29 rfl (.string (str ye.path)) (.agg #[.int .i64 ye.r, .int .i64 ye.q]) rfl rfl ENC.out _ (CPY.out _) ?_
                rintro z wz ⟨rfl, hb⟩
                refine ⟨_, rfl, below_next hHeld hb, ?_⟩
                replace hHeld := below_next hHeld hb
                clear hb
                simp only [List.setIfInBounds_toArray, List.set_cons_zero, List.set_cons_succ]
                refine take_at (i := 28) 85 rfl rfl (by kernel_rfl) (by kernel_rfl) (by kernel_rfl) (fun _ _ _ h => h) (sure_yes (by rfl) (op_knownS rfl rfl rfl (str_guard _ _ _ _ _) HQ2.out)) hHeld ?_
                simp only [List.setIfInBounds_toArray, List.set_cons_zero, List.set_cons_succ]
                refine take_at (i := 29) 86 rfl rfl (by kernel_rfl) (by kernel_rfl) (by kernel_rfl) (fun _ _ _ h => h) (sure_yes (by rfl) (fun w => by go_simp; try with_reducible rfl)) hHeld ?_
                simp only [List.setIfInBounds_toArray, List.set_cons_zero, List.set_cons_succ]
                refine take_at (i := 30) 87 rfl rfl (by kernel_rfl) (by kernel_rfl) (by kernel_rfl) (fun _ _ _ h => h) (sure_yes (by rfl) (fun w => by go_simp; try with_reducible rfl)) hHeld ?_
                simp only [List.setIfInBounds_toArray, List.set_cons_zero, List.set_cons_succ]
                refine take_at (i := 31) 88 rfl rfl (by kernel_rfl) (by kernel_rfl) (by kernel_rfl) (fun _ _ _ h => h) (sure_yes (by rfl) (fun w => by go_simp; try with_reducible rfl)) hHeld ?_
                simp only [List.setIfInBounds_toArray, List.set_cons_zero, List.set_cons_succ]
                refine take_at (i := 32) 89 rfl rfl (by kernel_rfl) (by kernel_rfl) (by kernel_rfl) (fun _ _ _ h => h) (sure_yes (by rfl) (fun w => by go_simp; try with_reducible rfl)) hHeld ?_
                simp only [List.setIfInBounds_toArray, List.set_cons_zero, List.set_cons_succ]
                refine take_at (i := 33) 90 rfl rfl (by kernel_rfl) (by kernel_rfl) (by kernel_rfl) (fun _ _ _ h => h) (sure_yes (by rfl) (fun w => by go_simp; try with_reducible rfl)) hHeld ?_
                simp only [List.setIfInBounds_toArray, List.set_cons_zero, List.set_cons_succ]
                refine take_at (i := 34) 91 rfl rfl (by kernel_rfl) (by kernel_rfl) (by kernel_rfl) (fun _ _ _ h => h) (sure_yes (by rfl) (fun w => by go_simp; try with_reducible rfl)) hHeld ?_
                simp only [List.setIfInBounds_toArray, List.set_cons_zero, List.set_cons_succ]
                refine take_at (i := 36) 93 rfl rfl (by kernel_rfl) (by kernel_rfl) (by kernel_rfl) (fun _ _ _ h => h) (sure_yes (by rfl) (fun w => by go_simp; try with_reducible rfl)) hHeld ?_
                simp only [List.setIfInBounds_toArray, List.set_cons_zero, List.set_cons_succ]
                refine take_at (i := 37) 94 rfl rfl (by kernel_rfl) (by kernel_rfl) (by kernel_rfl) (fun _ _ _ h => h) (sure_yes (by rfl) (fun w => by go_simp; try with_reducible rfl)) hHeld ?_
                simp only [List.setIfInBounds_toArray, List.set_cons_zero, List.set_cons_succ]
                refine take_at (i := 38) 95 rfl rfl (by kernel_rfl) (by kernel_rfl) (by kernel_rfl) (fun _ _ _ h => h) (sure_yes (by rfl) (fun w => by go_simp; try with_reducible rfl)) hHeld ?_
                simp only [List.setIfInBounds_toArray, List.set_cons_zero, List.set_cons_succ]
                refine take_at (i := 39) 96 rfl rfl (by kernel_rfl) (by kernel_rfl) (by kernel_rfl) (fun _ _ _ h => h) (sure_yes (by rfl) (fun w => by go_simp; try with_reducible rfl)) hHeld ?_
                simp only [List.setIfInBounds_toArray, List.set_cons_zero, List.set_cons_succ]
                refine take_at (i := 35) 92 rfl rfl (by kernel_rfl) (by kernel_rfl) (by kernel_rfl) (fun _ _ _ h => h) (mid_yields (by rfl) 31 (.tmp 91) rfl (sd.add (k * 36)).block ((sd.add (k * 36)).off + 3) rfl ye.sum Tryz.underlying31 sumSizeS (fun w h => range_under HM3.out h)) hHeld ?_
                simp only [List.setIfInBounds_toArray, List.set_cons_zero, List.set_cons_succ]
                refine take_at (i := 40) 97 rfl rfl (by kernel_rfl) (by kernel_rfl) (by kernel_rfl) (fun _ _ _ h => h) (mid_yields (by rfl) 31 (.tmp 96) rfl (ad.add (i * 38)).block ((ad.add (i * 38)).off + 5) rfl ye.sum Tryz.underlying31 sumSizeS (fun w h => range_under HE5.out h)) hHeld ?_
                simp only [List.setIfInBounds_toArray, List.set_cons_zero, List.set_cons_succ]
                refine take_at (i := 41) 98 rfl rfl (by kernel_rfl) (by kernel_rfl) (by kernel_rfl) (fun _ _ _ h => h) (sure_yes (by rfl) (op_knownS rfl rfl rfl (rows_guard _ _ _ _) (rows_neq ye.sum))) hHeld ?_
                simp only [List.setIfInBounds_toArray, List.set_cons_zero, List.set_cons_succ]
                refine take_at (i := 42) 99 rfl rfl (by kernel_rfl) (by kernel_rfl) (by kernel_rfl) (fun _ _ _ h => h) (sure_yes (by rfl) (fun w => by go_simp; try with_reducible rfl)) hHeld ?_
                simp only [List.setIfInBounds_toArray, List.set_cons_zero, List.set_cons_succ]
                refine take_at (i := 43) 100 rfl rfl (by kernel_rfl) (by kernel_rfl) (by kernel_rfl) (fun _ _ _ h => h) (sure_yes (by rfl) (fun w => by go_simp; try with_reducible rfl)) hHeld ?_
                simp only [List.setIfInBounds_toArray, List.set_cons_zero, List.set_cons_succ]
                refine take_at (i := 44) 101 rfl rfl (by kernel_rfl) (by kernel_rfl) (by kernel_rfl) (fun _ _ _ h => h) (sure_yes (by rfl) (fun w => by go_simp; try with_reducible rfl)) hHeld ?_
                simp only [List.setIfInBounds_toArray, List.set_cons_zero, List.set_cons_succ]
                refine take_at (i := 45) 102 rfl rfl (by kernel_rfl) (by kernel_rfl) (by kernel_rfl) (fun _ _ _ h => h) (sure_yes (by rfl) (fun w => by go_simp; try with_reducible rfl)) hHeld ?_
                simp only [List.setIfInBounds_toArray, List.set_cons_zero, List.set_cons_succ]
                refine take_at (i := 46) 103 rfl rfl (by kernel_rfl) (by kernel_rfl) (by kernel_rfl) (fun _ _ _ h => h) (sure_yes (by rfl) (fun w => by go_simp; try with_reducible rfl)) hHeld ?_
                simp only [List.setIfInBounds_toArray, List.set_cons_zero, List.set_cons_succ]
                refine take_at (i := 47) 104 rfl rfl (by kernel_rfl) (by kernel_rfl) (by kernel_rfl) (fun _ _ _ h => h) (sure_yes (by rfl) (fun w => by go_simp; try with_reducible rfl)) hHeld ?_
                simp only [List.setIfInBounds_toArray, List.set_cons_zero, List.set_cons_succ]
                refine take_at (i := 49) 106 rfl rfl (by kernel_rfl) (by kernel_rfl) (by kernel_rfl) (fun _ _ _ h => h) (sure_yes (by rfl) (fun w => by go_simp; try with_reducible rfl)) hHeld ?_
                simp only [List.setIfInBounds_toArray, List.set_cons_zero, List.set_cons_succ]
                refine take_at (i := 50) 107 rfl rfl (by kernel_rfl) (by kernel_rfl) (by kernel_rfl) (fun _ _ _ h => h) (sure_yes (by rfl) (fun w => by go_simp; try with_reducible rfl)) hHeld ?_
                simp only [List.setIfInBounds_toArray, List.set_cons_zero, List.set_cons_succ]
                refine take_at (i := 51) 108 rfl rfl (by kernel_rfl) (by kernel_rfl) (by kernel_rfl) (fun _ _ _ h => h) (sure_yes (by rfl) (fun w => by go_simp; try with_reducible rfl)) hHeld ?_
                simp only [List.setIfInBounds_toArray, List.set_cons_zero, List.set_cons_succ]
                refine take_at (i := 52) 109 rfl rfl (by kernel_rfl) (by kernel_rfl) (by kernel_rfl) (fun _ _ _ h => h) (sure_yes (by rfl) (fun w => by go_simp; try with_reducible rfl)) hHeld ?_
                simp only [List.setIfInBounds_toArray, List.set_cons_zero, List.set_cons_succ]
                refine take_at (i := 48) 105 rfl rfl (by kernel_rfl) (by kernel_rfl) (by kernel_rfl) (fun _ _ _ h => h) (int_yieldsA (by rfl) 3 (.tmp 104) rfl ⟨(sd.add (k * 36)).block, (sd.add (k * 36)).off + 35, none⟩ rfl .i64 ye.size Tryz.underlying3 (fun w h => cell_under12 HZ35.out h)) hHeld ?_
                simp only [List.setIfInBounds_toArray, List.set_cons_zero, List.set_cons_succ]
                refine take_at (i := 53) 110 rfl rfl (by kernel_rfl) (by kernel_rfl) (by kernel_rfl) (fun _ _ _ h => h) (int_yieldsA (by rfl) 3 (.tmp 109) rfl ⟨(ad.add (i * 38)).block, (ad.add (i * 38)).off + 37, none⟩ rfl .i64 ye.size Tryz.underlying3 (fun w h => cell_under12 HE37.out h)) hHeld ?_
                simp only [List.setIfInBounds_toArray, List.set_cons_zero, List.set_cons_succ]
                refine take_at (i := 54) 111 rfl rfl (by kernel_rfl) (by kernel_rfl) (by kernel_rfl) (fun _ _ _ h => h) (sure_yes (by rfl) (fun w => by go_simp; try with_reducible rfl)) hHeld ?_
                simp only [List.setIfInBounds_toArray, List.set_cons_zero, List.set_cons_succ]
                refine take_at (i := 55) 112 rfl rfl (by kernel_rfl) (by kernel_rfl) (by kernel_rfl) (fun _ _ _ h => h) (sure_yes (by rfl) (fun w => by go_simp; try with_reducible rfl)) hHeld ?_
                simp only [List.setIfInBounds_toArray, List.set_cons_zero, List.set_cons_succ]
                refine wpAnyH_done (by kernel_rfl) ?_ _
                have BB := Lib.hid (below_next HB7.out hHeld)
                clear hHeld
                go_wp2
                go_roundw
                case rel => exact ⟨k + 1, by have h := CS.out; rw [if_pos HDD.out] at h; rw [h]; first | rfl | go_num, by omega, by go_num, BB.out⟩
                case measure => simp [intOf] <;> omega
            | false =>
              have HDD := Lib.hid hdd
              clear hdd
              go_wp2
              go_roundw
              case rel => exact ⟨k + 1, by have h := CS.out; rw [if_neg (by rw [HDD.out]; simp)] at h; rw [h]; rfl, by omega, by go_num, B8.out⟩
              case measure => simp [intOf] <;> omega
          · obtain rfl : k = m := by omega
            have q3 : ¬ (k : Int) < (k : Int) := by omega
            have hone : (S.take k).countP (fun s => dotS s ye) = 1 := by
              rw [List.take_of_length_le (Nat.le_of_eq HMS.out.symm)]
              exact view_count HHD.out HST.out HME.out HP1P.out
            rw [hone]
            have BQ := Lib.hid (below_next HB.out HB7.out)
            clear hone hk
            go_wp2
            go_roundw
            case rel => exact ⟨i + 1, hi1, by go_num, by have h := HPS.out; rw [if_pos HP1P.out, ← HP00.out] at h; rw [h]; first | rfl | go_num, BQ.out⟩
            case measure => simp [intOf] <;> omega
      · have q2 : (kd != 1) = true := by rw [bne, beq_eq_false_iff_ne.2 hk1]; rfl
        have HPN := Lib.hid (show ¬ putE ye = true from fun hp => hk1 (hkd.symm.trans ((putE_iff ye).1 hp)))
        clear hkd hk1
        go_wp2
        go_roundw
        case rel => exact ⟨i + 1, hi1, by go_num, by have h := HPS.out; rw [if_neg HPN.out, ← HP00.out] at h; rw [h]; first | rfl | go_num, HB.out⟩
        case measure => simp [intOf] <;> omega
    · obtain rfl : i = n := by omega
      have q0 : ¬ (i : Int) < (i : Int) := by omega
      have hpm : p0 = m := by
        rw [HP00.out, List.take_of_length_le (Nat.le_of_eq HN.out.symm), HMS.out, view_len HST.out, List.filter_map, List.length_map]
        rfl
      subst hpm
      have UN := Lib.hid (fun s t h1 h2 => view_under HHD.out HST.out (s := s) (t := t) h1 h2)
      have AP := Lib.hid (show S.Pairwise fun s t => s.path ≠ t.path from ((stable_perm HST.out).pairwise_iff fun {a b} h => fun e => h e.symm).2 (shows_apart HHD.out))
      have HPM := Lib.hid (show ∀ s ∈ S, s.path.length < 1152921504606846976 from fun s hs => view_short HHD.out HST.out hs)
      clear hi HP00 HLF
      generalize wr = wq at *
      go_wp2
      go_loopw [12] (fun c wr => ∃ i : Nat, c = .int .i64 (i : Int) ∧ i ≤ p0 ∧ Below wq.heap.size wq wr) (fun c _ => p0 - (intOf c).toNat)
      case atStart => exact ⟨0, rfl, Nat.zero_le _, Below.refl _ _⟩
      case round =>
        obtain ⟨i, rfl, hi, hb⟩ := hrel
        have HBI := Lib.hid hb
        clear hb
        by_cases hil : i < p0
        · have q3 : (i : Int) < (p0 : Int) := by omega
          have q3b : (i : Int) < 50000 := by omega
          have hi1 : i + 1 ≤ p0 := hil
          obtain ⟨x, hx⟩ : ∃ x, S[i]? = some x := ⟨_, List.getElem?_eq_getElem (by have := HMS.out; omega)⟩
          have HXI := Lib.hid hx
          clear hx
          generalize wr = wp at *
          go_wp2
          go_loopw [13] (fun c wr => ∃ k : Nat, c = .int .i64 (k : Int) ∧ k ≤ p0 ∧ Below wp.heap.size wp wr) (fun c _ => p0 - (intOf c).toNat)
          case atStart => exact ⟨0, rfl, Nat.zero_le _, Below.refl _ _⟩
          case round =>
            obtain ⟨k, rfl, hk, hb⟩ := hrel
            have HB7 := Lib.hid hb
            clear hb
            by_cases hkl : k < p0
            · have q4 : (k : Int) < (p0 : Int) := by omega
              have q5 : (k : Int) < 50000 := by omega
              obtain ⟨y, hy⟩ : ∃ y, S[k]? = some y := ⟨_, List.getElem?_eq_getElem (by have := HMS.out; omega)⟩
              have HW8 := below_next HB.out (below_next HBI.out HB7.out)
              obtain ⟨sd, cap1, e1, hsx⟩ := holdsS_at (holdsS_below HHS.out HW8) p0 i HMS.out.symm x HXI.out
              obtain ⟨td, cap2, e2, hsy⟩ := holdsS_at (holdsS_below HHS.out HW8) p0 k HMS.out.symm y hy
              cases e1
              cases e2
              have HPX := Lib.hid (sh_field0 hsx _ (shC_at x).1)
              have HPY := Lib.hid (sh_field0 hsy _ (shC_at y).1)
              have hxm := List.mem_of_getElem? HXI.out
              have hym := List.mem_of_getElem? hy
              have UNC := Lib.hid (fun w => refUnder_any x.path y.path (HPM.out y hym) w)
              rw [UN.out x y hxm hym] at UNC
              have HYK := Lib.hid hy
              clear hy hsx hsy hxm hym HW8
              generalize wr = w8 at *
              by_cases hik : i = k
              · subst hik
                go_upto_region 27 with fail
                refine wp_region_held_drew (S := fun w' => Below w8.heap.size w8 w') (by kernel_rfl) (drawS (Below.refl _ _)) (fun hHeld => ?_)
                generalize w8.drew = wd at hHeld ⊢
                refine take_at (i := 0) 127 rfl rfl (by kernel_rfl) (by kernel_rfl) (by kernel_rfl) (fun _ _ _ h => h) (sure_yes (by rfl) (fun w => by go_simp; try with_reducible rfl)) hHeld ?_
                simp only [List.setIfInBounds_toArray, List.set_cons_zero, List.set_cons_succ]
                refine take_at (i := 1) 128 rfl rfl (by kernel_rfl) (by kernel_rfl) (by kernel_rfl) (fun _ _ _ h => h) (sure_yes (by rfl) (fun w => by go_simp; try with_reducible rfl)) hHeld ?_
                simp only [List.setIfInBounds_toArray, List.set_cons_zero, List.set_cons_succ]
                refine take_at (i := 2) 129 rfl rfl (by kernel_rfl) (by kernel_rfl) (by kernel_rfl) (fun _ _ _ h => h) (sure_yes (by rfl) (fun w => by go_simp; try with_reducible rfl)) hHeld ?_
                simp only [List.setIfInBounds_toArray, List.set_cons_zero, List.set_cons_succ]
                refine take_at (i := 3) 130 rfl rfl (by kernel_rfl) (by kernel_rfl) (by kernel_rfl) (fun _ _ _ h => h) (sure_yes (by rfl) (fun w => by go_simp; try with_reducible rfl)) hHeld ?_
                simp only [List.setIfInBounds_toArray, List.set_cons_zero, List.set_cons_succ]
                refine take_at (i := 4) 131 rfl rfl (by kernel_rfl) (by kernel_rfl) (by kernel_rfl) (fun _ _ _ h => h) (.inr ⟨by rfl, rfl⟩) hHeld ?_
                simp only [List.setIfInBounds_toArray, List.set_cons_zero, List.set_cons_succ]
                refine take_at (i := 5) 132 rfl rfl (by kernel_rfl) (by kernel_rfl) (by kernel_rfl) (fun _ _ _ h => h) (.inr ⟨by rfl, rfl⟩) hHeld ?_
                simp only [List.setIfInBounds_toArray, List.set_cons_zero, List.set_cons_succ]
                refine take_at (i := 6) 133 rfl rfl (by kernel_rfl) (by kernel_rfl) (by kernel_rfl) (fun _ _ _ h => h) (.inr ⟨by rfl, rfl⟩) hHeld ?_
                simp only [List.setIfInBounds_toArray, List.set_cons_zero, List.set_cons_succ]
                refine take_at (i := 7) 134 rfl rfl (by kernel_rfl) (by kernel_rfl) (by kernel_rfl) (fun _ _ _ h => h) (.inr ⟨by rfl, rfl⟩) hHeld ?_
                simp only [List.setIfInBounds_toArray, List.set_cons_zero, List.set_cons_succ]
                refine take_at (i := 8) 135 rfl rfl (by kernel_rfl) (by kernel_rfl) (by kernel_rfl) (fun _ _ _ h => h) (.inr ⟨by rfl, rfl⟩) hHeld ?_
                simp only [List.setIfInBounds_toArray, List.set_cons_zero, List.set_cons_succ]
                refine take_at (i := 9) 136 rfl rfl (by kernel_rfl) (by kernel_rfl) (by kernel_rfl) (fun _ _ _ h => h) (.inr ⟨by rfl, rfl⟩) hHeld ?_
                simp only [List.setIfInBounds_toArray, List.set_cons_zero, List.set_cons_succ]
                refine take_at (i := 10) 137 rfl rfl (by kernel_rfl) (by kernel_rfl) (by kernel_rfl) (fun _ _ _ h => h) (.inr ⟨by rfl, rfl⟩) hHeld ?_
                simp only [List.setIfInBounds_toArray, List.set_cons_zero, List.set_cons_succ]
                refine take_at (i := 11) 138 rfl rfl (by kernel_rfl) (by kernel_rfl) (by kernel_rfl) (fun _ _ _ h => h) (.inr ⟨by rfl, rfl⟩) hHeld ?_
                simp only [List.setIfInBounds_toArray, List.set_cons_zero, List.set_cons_succ]
                refine take_at (i := 12) 139 rfl rfl (by kernel_rfl) (by kernel_rfl) (by kernel_rfl) (fun _ _ _ h => h) (.inr ⟨by rfl, rfl⟩) hHeld ?_
                simp only [List.setIfInBounds_toArray, List.set_cons_zero, List.set_cons_succ]
                refine take_at (i := 13) 140 rfl rfl (by kernel_rfl) (by kernel_rfl) (by kernel_rfl) (fun _ _ _ h => h) (.inr ⟨by rfl, rfl⟩) hHeld ?_
                simp only [List.setIfInBounds_toArray, List.set_cons_zero, List.set_cons_succ]
                refine take_at (i := 14) 141 rfl rfl (by kernel_rfl) (by kernel_rfl) (by kernel_rfl) (fun _ _ _ h => h) (.inr ⟨by rfl, rfl⟩) hHeld ?_
                simp only [List.setIfInBounds_toArray, List.set_cons_zero, List.set_cons_succ]
                refine take_at (i := 15) 142 rfl rfl (by kernel_rfl) (by kernel_rfl) (by kernel_rfl) (fun _ _ _ h => h) (sure_yes (by rfl) (fun w => by go_simp; try with_reducible rfl)) hHeld ?_
                simp only [List.setIfInBounds_toArray, List.set_cons_zero, List.set_cons_succ]
                refine take_at (i := 16) 143 rfl rfl (by kernel_rfl) (by kernel_rfl) (by kernel_rfl) (fun _ _ _ h => h) (sure_yes (by rfl) (fun w => by go_simp; try with_reducible rfl)) hHeld ?_
                simp only [List.setIfInBounds_toArray, List.set_cons_zero, List.set_cons_succ]
                refine take_at (i := 17) 144 rfl rfl (by kernel_rfl) (by kernel_rfl) (by kernel_rfl) (fun _ _ _ h => h) (sure_yes (by rfl) (fun w => by go_simp; try with_reducible rfl)) hHeld ?_
                simp only [List.setIfInBounds_toArray, List.set_cons_zero, List.set_cons_succ]
                refine take_at (i := 18) 145 rfl rfl (by kernel_rfl) (by kernel_rfl) (by kernel_rfl) (fun _ _ _ h => h) (sure_yes (by rfl) (fun w => by go_simp; try with_reducible rfl)) hHeld ?_
                simp only [List.setIfInBounds_toArray, List.set_cons_zero, List.set_cons_succ]
                refine take_at (i := 19) 146 rfl rfl (by kernel_rfl) (by kernel_rfl) (by kernel_rfl) (fun _ _ _ h => h) (sure_yes (by rfl) (fun w => by go_simp; try with_reducible rfl)) hHeld ?_
                simp only [List.setIfInBounds_toArray, List.set_cons_zero, List.set_cons_succ]
                refine take_at (i := 20) 147 rfl rfl (by kernel_rfl) (by kernel_rfl) (by kernel_rfl) (fun _ _ _ h => h) (sure_yes (by rfl) (fun w => by go_simp; try with_reducible rfl)) hHeld ?_
                simp only [List.setIfInBounds_toArray, List.set_cons_zero, List.set_cons_succ]
                refine take_at (i := 22) 149 rfl rfl (by kernel_rfl) (by kernel_rfl) (by kernel_rfl) (fun _ _ _ h => h) (sure_yes (by rfl) (fun w => by go_simp; try with_reducible rfl)) hHeld ?_
                simp only [List.setIfInBounds_toArray, List.set_cons_zero, List.set_cons_succ]
                refine take_at (i := 23) 150 rfl rfl (by kernel_rfl) (by kernel_rfl) (by kernel_rfl) (fun _ _ _ h => h) (sure_yes (by rfl) (fun w => by go_simp; try with_reducible rfl)) hHeld ?_
                simp only [List.setIfInBounds_toArray, List.set_cons_zero, List.set_cons_succ]
                refine take_at (i := 24) 151 rfl rfl (by kernel_rfl) (by kernel_rfl) (by kernel_rfl) (fun _ _ _ h => h) (sure_yes (by rfl) (fun w => by go_simp; try with_reducible rfl)) hHeld ?_
                simp only [List.setIfInBounds_toArray, List.set_cons_zero, List.set_cons_succ]
                refine take_at (i := 25) 152 rfl rfl (by kernel_rfl) (by kernel_rfl) (by kernel_rfl) (fun _ _ _ h => h) (sure_yes (by rfl) (fun w => by go_simp; try with_reducible rfl)) hHeld ?_
                simp only [List.setIfInBounds_toArray, List.set_cons_zero, List.set_cons_succ]
                refine take_at (i := 21) 148 rfl rfl (by kernel_rfl) (by kernel_rfl) (by kernel_rfl) (fun _ _ _ h => h) (str_yields12 (by rfl) 9 (.tmp 147) rfl (sd.add (i * 36)) rfl (str x.path) Tryz.underlying9 (fun w h => cell_under12 HPX.out h)) hHeld ?_
                simp only [List.setIfInBounds_toArray, List.set_cons_zero, List.set_cons_succ]
                refine take_at (i := 26) 153 rfl rfl (by kernel_rfl) (by kernel_rfl) (by kernel_rfl) (fun _ _ _ h => h) (str_yields12 (by rfl) 9 (.tmp 152) rfl (sd.add (i * 36)) rfl (str y.path) Tryz.underlying9 (fun w h => cell_under12 HPY.out h)) hHeld ?_
                simp only [List.setIfInBounds_toArray, List.set_cons_zero, List.set_cons_succ]
                refine ready_one 27 (by kernel_rfl) ?_
                refine opH_k2 154 rfl rfl (by rfl) 25 (.tmp 148) (.tmp 153) 9 9 rfl (.string (str x.path)) (.string (str y.path)) rfl rfl ENU.out _ (UNC.out _) ?_
                rintro z wz ⟨rfl, rfl⟩
                refine ⟨_, rfl, hHeld, ?_⟩
                simp only [List.setIfInBounds_toArray, List.set_cons_zero, List.set_cons_succ]
                refine take_at (i := 28) 155 rfl rfl (by kernel_rfl) (by kernel_rfl) (by kernel_rfl) (fun _ _ _ h => h) (sure_yes (by rfl) (fun w => by go_simp; try with_reducible rfl)) hHeld ?_
                simp only [List.setIfInBounds_toArray, List.set_cons_zero, List.set_cons_succ]
                refine wpAnyH_done (by kernel_rfl) ?_ _
                have BB := Lib.hid (below_next HB7.out hHeld)
                clear hHeld
                go_wp2
                go_roundw
                case rel => exact ⟨i + 1, by go_num, by omega, BB.out⟩
                case measure => simp [intOf] <;> omega
              · have HNE := Lib.hid (show x.path ≠ y.path by
                  obtain ⟨h1, rfl⟩ := List.getElem?_eq_some_iff.1 HXI.out
                  obtain ⟨h2, rfl⟩ := List.getElem?_eq_some_iff.1 HYK.out
                  rcases Nat.lt_or_ge i k with h | h
                  · exact List.pairwise_iff_getElem.1 AP.out i k h1 h2 h
                  · exact fun e => List.pairwise_iff_getElem.1 AP.out k i h2 h1 (by omega) e.symm)
                have HQE := Lib.hid (str_eql (a := x.path) (b := y.path) (r := false) (beq_eq_false_iff_ne.2 HNE.out).symm)
                have q6 : ((i : Int) != (k : Int)) = true := by rw [bne, beq_eq_false_iff_ne.2 (by omega)]; rfl
                clear hik
                go_upto_region 27 with fail
                refine wp_region_held_drew (S := fun w' => Below w8.heap.size w8 w') (by kernel_rfl) (drawS (Below.refl _ _)) (fun hHeld => ?_)
                generalize w8.drew = wd at hHeld ⊢
                refine take_at (i := 0) 127 rfl rfl (by kernel_rfl) (by kernel_rfl) (by kernel_rfl) (fun _ _ _ h => h) (sure_yes (by rfl) (fun w => by go_simp; try with_reducible rfl)) hHeld ?_
                simp only [List.setIfInBounds_toArray, List.set_cons_zero, List.set_cons_succ]
                refine take_at (i := 1) 128 rfl rfl (by kernel_rfl) (by kernel_rfl) (by kernel_rfl) (fun _ _ _ h => h) (sure_yes (by rfl) (fun w => by go_simp; try with_reducible rfl)) hHeld ?_
                simp only [List.setIfInBounds_toArray, List.set_cons_zero, List.set_cons_succ]
                refine take_at (i := 2) 129 rfl rfl (by kernel_rfl) (by kernel_rfl) (by kernel_rfl) (fun _ _ _ h => h) (sure_yes (by rfl) (fun w => by go_simp; try with_reducible rfl)) hHeld ?_
                simp only [List.setIfInBounds_toArray, List.set_cons_zero, List.set_cons_succ]
                refine take_at (i := 3) 130 rfl rfl (by kernel_rfl) (by kernel_rfl) (by kernel_rfl) (fun _ _ _ h => h) (sure_yes (by rfl) (fun w => by go_simp; try with_reducible rfl)) hHeld ?_
                simp only [List.setIfInBounds_toArray, List.set_cons_zero, List.set_cons_succ]
                refine take_at (i := 4) 131 rfl rfl (by kernel_rfl) (by kernel_rfl) (by kernel_rfl) (fun _ _ _ h => h) (sure_yes (by rfl) (fun w => by go_simp; try with_reducible rfl)) hHeld ?_
                simp only [List.setIfInBounds_toArray, List.set_cons_zero, List.set_cons_succ]
                refine take_at (i := 5) 132 rfl rfl (by kernel_rfl) (by kernel_rfl) (by kernel_rfl) (fun _ _ _ h => h) (sure_yes (by rfl) (fun w => by go_simp; try with_reducible rfl)) hHeld ?_
                simp only [List.setIfInBounds_toArray, List.set_cons_zero, List.set_cons_succ]
                refine take_at (i := 6) 133 rfl rfl (by kernel_rfl) (by kernel_rfl) (by kernel_rfl) (fun _ _ _ h => h) (sure_yes (by rfl) (fun w => by go_simp; try with_reducible rfl)) hHeld ?_
                simp only [List.setIfInBounds_toArray, List.set_cons_zero, List.set_cons_succ]
                refine take_at (i := 7) 134 rfl rfl (by kernel_rfl) (by kernel_rfl) (by kernel_rfl) (fun _ _ _ h => h) (sure_yes (by rfl) (fun w => by go_simp; try with_reducible rfl)) hHeld ?_
                simp only [List.setIfInBounds_toArray, List.set_cons_zero, List.set_cons_succ]
                refine take_at (i := 9) 136 rfl rfl (by kernel_rfl) (by kernel_rfl) (by kernel_rfl) (fun _ _ _ h => h) (sure_yes (by rfl) (fun w => by go_simp; try with_reducible rfl)) hHeld ?_
                simp only [List.setIfInBounds_toArray, List.set_cons_zero, List.set_cons_succ]
                refine take_at (i := 10) 137 rfl rfl (by kernel_rfl) (by kernel_rfl) (by kernel_rfl) (fun _ _ _ h => h) (sure_yes (by rfl) (fun w => by go_simp; try with_reducible rfl)) hHeld ?_
                simp only [List.setIfInBounds_toArray, List.set_cons_zero, List.set_cons_succ]
                refine take_at (i := 11) 138 rfl rfl (by kernel_rfl) (by kernel_rfl) (by kernel_rfl) (fun _ _ _ h => h) (sure_yes (by rfl) (fun w => by go_simp; try with_reducible rfl)) hHeld ?_
                simp only [List.setIfInBounds_toArray, List.set_cons_zero, List.set_cons_succ]
                refine take_at (i := 12) 139 rfl rfl (by kernel_rfl) (by kernel_rfl) (by kernel_rfl) (fun _ _ _ h => h) (sure_yes (by rfl) (fun w => by go_simp; try with_reducible rfl)) hHeld ?_
                simp only [List.setIfInBounds_toArray, List.set_cons_zero, List.set_cons_succ]
                refine take_at (i := 8) 135 rfl rfl (by kernel_rfl) (by kernel_rfl) (by kernel_rfl) (fun _ _ _ h => h) (str_yields12 (by rfl) 9 (.tmp 134) rfl (sd.add (i * 36)) rfl (str x.path) Tryz.underlying9 (fun w h => cell_under12 HPX.out h)) hHeld ?_
                simp only [List.setIfInBounds_toArray, List.set_cons_zero, List.set_cons_succ]
                refine take_at (i := 13) 140 rfl rfl (by kernel_rfl) (by kernel_rfl) (by kernel_rfl) (fun _ _ _ h => h) (str_yields12 (by rfl) 9 (.tmp 139) rfl (sd.add (k * 36)) rfl (str y.path) Tryz.underlying9 (fun w h => cell_under12 HPY.out h)) hHeld ?_
                simp only [List.setIfInBounds_toArray, List.set_cons_zero, List.set_cons_succ]
                refine take_at (i := 14) 141 rfl rfl (by kernel_rfl) (by kernel_rfl) (by kernel_rfl) (fun _ _ _ h => h) (sure_yes (by rfl) (op_knownS rfl rfl rfl (str_guard _ _ _ _ _) HQE.out)) hHeld ?_
                simp only [List.setIfInBounds_toArray, List.set_cons_zero, List.set_cons_succ]
                refine take_at (i := 15) 142 rfl rfl (by kernel_rfl) (by kernel_rfl) (by kernel_rfl) (fun _ _ _ h => h) (sure_yes (by rfl) (fun w => by go_simp; try with_reducible rfl)) hHeld ?_
                simp only [List.setIfInBounds_toArray, List.set_cons_zero, List.set_cons_succ]
                refine take_at (i := 16) 143 rfl rfl (by kernel_rfl) (by kernel_rfl) (by kernel_rfl) (fun _ _ _ h => h) (sure_yes (by rfl) (fun w => by go_simp; try with_reducible rfl)) hHeld ?_
                simp only [List.setIfInBounds_toArray, List.set_cons_zero, List.set_cons_succ]
                refine take_at (i := 17) 144 rfl rfl (by kernel_rfl) (by kernel_rfl) (by kernel_rfl) (fun _ _ _ h => h) (sure_yes (by rfl) (fun w => by go_simp; try with_reducible rfl)) hHeld ?_
                simp only [List.setIfInBounds_toArray, List.set_cons_zero, List.set_cons_succ]
                refine take_at (i := 18) 145 rfl rfl (by kernel_rfl) (by kernel_rfl) (by kernel_rfl) (fun _ _ _ h => h) (sure_yes (by rfl) (fun w => by go_simp; try with_reducible rfl)) hHeld ?_
                simp only [List.setIfInBounds_toArray, List.set_cons_zero, List.set_cons_succ]
                refine take_at (i := 19) 146 rfl rfl (by kernel_rfl) (by kernel_rfl) (by kernel_rfl) (fun _ _ _ h => h) (sure_yes (by rfl) (fun w => by go_simp; try with_reducible rfl)) hHeld ?_
                simp only [List.setIfInBounds_toArray, List.set_cons_zero, List.set_cons_succ]
                refine take_at (i := 20) 147 rfl rfl (by kernel_rfl) (by kernel_rfl) (by kernel_rfl) (fun _ _ _ h => h) (sure_yes (by rfl) (fun w => by go_simp; try with_reducible rfl)) hHeld ?_
                simp only [List.setIfInBounds_toArray, List.set_cons_zero, List.set_cons_succ]
                refine take_at (i := 22) 149 rfl rfl (by kernel_rfl) (by kernel_rfl) (by kernel_rfl) (fun _ _ _ h => h) (sure_yes (by rfl) (fun w => by go_simp; try with_reducible rfl)) hHeld ?_
                simp only [List.setIfInBounds_toArray, List.set_cons_zero, List.set_cons_succ]
                refine take_at (i := 23) 150 rfl rfl (by kernel_rfl) (by kernel_rfl) (by kernel_rfl) (fun _ _ _ h => h) (sure_yes (by rfl) (fun w => by go_simp; try with_reducible rfl)) hHeld ?_
                simp only [List.setIfInBounds_toArray, List.set_cons_zero, List.set_cons_succ]
                refine take_at (i := 24) 151 rfl rfl (by kernel_rfl) (by kernel_rfl) (by kernel_rfl) (fun _ _ _ h => h) (sure_yes (by rfl) (fun w => by go_simp; try with_reducible rfl)) hHeld ?_
                simp only [List.setIfInBounds_toArray, List.set_cons_zero, List.set_cons_succ]
                refine take_at (i := 25) 152 rfl rfl (by kernel_rfl) (by kernel_rfl) (by kernel_rfl) (fun _ _ _ h => h) (sure_yes (by rfl) (fun w => by go_simp; try with_reducible rfl)) hHeld ?_
                simp only [List.setIfInBounds_toArray, List.set_cons_zero, List.set_cons_succ]
                refine take_at (i := 21) 148 rfl rfl (by kernel_rfl) (by kernel_rfl) (by kernel_rfl) (fun _ _ _ h => h) (str_yields12 (by rfl) 9 (.tmp 147) rfl (sd.add (i * 36)) rfl (str x.path) Tryz.underlying9 (fun w h => cell_under12 HPX.out h)) hHeld ?_
                simp only [List.setIfInBounds_toArray, List.set_cons_zero, List.set_cons_succ]
                refine take_at (i := 26) 153 rfl rfl (by kernel_rfl) (by kernel_rfl) (by kernel_rfl) (fun _ _ _ h => h) (str_yields12 (by rfl) 9 (.tmp 152) rfl (sd.add (k * 36)) rfl (str y.path) Tryz.underlying9 (fun w h => cell_under12 HPY.out h)) hHeld ?_
                simp only [List.setIfInBounds_toArray, List.set_cons_zero, List.set_cons_succ]
                refine ready_one 27 (by kernel_rfl) ?_
                refine opH_k2 154 rfl rfl (by rfl) 25 (.tmp 148) (.tmp 153) 9 9 rfl (.string (str x.path)) (.string (str y.path)) rfl rfl ENU.out _ (UNC.out _) ?_
                rintro z wz ⟨rfl, rfl⟩
                refine ⟨_, rfl, hHeld, ?_⟩
                simp only [List.setIfInBounds_toArray, List.set_cons_zero, List.set_cons_succ]
                refine take_at (i := 28) 155 rfl rfl (by kernel_rfl) (by kernel_rfl) (by kernel_rfl) (fun _ _ _ h => h) (sure_yes (by rfl) (fun w => by go_simp; try with_reducible rfl)) hHeld ?_
                simp only [List.setIfInBounds_toArray, List.set_cons_zero, List.set_cons_succ]
                refine wpAnyH_done (by kernel_rfl) ?_ _
                have BB := Lib.hid (below_next HB7.out hHeld)
                clear hHeld
                go_wp2
                go_roundw
                case rel => exact ⟨k + 1, by go_num, by omega, BB.out⟩
                case measure => simp [intOf] <;> omega
            · have q4 : ¬ (k : Int) < (p0 : Int) := by omega
              have BQ := Lib.hid (below_next HBI.out HB7.out)
              go_wp2
              go_roundw
              case rel => exact ⟨i + 1, by go_num, hi1, BQ.out⟩
              case measure => simp [intOf] <;> omega
        · have q3 : ¬ (i : Int) < (p0 : Int) := by omega
          have BE := Lib.hid (below_next B5.out (below_next HB.out HBI.out))
          go_wp2
          go_ret
          exact ⟨rfl, BE.out⟩
end Go.Proofs.YtlcojmligbikoaaGreatDoor
