/-
Texts that all claims of this seat share, part 7: OpReady, HeadsSorted, JoinMem, HeadsJoin, Deeds.
-/
import Derived.Maps.AppendAt
import Derived.Test.YtcdjkjadbhejpaaGreatDoorIter
import Derived.WideMake
import Derived.Test.YtcdjkjadbhejpaaGreatDoorPk6
namespace Go.Proofs.YtcdjkjadbhejpaaGreatDoor
open Go.RowKit
/-- An exit as Q has it, but for the ordinary one. -/
def exitOr (Q : Exit → Act → World → Prop) (K : Act → World → Prop) : Exit → Act → World → Prop
  | .normal => K
  | e => Q e
def OpH (P : Program) (md : Region.Mode) (ops : Array Oper) (Q : Exit → Act → World → Prop) (S : World → Prop) (fuel : Nat) (listed : Array Bool) (a : Act) (w : World) (i : Nat) : Prop :=
  wpOp P ops Q i (fun a' w' => S w' ∧ wpAnyH P md ops Q S fuel (listed.setIfInBounds i true) a' w') a w
section
variable {P : Program} {md : Region.Mode} {ops : Array Oper} {Q : Exit → Act → World → Prop} {S : World → Prop} {fuel : Nat} {listed : Array Bool} {a : Act} {w : World}
theorem ready_one (i : Nat) (hr : Region.ready md ops listed = [i]) (h : OpH P md ops Q S fuel listed a w i) : wpAnyH P md ops Q S (fuel + 1) listed a w :=
  wpAnyH_all hr (by simp) fun j hj => by rw [List.mem_singleton.1 hj]; exact h
theorem ready_two (i j : Nat) (hr : Region.ready md ops listed = [i, j]) (h1 : OpH P md ops Q S fuel listed a w i) (h2 : OpH P md ops Q S fuel listed a w j) : wpAnyH P md ops Q S (fuel + 1) listed a w :=
  wpAnyH_all hr (by simp) fun k hk => by
    rcases List.mem_cons.1 hk with rfl | hk
    · exact h1
    · rw [List.mem_singleton.1 hk]; exact h2
theorem letsOut_or {K : Act → World → Prop} (h : LetsOut (exitOr Q K)) : LetsOut Q := h
theorem opH_list {i : Nat} {o : Oper} (hoi : ops[i]? = some o) (h : wpList P ops (exitOr Q (fun a' w' => S w' ∧ wpAnyH P md ops Q S fuel (listed.setIfInBounds i true) a' w')) [o] a w) : OpH P md ops Q S fuel listed a w i := by
  unfold OpH wpOp
  rw [hoi]
  dsimp only
  unfold wpList at h
  split
  · rename_i hw
    rw [if_pos hw] at h
    refine h.imp (fun h => ?_) (fun ⟨h1, h2⟩ => ⟨h1, letsOut_or h2⟩)
    unfold Oper.wp at *
    generalize (execOp a.eval o).run P w = r at *
    cases r with
    | ok n w' =>
      cases n <;> simp only [Oper.upon] at h ⊢
      case value u => exact h
      case skip => exact h
      case defer d => exact h
      case enter f args => exact Calls.mono h fun e w'' he => by cases e <;> exact he
      case row row args => exact Rows.mono h fun u w'' he => he
      all_goals exact h
    | halt x w' => cases x <;> simp only [Oper.upon] at h ⊢ <;> exact h
  · rename_i hw
    rw [if_neg hw] at h
    exact h
theorem opH_end {i : Nat} (h1 : S w) (h2 : wpAnyH P md ops Q S fuel (listed.setIfInBounds i true) a w) : wpList P ops (exitOr Q (fun a' w' => S w' ∧ wpAnyH P md ops Q S fuel (listed.setIfInBounds i true) a' w')) [] a w := ⟨h1, h2⟩
theorem opH_call1 {i : Nat} {o : Oper} (hoi : ops[i]? = some o) (hw : Region.wanted o (yielded ops a.tmps) = true) (f : FuncId) (c x : Operand) (t : TypeId) (ho : o.op = .call { callee := .value c, args := #[x], argTypes := #[t] }) (hc : a.eval c = .func (.func f) #[] #[])
    (v : Value) (hx : a.eval x = v) (eg : ∀ vs w, (callFunc f vs).run P w = .ok (.enter f vs) w) (Post : Ending → World → Prop) (hcall : Calls P f #[v] w Post)
    (h : ∀ e w', Post e w' → ∃ r, e = .returned r ∧ S w' ∧ wpAnyH P md ops Q S fuel (listed.setIfInBounds i true) (a.put o.dst r) w') : OpH P md ops Q S fuel listed a w i := by
  refine wpOp_step hoi fun K hK => ?_
  rw [if_pos hw]
  have hr : (execOp a.eval o).run P w = .ok (.enter f #[v]) w := by simp [execOp, ho, resolve, invoke, Deferred.ofValue, hx, hc, eg]
  unfold Oper.wp
  rw [hr]
  exact hcall.mono fun e w' hp => by
    obtain ⟨r, rfl, h1, h2⟩ := h e w' hp
    exact hK _ _ ⟨h1, h2⟩
theorem opH_call2 {i : Nat} {o : Oper} (hoi : ops[i]? = some o) (hw : Region.wanted o (yielded ops a.tmps) = true) (f : FuncId) (c x y : Operand) (t u : TypeId) (ho : o.op = .call { callee := .value c, args := #[x, y], argTypes := #[t, u] }) (lb : Array Value) (hc : a.eval c = .func (.func f) #[] lb)
    (v z : Value) (hx : a.eval x = v) (hy : a.eval y = z) (eg : ∀ vs w, (callFunc f vs).run P w = .ok (.enter f vs) w) (Post : Ending → World → Prop) (hcall : Calls P f (#[v, z] ++ lb) w Post)
    (h : ∀ e w', Post e w' → ∃ r, e = .returned r ∧ S w' ∧ wpAnyH P md ops Q S fuel (listed.setIfInBounds i true) (a.put o.dst r) w') : OpH P md ops Q S fuel listed a w i := by
  refine wpOp_step hoi fun K hK => ?_
  rw [if_pos hw]
  have hr : (execOp a.eval o).run P w = .ok (.enter f (#[v, z] ++ lb)) w := by simp [execOp, ho, resolve, invoke, Deferred.ofValue, hx, hy, hc, eg]
  unfold Oper.wp
  rw [hr]
  exact hcall.mono fun e w' hp => by
    obtain ⟨r, rfl, h1, h2⟩ := h e w' hp
    exact hK _ _ ⟨h1, h2⟩
end
/-- Events appended to a slice of events of the call's own: and where it lies. -/
theorem append_evs_at {P : Program} {w : World} {ops : Array Oper} {rest : List Oper} {o : Oper} {a : Act} {Q : Exit → Act → World → Prop} (hgd : o.guard = none) (s x : Operand) (t : TypeId)
    (ho : o.op = .call { callee := .builtin .append, args := #[s, x], argTypes := #[t, t] })
    (base : Nat) (e : TypeId) (i : TypeInfo) (ht : P.underlying t = some (.slice e)) (hi : P.info? e = some i) (hz : (i.zero.map (·.cells.size), i.size, i.bytes) = (some 38, 38, 104))
    (v : Value) (us ys : List (Ev × Value)) (hs : a.eval s = v) (hown : w.ownsRow base e 38 v us.length (evsC us)) (hone : ∀ y ∈ ys, y.2.oneCell' = true) (ad : Addr) (m c : Nat) (hx : a.eval x = .slice (some ad) m c) (hm : m = ys.length)
    (hc : ∀ j u, (evsC ys)[j]? = some u → w.cell? (ad.add j) = some u) (hlen : us.length + ys.length ≤ 100000) (hbase : base ≤ w.heap.size)
    (h : ∀ v' w', w'.ownsRow base e 38 v' (us ++ ys).length (evsC (us ++ ys)) → w.grownBy w' v.ownBlock → (v'.ownBlock = v.ownBlock ∨ v'.ownBlock = some w.heap.size) → wpList P ops Q rest (a.put o.dst v') w') : wpList P ops Q (o :: rest) a w := by
  simp only [Prod.mk.injEq] at hz
  obtain ⟨hz1, hz2, hz3⟩ := hz
  subst hm
  cases hzz : i.zero with
  | none => rw [hzz] at hz1; cases hz1
  | some z =>
    rw [hzz] at hz1
    simp only [Option.map_some, Option.some.injEq] at hz1
    refine wpList_append_own_at w hgd s x t ho base e i z 38 104 ht hi hzz hz2 hz3 hz1 (by decide) v us.length (evsC us) hs hown ad ys.length c (evsC ys) hx (by rw [evsC_length]) hc (evsC_one ys hone)
      (by unfold maxLen; omega) (by omega) hbase fun v' w' h1 h2 _ h4 => h v' w' (by rw [evsC_append, List.length_append]; exact h1) h2 h4
end Go.Proofs.YtcdjkjadbhejpaaGreatDoor
namespace Go.Proofs.YtcdjkjadbhejpaaGreatDoor
open Go.RowKit
set_option maxRecDepth 100000 in
set_option maxHeartbeats 16000000 in
theorem pathOf_any (e : Ev) (u : Value) (w : World) : Calls Tryz.prog 45 #[.agg (evC e u)] w fun x w' => x = .returned (.string (str e.path)) ∧ Below w.heap.size w w' := by
  have h1 := box_ev w 30 e u
  have B0 := Lib.hid ((Below.refl w.heap.size w).alloc (Nat.le_refl _) (.cells (evC e u) 30 (0, 0)))
  have c1 := (evAt_cells h1).2.2.2.2.1
  clear h1
  go_enter Tryz.func45, Tryz.ntmps45
  go_upto_region 1 with fail
  generalize w.alloc (.cells (evC e u) 30 (0, 0)) = W0 at *
  go_wp2
  go_ret
  exact ⟨rfl, B0.out⟩
set_option maxRecDepth 100000 in
set_option maxHeartbeats 16000000 in
theorem noPath_any (e : Ev) (u : Value) (w : World) : Calls Tryz.prog 49 #[.agg (evC e u)] w fun x w' => x = .returned (.string (str [])) ∧ Below w.heap.size w w' := by
  have B0 := Lib.hid ((Below.refl w.heap.size w).alloc (Nat.le_refl _) (.cells (evC e u) 30 (0, 0)))
  go_enter Tryz.func49, Tryz.ntmps49
  go_upto_region 1 with fail
  generalize w.alloc (.cells (evC e u) 30 (0, 0)) = W0 at *
  go_wp2
  go_ret
  exact ⟨rfl, B0.out⟩
set_option maxRecDepth 100000 in
set_option maxHeartbeats 16000000 in
theorem cmpPath_any (e f : Ev) (u v : Value) (w : World) : Calls Tryz.prog 47 #[.agg (evC e u), .agg (evC f v)] w fun x w' => x = .returned (.int .i64 (cmpB e.path f.path)) ∧ Below w.heap.size w w' := by
  obtain ⟨h1, h2, h3⟩ := two_ev (f := f) (v := v) (box_ev w 30 e u)
  have B0 := Lib.hid (below_next ((Below.refl w.heap.size w).alloc (Nat.le_refl _) (.cells (evC e u) 30 (0, 0))) h3)
  have c1 := (evAt_cells h1).2.2.2.2.1
  have c2 := (evAt_cells h2).2.2.2.2.1
  have CS := Lib.hid (fun w => cmpStr_any e.path f.path w)
  obtain ⟨c, hc⟩ : ∃ c, cmpB e.path f.path = c := ⟨_, rfl⟩
  rw [hc] at CS ⊢
  clear h1 h2 h3 hc
  go_enter Tryz.func47, Tryz.ntmps47
  go_upto_region 1 with fail
  generalize (w.alloc (.cells (evC e u) 30 (0, 0))).alloc (.cells (evC f v) 30 (0, 0)) = W0 at *
  simp only [size_of_alloc] at c1
  go_wp2_with (first
    | (go_at_call 48; refine (CS.out _).mono ?_; rintro x w1 ⟨rfl, rfl⟩))
  go_ret
  exact ⟨rfl, B0.out⟩
def LeFrom (l : List Ev) (k : Int) : Prop := ∀ (j : Nat) (e f : Ev), k ≤ (j : Int) + 1 → l[j]? = some e → l[j + 1]? = some f → leP e.path f.path
theorem rises_leFrom {l : List Ev} (h : LeFrom l 1) : PathRises l := by
  have up : ∀ d j (hj : j + d + 1 < l.length), leP (l[j]'(by omega)).path l[j + d + 1].path := by
    intro d
    induction d with
    | zero => intro j hj; exact h j _ _ (by omega) (List.getElem?_eq_getElem (by omega)) (List.getElem?_eq_getElem (by omega))
    | succ d ih =>
      intro j hj
      exact leP_trans (ih j (by omega)) (h (j + d + 1) _ _ (by omega) (List.getElem?_eq_getElem (by omega)) (List.getElem?_eq_getElem (by omega)))
  refine List.pairwise_iff_getElem.2 fun i j hi hj hij => ?_
  have hu := up (j - i - 1) i (by omega)
  have e1 : i + (j - i - 1) + 1 = j := by omega
  simp only [e1] at hu
  exact hu
set_option linter.unusedSimpArgs false in
set_option maxRecDepth 100000 in
set_option maxHeartbeats 16000000 in
theorem sortedE_any (us : List (Ev × Value)) (hl : us.length ≤ 50000) (v : Value) (w : World) (hv : HoldsU w v us) : Calls Tryz.prog 46 #[v, .func (.func 47) #[] #[]] w fun x w' => ∃ b, x = .returned (.bool b) ∧ (b = true → PathRises (us.map (·.1))) ∧ Below w.heap.size w w' := by
  obtain ⟨n, hn⟩ : ∃ n, n = us.length := ⟨_, rfl⟩
  have hn5 : n ≤ 50000 := by omega
  have HN := Lib.hid hn
  have HNL := Lib.hid (show n = (us.map (·.1)).length by rw [List.length_map]; exact hn)
  obtain ⟨ao, cap, hvs⟩ := holdsU_shape hv n hn
  subst hvs
  have HV := Lib.hid hv
  have EGC := Lib.hid (show ∀ vs w, (callFunc 47 vs).run Tryz.prog w = .ok (.enter 47 vs) w from (enters_of Tryz.func47 (by kernel_rfl) rfl))
  have qn1 : IntKind.i64.wrap ((n : Int) - 1) = (n : Int) - 1 := by rw [IntKind.wrap_i64]; omega
  clear hl hv hn
  go_enter Tryz.func46, Tryz.ntmps46
  go_wp2
  go_loopw [5] (fun c wr => ∃ z : Int, c = .int .i64 z ∧ -1 ≤ z ∧ z < (n : Int) ∧ LeFrom (us.map (·.1)) (z + 1) ∧ Below w.heap.size w wr) (fun c _ => (intOf c + 1).toNat)
  case atStart =>
    refine ⟨(n : Int) - 1, rfl, by omega, by omega, fun j e f hj he hf => ?_, Below.refl _ _⟩
    have h1 := (List.getElem?_eq_some_iff.1 hf).1
    have := HNL.out; omega
  case round =>
    obtain ⟨z, rfl, hz1, hz2, hle, hb⟩ := hrel
    have HLE := Lib.hid hle
    have HB := Lib.hid hb
    clear hle hb
    by_cases hz : 0 < z
    · obtain ⟨i, rfl⟩ : ∃ i : Nat, z = (i : Int) := ⟨z.toNat, by omega⟩
      have q5 : (i : Int) > 0 := hz
      have q10 : 0 < i := by omega
      obtain ⟨p, hp⟩ : ∃ p, p = i - 1 := ⟨_, rfl⟩
      have HP := Lib.hid hp
      have q7 : (i : Int) - 1 = (p : Int) := by omega
      have qw : IntKind.i64.wrap (p : Int) = (p : Int) := by rw [IntKind.wrap_i64]; omega
      have qp : (p : Int) < (n : Int) := by omega
      have hpn : p < n := by omega
      have hin : i < n := by omega
      clear hp
      obtain ⟨x, hx⟩ : ∃ x, us[i]? = some x := ⟨_, List.getElem?_eq_getElem (by have := HN.out; omega)⟩
      obtain ⟨ad, cap', e1, hcx⟩ := holdsU_at (holdsU_below HV.out HB.out) n i HN.out.symm x hx
      cases e1
      obtain ⟨y, hy⟩ : ∃ x, us[p]? = some x := ⟨_, List.getElem?_eq_getElem (by have := HN.out; omega)⟩
      obtain ⟨ad2, cap2, e1, hcy⟩ := holdsU_at (holdsU_below HV.out HB.out) n p HN.out.symm y hy
      cases e1
      have hex := fst_atM hx
      have hey := fst_atM hy
      obtain ⟨f, fv⟩ := x
      obtain ⟨e, ev⟩ := y
      dsimp only at hcx hcy hex hey
      have CF := Lib.hid hcx
      have CE := Lib.hid hcy
      have HFI := Lib.hid hex
      have HEP := Lib.hid hey
      obtain ⟨c, hc⟩ : ∃ c, cmpB f.path e.path = c := ⟨_, rfl⟩
      have HC := Lib.hid hc
      clear hx hy hcx hcy hex hey hc hz1 hz2 hz
      by_cases hc0 : c < 0
      · have q8 : decide (c < 0) = true := decide_eq_true hc0
        go_upto_region 4 with fail
        refine wp_region_held_drew (S := fun w' => Below wr.heap.size wr w') (by kernel_rfl) (drawS (Below.refl _ _)) (fun hHeld => ?_)
        generalize wr.drew = wd at hHeld ⊢
        refine take_at (i := 0) 13 rfl rfl (by kernel_rfl) (by kernel_rfl) (by kernel_rfl) (fun _ _ _ h => h) (sure_yes (by rfl) (fun w => by go_simp; try with_reducible rfl)) hHeld ?_
        simp only [List.setIfInBounds_toArray, List.set_cons_zero, List.set_cons_succ]
        refine take_at (i := 1) 14 rfl rfl (by kernel_rfl) (by kernel_rfl) (by kernel_rfl) (fun _ _ _ h => h) (sure_yes (by rfl) (fun w => by go_simp; try with_reducible rfl)) hHeld ?_
        simp only [List.setIfInBounds_toArray, List.set_cons_zero, List.set_cons_succ]
        refine take_at (i := 2) 15 rfl rfl (by kernel_rfl) (by kernel_rfl) (by kernel_rfl) (fun _ _ _ h => h) (sure_yes (by rfl) (fun w => by go_simp; try with_reducible rfl)) hHeld ?_
        simp only [List.setIfInBounds_toArray, List.set_cons_zero, List.set_cons_succ]
        refine take_at (i := 3) 16 rfl rfl (by kernel_rfl) (by kernel_rfl) (by kernel_rfl) (fun _ _ _ h => h) (sure_yes (by rfl) (fun w => by go_simp; try with_reducible rfl)) hHeld ?_
        simp only [List.setIfInBounds_toArray, List.set_cons_zero, List.set_cons_succ]
        refine take_at (i := 5) 18 rfl rfl (by kernel_rfl) (by kernel_rfl) (by kernel_rfl) (fun _ _ _ h => h) (sure_yes (by rfl) (fun w => by go_simp; try with_reducible rfl)) hHeld ?_
        simp only [List.setIfInBounds_toArray, List.set_cons_zero, List.set_cons_succ]
        refine take_at (i := 6) 19 rfl rfl (by kernel_rfl) (by kernel_rfl) (by kernel_rfl) (fun _ _ _ h => h) (sure_yes (by rfl) (fun w => by go_simp; try with_reducible rfl)) hHeld ?_
        simp only [List.setIfInBounds_toArray, List.set_cons_zero, List.set_cons_succ]
        refine take_at (i := 7) 20 rfl rfl (by kernel_rfl) (by kernel_rfl) (by kernel_rfl) (fun _ _ _ h => h) (sure_yes (by rfl) (fun w => by go_simp; try with_reducible rfl)) hHeld ?_
        simp only [List.setIfInBounds_toArray, List.set_cons_zero, List.set_cons_succ]
        refine take_at (i := 8) 21 rfl rfl (by kernel_rfl) (by kernel_rfl) (by kernel_rfl) (fun _ _ _ h => h) (sure_yes (by rfl) (fun w => by go_simp; try with_reducible rfl)) hHeld ?_
        simp only [List.setIfInBounds_toArray, List.set_cons_zero, List.set_cons_succ]
        refine take_at (i := 4) 17 rfl rfl (by kernel_rfl) (by kernel_rfl) (by kernel_rfl) (fun _ _ _ h => h) (evA_yields (by rfl) 30 (.tmp 16) rfl (ad.add (i * 38)) rfl Tryz.underlying30 evSize (fun w h j u hu => cell_under12 (CF.out j u hu) h)) hHeld ?_
        simp only [List.setIfInBounds_toArray, List.set_cons_zero, List.set_cons_succ]
        refine take_at (i := 9) 22 rfl rfl (by kernel_rfl) (by kernel_rfl) (by kernel_rfl) (fun _ _ _ h => h) (evA_yields (by rfl) 30 (.tmp 21) rfl (ad.add (p * 38)) rfl Tryz.underlying30 evSize (fun w h j u hu => cell_under12 (CE.out j u hu) h)) hHeld ?_
        simp only [List.setIfInBounds_toArray, List.set_cons_zero, List.set_cons_succ]
        refine ready_one 10 (by kernel_rfl) ?_
        refine opH_call2 rfl (by rfl) 47 (.tmp 13) (.tmp 17) (.tmp 22) 30 30 rfl #[] rfl (.agg (evC f fv)) (.agg (evC e ev)) rfl rfl EGC.out _ (cmpPath_any f e fv ev _) ?_
        rintro x wz ⟨rfl, hb⟩
        refine ⟨_, rfl, below_next hHeld hb, ?_⟩
        replace hHeld := below_next hHeld hb
        rw [HC.out]
        clear hb
        simp only [Act.put, List.setIfInBounds_toArray, List.set_cons_zero, List.set_cons_succ]
        refine take_at (i := 11) 24 rfl rfl (by kernel_rfl) (by kernel_rfl) (by kernel_rfl) (fun _ _ _ h => h) (sure_yes (by rfl) (fun w => by go_simp; try with_reducible rfl)) hHeld ?_
        simp only [List.setIfInBounds_toArray, List.set_cons_zero, List.set_cons_succ]
        refine wpAnyH_done (by kernel_rfl) ?_ _
        have Z := Lib.hid hHeld
        clear hHeld
        go_wp2
        go_ret
        exact ⟨_, rfl, (fun h => by cases h), below_next HB.out Z.out⟩
      · have q8 : decide (c < 0) = false := decide_eq_false hc0
        have HST := Lib.hid (show LeFrom (us.map (·.1)) ((p : Int) + 1) from fun j a b hj ha hb => by
          by_cases hji : j = p
          · subst hji
            rw [HEP.out] at ha; cases ha
            have e2 : j + 1 = i := by have := HP.out; omega
            rw [e2, HFI.out] at hb; cases hb
            unfold leP
            rcases cmpB_cases f.path e.path with ⟨h1, h2⟩ | ⟨h1, h2, h3⟩ | ⟨h1, h2, h3⟩
            · rw [h2]; exact bytesLess_irrefl _
            · exact absurd (by rw [← HC.out, h1]; decide) hc0
            · exact bl_asymm h2
          · exact HLE.out j a b (by have := HP.out; omega) ha hb)
        clear hc0
        go_upto_region 4 with fail
        refine wp_region_held_drew (S := fun w' => Below wr.heap.size wr w') (by kernel_rfl) (drawS (Below.refl _ _)) (fun hHeld => ?_)
        generalize wr.drew = wd at hHeld ⊢
        refine take_at (i := 0) 13 rfl rfl (by kernel_rfl) (by kernel_rfl) (by kernel_rfl) (fun _ _ _ h => h) (sure_yes (by rfl) (fun w => by go_simp; try with_reducible rfl)) hHeld ?_
        simp only [List.setIfInBounds_toArray, List.set_cons_zero, List.set_cons_succ]
        refine take_at (i := 1) 14 rfl rfl (by kernel_rfl) (by kernel_rfl) (by kernel_rfl) (fun _ _ _ h => h) (sure_yes (by rfl) (fun w => by go_simp; try with_reducible rfl)) hHeld ?_
        simp only [List.setIfInBounds_toArray, List.set_cons_zero, List.set_cons_succ]
        refine take_at (i := 2) 15 rfl rfl (by kernel_rfl) (by kernel_rfl) (by kernel_rfl) (fun _ _ _ h => h) (sure_yes (by rfl) (fun w => by go_simp; try with_reducible rfl)) hHeld ?_
        simp only [List.setIfInBounds_toArray, List.set_cons_zero, List.set_cons_succ]
        refine take_at (i := 3) 16 rfl rfl (by kernel_rfl) (by kernel_rfl) (by kernel_rfl) (fun _ _ _ h => h) (sure_yes (by rfl) (fun w => by go_simp; try with_reducible rfl)) hHeld ?_
        simp only [List.setIfInBounds_toArray, List.set_cons_zero, List.set_cons_succ]
        refine take_at (i := 5) 18 rfl rfl (by kernel_rfl) (by kernel_rfl) (by kernel_rfl) (fun _ _ _ h => h) (sure_yes (by rfl) (fun w => by go_simp; try with_reducible rfl)) hHeld ?_
        simp only [List.setIfInBounds_toArray, List.set_cons_zero, List.set_cons_succ]
        refine take_at (i := 6) 19 rfl rfl (by kernel_rfl) (by kernel_rfl) (by kernel_rfl) (fun _ _ _ h => h) (sure_yes (by rfl) (fun w => by go_simp; try with_reducible rfl)) hHeld ?_
        simp only [List.setIfInBounds_toArray, List.set_cons_zero, List.set_cons_succ]
        refine take_at (i := 7) 20 rfl rfl (by kernel_rfl) (by kernel_rfl) (by kernel_rfl) (fun _ _ _ h => h) (sure_yes (by rfl) (fun w => by go_simp; try with_reducible rfl)) hHeld ?_
        simp only [List.setIfInBounds_toArray, List.set_cons_zero, List.set_cons_succ]
        refine take_at (i := 8) 21 rfl rfl (by kernel_rfl) (by kernel_rfl) (by kernel_rfl) (fun _ _ _ h => h) (sure_yes (by rfl) (fun w => by go_simp; try with_reducible rfl)) hHeld ?_
        simp only [List.setIfInBounds_toArray, List.set_cons_zero, List.set_cons_succ]
        refine take_at (i := 4) 17 rfl rfl (by kernel_rfl) (by kernel_rfl) (by kernel_rfl) (fun _ _ _ h => h) (evA_yields (by rfl) 30 (.tmp 16) rfl (ad.add (i * 38)) rfl Tryz.underlying30 evSize (fun w h j u hu => cell_under12 (CF.out j u hu) h)) hHeld ?_
        simp only [List.setIfInBounds_toArray, List.set_cons_zero, List.set_cons_succ]
        refine take_at (i := 9) 22 rfl rfl (by kernel_rfl) (by kernel_rfl) (by kernel_rfl) (fun _ _ _ h => h) (evA_yields (by rfl) 30 (.tmp 21) rfl (ad.add (p * 38)) rfl Tryz.underlying30 evSize (fun w h j u hu => cell_under12 (CE.out j u hu) h)) hHeld ?_
        simp only [List.setIfInBounds_toArray, List.set_cons_zero, List.set_cons_succ]
        refine ready_one 10 (by kernel_rfl) ?_
        refine opH_call2 rfl (by rfl) 47 (.tmp 13) (.tmp 17) (.tmp 22) 30 30 rfl #[] rfl (.agg (evC f fv)) (.agg (evC e ev)) rfl rfl EGC.out _ (cmpPath_any f e fv ev _) ?_
        rintro x wz ⟨rfl, hb⟩
        refine ⟨_, rfl, below_next hHeld hb, ?_⟩
        replace hHeld := below_next hHeld hb
        rw [HC.out]
        clear hb
        simp only [Act.put, List.setIfInBounds_toArray, List.set_cons_zero, List.set_cons_succ]
        refine take_at (i := 11) 24 rfl rfl (by kernel_rfl) (by kernel_rfl) (by kernel_rfl) (fun _ _ _ h => h) (sure_yes (by rfl) (fun w => by go_simp; try with_reducible rfl)) hHeld ?_
        simp only [List.setIfInBounds_toArray, List.set_cons_zero, List.set_cons_succ]
        refine wpAnyH_done (by kernel_rfl) ?_ _
        have Z := Lib.hid hHeld
        clear hHeld
        go_wp2
        go_roundw
        case rel => exact ⟨(p : Int), by go_num, by omega, qp, HST.out, below_next HB.out Z.out⟩
        case measure => simp [intOf] <;> omega
    · have q0 : ¬ z > 0 := hz
      have HX := Lib.hid (rises_leFrom (show LeFrom (us.map (·.1)) 1 from fun j a b hj => HLE.out j a b (by omega)))
      go_wp2
      go_ret
      exact .inr ⟨rfl, HX.out, HB.out⟩
end Go.Proofs.YtcdjkjadbhejpaaGreatDoor
namespace Go.Proofs.YtcdjkjadbhejpaaGreatDoor
open Go.RowKit
/-- A function of events that tells a text of each. -/
def KeyFn (F : FuncId) (kf : Ev → List UInt8) : Prop :=
  (∀ (e : Ev) (u : Value) (w : World), Calls Tryz.prog F #[.agg (evC e u)] w fun x w' => x = .returned (.string (str (kf e))) ∧ Below w.heap.size w w') ∧ (∀ vs w, (callFunc F vs).run Tryz.prog w = .ok (.enter F vs) w) ∧ ∀ e : Ev, (kf e).length ≤ e.path.length
def grpK (kf : Ev → List UInt8) (l : List Ev) (p : List UInt8) : List Ev := l.filter fun e => kf e == p
def FlatOK (kf : Ev → List UInt8) (h k : List Ev) : Prop := ∀ ks : List (List UInt8), (ks.Pairwise fun a b => Op.bytesLess a b = true) → (∀ p, p ∈ ks ↔ ∃ e, (e ∈ h ∨ e ∈ k) ∧ kf e = p) → (ks.flatMap fun p => joinE (grpK kf h p) (grpK kf k p)) = joinE h k
theorem join_sub {h k : List Ev} {e : Ev} : e ∈ joinE h k → e ∈ h ∨ e ∈ k := by
  induction k generalizing h with
  | nil => exact .inl
  | cons f k ih =>
    intro he
    rcases ih (h := addE h f) he with h1 | h1
    · rcases addE_sub h1 with h2 | h2
      · exact .inr (by rw [h2]; simp)
      · exact .inl h2
    · exact .inr (by simp [h1])
theorem join_len (h k : List Ev) : (joinE h k).length ≤ h.length + k.length := by
  induction k generalizing h with
  | nil => exact Nat.le_refl _
  | cons f k ih =>
    have h1 := ih (addE h f)
    have h2 := addE_len h f
    show (joinE (addE h f) k).length ≤ _
    simp only [List.length_cons]; omega
theorem flat_path {h k : List Ev} (H : PathRises h) : FlatOK (fun e => e.path) h k := by
  intro ks hk hm
  have e1 : (fun p => joinE (grpK (fun e => e.path) h p) (grpK (fun e => e.path) k p)) = grpE (joinE h k) := by
    funext p; exact (grp_join H p k).symm
  rw [e1]
  exact flat_groups ks (joinE h k) (join_paths H k) hk fun e he => (hm _).2 ⟨e, join_sub he, rfl⟩
theorem flat_const (h k : List Ev) : FlatOK (fun _ => []) h k := by
  intro ks hk hm
  have hall : ∀ p ∈ ks, p = [] := fun p hp => by obtain ⟨e, -, h1⟩ := (hm p).1 hp; exact h1.symm
  have g : ∀ l : List Ev, grpK (fun _ => []) l [] = l := fun l => by unfold grpK; rw [List.filter_eq_self]; intro e _; rfl
  match ks, hk, hm, hall with
  | [], _, hm, _ =>
    have hh : h = [] := List.eq_nil_iff_forall_not_mem.2 fun e he => by have := (hm []).2 ⟨e, .inl he, rfl⟩; cases this
    have kk : k = [] := List.eq_nil_iff_forall_not_mem.2 fun e he => by have := (hm []).2 ⟨e, .inr he, rfl⟩; cases this
    rw [hh, kk]; rfl
  | [p], _, _, hall =>
    obtain rfl := hall p (by simp)
    rw [List.flatMap_cons, g, g]; simp
  | p :: q :: r, hk, _, hall =>
    have h1 := (List.pairwise_cons.1 hk).1 q (by simp)
    rw [hall p (by simp), hall q (by simp), bytesLess_irrefl] at h1
    cases h1
theorem grpK_snoc (kf : Ev → List UInt8) {l : List Ev} {i : Nat} {e : Ev} (he : l[i]? = some e) (p : List UInt8) : grpK kf (l.take (i + 1)) p = if p = kf e then grpK kf (l.take i) p ++ [e] else grpK kf (l.take i) p := by
  unfold grpK
  rw [List.take_add_one, he, List.filter_append]
  by_cases h : p = kf e
  · simp [h]
  · rw [if_neg h]
    have : (kf e == p) = false := beq_eq_false_iff_ne.2 fun x => h x.symm
    simp [this]
def nilE : Value := .slice none 0 0
abbrev EVT : TypeId := 30
/-- A map of lists of events of the call's own: each in memory of its own. -/
def G1 (w : World) (N b nn : Nat) (g : List UInt8 → List (Ev × Value)) (m : List UInt8 → Option Value) : Prop :=
  RawM Tryz.prog 9 w b nn m ∧ b < N ∧ N ≤ w.heap.size ∧ (∀ p v, m p = some v → w.ownsRow N EVT 38 v (g p).length (evsC (g p))) ∧ (∀ p, m p = none → g p = []) ∧ ∀ p q v u, m p = some v → m q = some u → p ≠ q → v.ownBlock = none ∨ v.ownBlock ≠ u.ownBlock
theorem g1_own {w : World} {N b nn : Nat} {g : List UInt8 → List (Ev × Value)} {m : List UInt8 → Option Value} (h : G1 w N b nn g m) (p : List UInt8) : w.ownsRow N EVT 38 ((m p).getD nilE) (g p).length (evsC (g p)) := by
  obtain ⟨-, -, -, h1, h2, -⟩ := h
  cases hm : m p with
  | some v => exact h1 p v hm
  | none => rw [h2 p hm]; exact World.ownsRow_nil _ _ _ _
theorem g1_row {w : World} {N b nn : Nat} {g : List UInt8 → List (Ev × Value)} {m : List UInt8 → Option Value} (h : G1 w N b nn g m) (p : List UInt8) : ∀ k, ((m p).getD nilE).ownBlock = some k → b < k ∧ k < w.heap.size := fun k hk => by
  have h1 := (g1_own h p).lt k hk
  have := h.2.1; omega
theorem g1_map {w wa wb wc : World} {N b nn : Nat} {g : List UInt8 → List (Ev × Value)} {m : List UInt8 → Option Value} (h : G1 w N b nn g m) (p : List UInt8) (h1 : Below w.heap.size w wa) (h2 : wa.grownBy wb ((m p).getD nilE).ownBlock) (h3 : Below wb.heap.size wb wc) : RawM Tryz.prog 9 wc b nn m := by
  have hb := rawM_lt h.1
  refine rawM_block h.1 ?_
  have e1 := h1.block b hb
  have e2 := h2.block b (Nat.lt_of_lt_of_le hb h1.size) fun e => by have := (g1_row h p b e.symm).1; omega
  have e3 := h3.block b (Nat.lt_of_lt_of_le (Nat.lt_of_lt_of_le hb h1.size) h2.size)
  exact e3.trans (e2.trans e1)
theorem g1_put {w wa wb wc wd : World} {N b nn : Nat} {g : List UInt8 → List (Ev × Value)} {m : List UInt8 → Option Value} {v3 : Value} {x : Ev × Value} (h : G1 w N b nn g m) (p : List UInt8) (h1 : Below w.heap.size w wa) (h2 : wa.grownBy wb ((m p).getD nilE).ownBlock)
    (ho : wb.ownsRow N EVT 38 v3 (g p ++ [x]).length (evsC (g p ++ [x]))) (hloc : v3.ownBlock = ((m p).getD nilE).ownBlock ∨ v3.ownBlock = some wa.heap.size) (h3 : Below wb.heap.size wb wc) (hr : RawM Tryz.prog 9 wd b (nn + 1) (putM m p v3)) (h4 : wc.grownBy wd (some b)) :
    G1 wd N b (nn + 1) (fun q => if q = p then g p ++ [x] else g q) (putM m p v3) := by
  obtain ⟨r1, r2, r3, r4, r5, r6⟩ := h
  have nob : ∀ {W : World} {v : Value} {n : Nat} {xs : List Value}, W.ownsRow N EVT 38 v n xs → v.ownBlock = none ∨ v.ownBlock ≠ some b := fun {W v n xs} ho => by
    cases hv : v.ownBlock with
    | none => exact .inl rfl
    | some k => exact .inr fun e => by cases e; have := (ho.lt b hv).1; omega
  refine ⟨hr, r2, Nat.le_trans r3 (Nat.le_trans h1.size (Nat.le_trans h2.size (Nat.le_trans h3.size h4.size))), fun q v hq => ?_, fun q hq => ?_, fun q q' v u hq hq' hne => ?_⟩
  · unfold putM at hq
    by_cases hqp : q = p
    · rw [if_pos hqp] at hq
      simp only [if_pos hqp]
      rw [← Option.some.inj hq]
      exact (own_belowM ho h3).kept h4 (nob ho)
    · rw [if_neg hqp] at hq
      simp only [if_neg hqp]
      have o1 := own_belowM (r4 q v hq) h1
      have hap : v.ownBlock = none ∨ v.ownBlock ≠ ((m p).getD nilE).ownBlock := by
        cases hm : m p with
        | none => cases hv : v.ownBlock with
          | none => exact .inl rfl
          | some k => exact .inr fun e => by cases e
        | some u => exact r6 q p v u hq hm hqp
      have o2 := own_belowM (o1.kept h2 hap) h3
      exact o2.kept h4 (nob o2)
  · unfold putM at hq
    by_cases hqp : q = p
    · rw [if_pos hqp] at hq; cases hq
    · rw [if_neg hqp] at hq
      simp only [if_neg hqp]
      exact r5 q hq
  · -- the one that is new lies nowhere where another one lies
    have new : ∀ q u, q ≠ p → m q = some u → (v3.ownBlock = none ∨ v3.ownBlock ≠ u.ownBlock) ∧ (u.ownBlock = none ∨ u.ownBlock ≠ v3.ownBlock) := fun q u hqp hq => by
      have hu := (r4 q u hq).lt
      rcases hloc with e | e
      · rw [e]
        cases hm : m p with
        | none => exact ⟨.inl rfl, by cases hv : u.ownBlock with
            | none => exact .inl rfl
            | some k => exact .inr fun e => by cases e⟩
        | some v => exact ⟨r6 p q v u hm hq (fun e => hqp e.symm), r6 q p u v hq hm hqp⟩
      · rw [e]
        have hsz := h1.size
        constructor
        · exact .inr fun e2 => by have := (hu wa.heap.size e2.symm).2; omega
        · cases hv : u.ownBlock with
          | none => exact .inl rfl
          | some k => exact .inr fun e2 => by cases e2; have := (hu wa.heap.size hv).2; omega
    unfold putM at hq hq'
    by_cases hqp : q = p
    · rw [if_pos hqp] at hq
      rw [if_neg (fun e => hne (hqp.trans e.symm))] at hq'
      rw [← Option.some.inj hq]
      exact (new q' u (fun e => hne (hqp.trans e.symm)) hq').1
    · rw [if_neg hqp] at hq
      by_cases hqp' : q' = p
      · rw [if_pos hqp'] at hq'
        rw [← Option.some.inj hq']
        exact (new q v hqp hq).2
      · rw [if_neg hqp'] at hq'
        exact r6 q q' v u hq hq' hne
/-- A map of lists of events, wherever these lie. -/
def G2 (w : World) (b nn : Nat) (g : List UInt8 → List (Ev × Value)) (m : List UInt8 → Option Value) : Prop :=
  RawM Tryz.prog 9 w b nn m ∧ (∀ p v, m p = some v → HoldsU w v (g p)) ∧ ∀ p, m p = none → g p = []
theorem g2_of {w : World} {N b nn : Nat} {g : List UInt8 → List (Ev × Value)} {m : List UInt8 → Option Value} (h : G1 w N b nn g m) : G2 w b nn g m := ⟨h.1, fun p v hp => own_holds (h.2.2.2.1 p v hp), h.2.2.2.2.1⟩
theorem g2_below {w w' : World} {b nn : Nat} {g : List UInt8 → List (Ev × Value)} {m : List UInt8 → Option Value} (h : G2 w b nn g m) (hb : Below w.heap.size w w') : G2 w' b nn g m :=
  ⟨rawM_block h.1 (hb.block b (rawM_lt h.1)), fun p v hp => holdsU_below (h.2.1 p v hp) hb, h.2.2⟩
theorem g2_at {w : World} {b nn : Nat} {g : List UInt8 → List (Ev × Value)} {m : List UInt8 → Option Value} (h : G2 w b nn g m) (p : List UInt8) : HoldsU w ((m p).getD nilE) (g p) := by
  cases hm : m p with
  | some v => exact h.2.1 p v hm
  | none => rw [h.2.2 p hm]; exact holdsU_nil w
theorem holdsU_map {w w' : World} {b : Nat} {es : Array MapEntry} {clock : Nat} (hm : w.heap[b]? = some (.map es clock)) (hg : w.grownBy w' (some b)) {v : Value} {us : List (Ev × Value)} (h : HoldsU w v us) : HoldsU w' v us := by
  obtain ⟨ao, cap, rfl, hnil, hc⟩ := h
  exact ⟨ao, cap, rfl, hnil, fun ad had => ⟨(hc ad had).1, fun j u hu => cell_not_map hm hg ((hc ad had).2 j u hu)⟩⟩
theorem g2_put {wc wd : World} {b nn : Nat} {g : List UInt8 → List (Ev × Value)} {m : List UInt8 → Option Value} {v3 : Value} {xs : List (Ev × Value)} (h : G2 wc b nn g m) (p : List UInt8) (ho : HoldsU wc v3 xs) (hr : RawM Tryz.prog 9 wd b (nn + 1) (putM m p v3)) (h4 : wc.grownBy wd (some b)) :
    G2 wd b (nn + 1) (fun q => if q = p then xs else g q) (putM m p v3) := by
  obtain ⟨es, clock, hm⟩ := rawM_is h.1
  refine ⟨hr, fun q v hq => ?_, fun q hq => ?_⟩
  · unfold putM at hq
    by_cases hqp : q = p
    · rw [if_pos hqp] at hq
      simp only [if_pos hqp]
      rw [← Option.some.inj hq]; exact holdsU_map hm h4 ho
    · rw [if_neg hqp] at hq
      simp only [if_neg hqp]
      exact holdsU_map hm h4 (h.2.1 q v hq)
  · unfold putM at hq
    by_cases hqp : q = p
    · rw [if_pos hqp] at hq; cases hq
    · rw [if_neg hqp] at hq
      simp only [if_neg hqp]; exact h.2.2 q hq
theorem wpList_lookup_raw {P : Program} {w : World} {ops : Array Oper} {rest : List Oper} {o : Oper} {a : Act} {Q : Exit → Act → World → Prop} (hg : o.guard = none) (mm x : Operand) (t : TypeId) (c : Bool) (ho : o.op = .lookup t mm x c) (b : Nat) (hm : a.eval mm = .map (some b)) (key v : Value) (hx : a.eval x = key)
    (hr : (Instr.lookup t (.map (some b)) key c).run P w = .ok v w) (h : wpList P ops Q rest (a.put o.dst v) w) : wpList P ops Q (o :: rest) a w := by
  refine wpList_plain hg fun K hK => ?_
  unfold Oper.wp
  simp [execOp, ho, hm, hx, hr, Result.andThen]
  exact hK _ _ h
theorem wpList_put_raw {P : Program} {w : World} {ops : Array Oper} {rest : List Oper} {o : Oper} {a : Act} {Q : Exit → Act → World → Prop} (hg : o.guard = none) (mm x y : Operand) (t k e : TypeId) (ho : o.op = .mapUpdate t mm x y) (b n : Nat) (m : List UInt8 → Option Value) (h : RawM P k w b n m) (hk : P.underlying k = some .string) (ht : P.underlying t = some (.map k e)) (hn : n < maxLen)
    (hm : a.eval mm = .map (some b)) (p : List UInt8) (hp : p.length ≤ maxLen) (hx : a.eval x = .string (str p)) (v : Value) (hy : a.eval y = v) (hK : ∀ w', RawM P k w' b (n + 1) (putM m p v) → w.grownBy w' (some b) → wpList P ops Q rest (a.put o.dst undef) w') : wpList P ops Q (o :: rest) a w := by
  refine wpList_plain hg fun K hK' => ?_
  obtain ⟨w', hr, h1, h2⟩ := rawM_put h hk ht hn p hp v
  unfold Oper.wp
  simp [execOp, ho, hm, hx, hy, hr, Result.andThen]
  exact hK' _ _ (hK w' h1 h2)
theorem evAt_map {w w' : World} {b g : Nat} {es : Array MapEntry} {clock : Nat} (hm : w.heap[b]? = some (.map es clock)) (hg : w.grownBy w' (some b)) {T : TypeId} {e : Ev} {v : Value} (h : EvAt w g T e v) : EvAt w' g T e v :=
  (hg.block g (Array.getElem?_eq_some_iff.1 (show w.heap[g]? = some _ from h)).1 fun x => by
    cases x
    rw [show w.heap[b]? = some (.cells (evC e v) T (0, 0)) from h] at hm; cases hm).trans h
theorem evAt_grown {w w' : World} {row : Option Nat} (hg : w.grownBy w' row) {g : Nat} (hne : ∀ k, row = some k → k < g) {T : TypeId} {e : Ev} {v : Value} (h : EvAt w g T e v) : EvAt w' g T e v :=
  (hg.block g (Array.getElem?_eq_some_iff.1 (show w.heap[g]? = some _ from h)).1 fun x => by have := hne g x.symm; omega).trans h
theorem row_str {w : World} {B : Nat} {T : TypeId} {v : Value} {n : Nat} {ps : List (List UInt8)} {a : Nat} {p : List UInt8} (h : w.ownsRow B T 1 v n (ps.map Go.Proofs.encStr)) (hp : ps[a]? = some p) : ∃ (ad : Addr) (cap : Nat), v = .slice (some ad) n cap ∧ w.cell? (ad.add a) = some (.string (str p)) := by
  have hu : (ps.map Go.Proofs.encStr)[a]? = some (.string (str p)) := by rw [List.getElem?_map, hp]; rfl
  rcases h.2 with ⟨rfl, h0⟩ | ⟨g, cap, cur, rfl, -⟩
  · have h1 := h.1
    have h2 := (List.getElem?_eq_some_iff.1 hu).1
    omega
  · exact ⟨⟨g, 0, none⟩, cap, rfl, h.cells rfl a _ hu⟩
theorem g1_below {w w' : World} {N b nn : Nat} {g : List UInt8 → List (Ev × Value)} {m : List UInt8 → Option Value} (h : G1 w N b nn g m) (hb : Below w.heap.size w w') : G1 w' N b nn g m :=
  ⟨rawM_block h.1 (hb.block b (rawM_lt h.1)), h.2.1, Nat.le_trans h.2.2.1 hb.size, fun p v hp => own_belowM (h.2.2.2.1 p v hp) hb, h.2.2.2.2⟩
def GrpOf (kf : Ev → List UInt8) (us : List (Ev × Value)) (i : Nat) (g : List UInt8 → List (Ev × Value)) : Prop := ∀ p, (g p).map (·.1) = grpK kf ((us.map (·.1)).take i) p ∧ (∀ z ∈ g p, z ∈ us) ∧ (g p).length ≤ i
def KeysOf (kf : Ev → List UInt8) (l : List Ev) (m : List UInt8 → Option Value) : Prop := ∀ p, (m p).isSome = true ↔ ∃ e, e ∈ l ∧ kf e = p
theorem grp_step {kf : Ev → List UInt8} {us : List (Ev × Value)} {i : Nat} {g : List UInt8 → List (Ev × Value)} {e : Ev} {v : Value} (h : GrpOf kf us i g) (hx : us[i]? = some (e, v)) : GrpOf kf us (i + 1) (fun q => if q = kf e then g (kf e) ++ [(e, v)] else g q) := by
  intro p
  obtain ⟨h1, h2, h3⟩ := h p
  rw [grpK_snoc kf (fst_atM hx)]
  by_cases hp : p = kf e
  · subst hp
    simp only [if_true]
    exact ⟨by rw [List.map_append, h1]; rfl, fun z hz => by
      rcases List.mem_append.1 hz with hz | hz
      · exact h2 z hz
      · rw [List.mem_singleton.1 hz]; exact List.mem_of_getElem? hx, by simp; omega⟩
  · simp only [if_neg hp]
    exact ⟨h1, h2, by omega⟩
theorem keys_step {kf : Ev → List UInt8} {l : List Ev} {m : List UInt8 → Option Value} {e : Ev} {v : Value} (h : KeysOf kf l m) : KeysOf kf (l ++ [e]) (putM m (kf e) v) := by
  intro p
  unfold putM
  by_cases hp : p = kf e
  · rw [if_pos hp]
    exact ⟨fun _ => ⟨e, by simp, hp.symm⟩, fun _ => rfl⟩
  · rw [if_neg hp, h p]
    constructor
    · rintro ⟨f, h1, h2⟩; exact ⟨f, by simp [h1], h2⟩
    · rintro ⟨f, h1, h2⟩
      rcases List.mem_append.1 h1 with h1 | h1
      · exact ⟨f, h1, h2⟩
      · rw [List.mem_singleton.1 h1] at h2; exact absurd h2.symm hp
def JoinOf (kf : Ev → List UInt8) (us ks : List (Ev × Value)) (j : Nat) (g : List UInt8 → List (Ev × Value)) : Prop := ∀ p, (g p).map (·.1) = joinE (grpK kf (us.map (·.1)) p) (grpK kf ((ks.map (·.1)).take j) p) ∧ (∀ z ∈ g p, z ∈ us ∨ z ∈ ks) ∧ (g p).length ≤ us.length + j
theorem joinOf_start {kf : Ev → List UInt8} {us ks : List (Ev × Value)} {n : Nat} {g : List UInt8 → List (Ev × Value)} (hn : n = us.length) (h : GrpOf kf us n g) : JoinOf kf us ks 0 g := by
  intro p
  obtain ⟨h1, h2, h3⟩ := h p
  refine ⟨by rw [h1, hn, List.take_of_length_le (by rw [List.length_map]; exact Nat.le_refl _)]; rfl, fun z hz => .inl (h2 z hz), by omega⟩
theorem join_step {kf : Ev → List UInt8} {us ks xs : List (Ev × Value)} {j : Nat} {g : List UInt8 → List (Ev × Value)} {e : Ev} {v : Value} (h : JoinOf kf us ks j g) (hx : ks[j]? = some (e, v)) (hm : xs.map (·.1) = addE ((g (kf e)).map (·.1)) e) (hz : ∀ z ∈ xs, z ∈ g (kf e) ∨ z = (e, v)) :
    JoinOf kf us ks (j + 1) (fun q => if q = kf e then xs else g q) := by
  intro p
  obtain ⟨h1, h2, h3⟩ := h p
  rw [grpK_snoc kf (fst_atM hx)]
  by_cases hp : p = kf e
  · subst hp
    simp only [if_true]
    refine ⟨by rw [hm, h1, joinE_snoc], fun z hzz => ?_, ?_⟩
    · rcases hz z hzz with h4 | h4
      · exact h2 z h4
      · exact .inr (by rw [h4]; exact List.mem_of_getElem? hx)
    · have h5 := congrArg List.length hm
      have h6 := addE_len ((g (kf e)).map (·.1)) e
      rw [List.length_map] at h5 h6; omega
  · simp only [if_neg hp]
    exact ⟨h1, h2, by omega⟩
theorem flat_take {α β : Type} (f : α → List β) (l : List α) (a : Nat) : ((l.take a).flatMap f).length ≤ (l.flatMap f).length := by
  have h : l.flatMap f = (l.take a).flatMap f ++ (l.drop a).flatMap f := by rw [← List.flatMap_append, List.take_append_drop]
  rw [h, List.length_append]; omega
theorem flat_snoc {α β : Type} (f : α → List β) {l : List α} {a : Nat} {x : α} (h : l[a]? = some x) : (l.take (a + 1)).flatMap f = (l.take a).flatMap f ++ f x := by
  rw [List.take_add_one, h, List.flatMap_append]; simp
theorem map_zero (w : World) : (zeroValue 22).run Tryz.prog w = .ok nilE w := by kernel_rfl
end Go.Proofs.YtcdjkjadbhejpaaGreatDoor
namespace Go.Proofs.YtcdjkjadbhejpaaGreatDoor
open Go.RowKit
attribute [local go_sem] run_makeMap_plain
theorem keyFn_path : KeyFn 45 (fun e => e.path) := ⟨pathOf_any, (enters_of Tryz.func45 (by kernel_rfl) rfl), fun e => Nat.le_refl _⟩
theorem keyFn_none : KeyFn 49 (fun _ => []) := ⟨noPath_any, (enters_of Tryz.func49 (by kernel_rfl) rfl), fun e => Nat.zero_le _⟩
set_option linter.unusedSimpArgs false in
set_option maxRecDepth 100000 in
set_option maxHeartbeats 16000000 in
theorem joinH_any (us ks : List (Ev × Value)) (hl : us.length + ks.length ≤ 20000) (hf : FitU us) (hg : FitU ks) (v u : Value) (w : World) (hv : HoldsU w v us) (hd : DepsU w us) (hu : HoldsU w u ks) (he : DepsU w ks) : Calls Tryz.prog 18 #[v, u] w fun x w' => ∃ y, x = .returned y ∧ HasEvs w' y (joinE (us.map (·.1)) (ks.map (·.1))) ∧ Below w.heap.size w w' := by
  obtain ⟨n, hn⟩ : ∃ n, n = us.length := ⟨_, rfl⟩
  obtain ⟨nk, hnk⟩ : ∃ n, n = ks.length := ⟨_, rfl⟩
  have HN := Lib.hid hn
  have HNK := Lib.hid hnk
  have HL := Lib.hid (show n + nk ≤ 20000 by omega)
  obtain ⟨ao, cap, hvs⟩ := holdsU_shape hv n hn
  obtain ⟨ko, kcap, hws⟩ := holdsU_shape hu nk hnk
  subst hvs
  subst hws
  have HV := Lib.hid hv
  have HD := Lib.hid hd
  have HU := Lib.hid hu
  have HE := Lib.hid he
  have HF := Lib.hid hf
  have HG := Lib.hid hg
  obtain ⟨ie, hie, hiz⟩ := infoEv
  have HIZ := Lib.hid hiz
  clear hl hf hg hv hd hu he hn hnk hiz
  go_enter Tryz.func18, Tryz.ntmps18
  go_upto_if 16 with (first
    | (go_at_call 46; refine (sortedE_any us (by have := HL.out; have := HN.out; omega) _ _ HV.out).mono ?_; rintro x w1 ⟨b, rfl, hs, hb⟩; have HS := Lib.hid hs; have B1 := Lib.hid hb; clear hs hb))
  go_cut [5] (fun s wx => ∃ F kf, s = .func (.func F) #[] #[] ∧ KeyFn F kf ∧ FlatOK kf (us.map (·.1)) (ks.map (·.1)) ∧ wx = w1)
  case first =>
    rename_i JJ KK hJJ hKK
    have HJJ := Lib.hid hJJ
    have HKK := Lib.hid hKK
    clear hJJ hKK
    cases b with
    | true =>
      go_wp2_with fail
      refine HKK.out _ _ ?_
      have hJJ := HJJ.out
      go_meet
      exact ⟨_, _, rfl, keyFn_path, flat_path (HS.out (by first | rfl | trivial)), by first | rfl | trivial⟩
    | false =>
      go_wp2_with fail
      refine HKK.out _ _ ?_
      have hJJ := HJJ.out
      go_meet
      exact ⟨_, _, rfl, keyFn_none, flat_const _ _, by first | rfl | trivial⟩
  case rest =>
    obtain ⟨F, kf, rfl, hkf, hflat, rfl⟩ := hcut
    have HKF := Lib.hid hkf
    have HFL := Lib.hid hflat
    clear hkf hflat HS
    have HBN := Lib.hid (show w.heap.size ≤ wc.heap.size from B1.out.size)
    have hg0 : G1 (wc.alloc (.map #[] 0)) (wc.heap.size + 1) wc.heap.size 0 (fun _ => []) (fun _ => none) :=
      ⟨rawM_made _ _ _, Nat.lt_succ_self _, by rw [size_of_alloc]; exact Nat.le_refl _, (fun p v h => by cases h), (fun p h => rfl), (fun p q v u h => by cases h)⟩
    have BM := Lib.hid (below_next B1.out ((Below.refl wc.heap.size wc).alloc (Nat.le_refl _) (.map #[] 0)))
    go_upto_region 5 with fail
    generalize wc.alloc (.map #[] 0) = WM at *
    generalize wc.heap.size = b at *
    have HG0 := Lib.hid hg0
    obtain ⟨N0, hN0⟩ : ∃ N, N = b + 1 := ⟨_, rfl⟩
    rw [← hN0] at HG0
    clear hg0 hN0 B1
    go_wp2
    go_loopw [8, 20] (fun _ c wr => ∃ (i : Nat) (g : List UInt8 → List (Ev × Value)) (m : List UInt8 → Option Value), i ≤ n ∧ c = .int .i64 (i : Int) ∧ G1 wr N0 b i g m ∧ GrpOf kf us i g ∧ KeysOf kf ((us.map (·.1)).take i) m ∧ Below w.heap.size w wr) (fun _ c _ => n - (intOf c).toNat)
    case atStart => exact ⟨0, _, _, Nat.zero_le _, rfl, HG0.out, (fun p => ⟨rfl, (fun z hz => by cases hz), Nat.le_refl _⟩), (fun p => ⟨(fun h => by cases h), (fun ⟨e, h, _⟩ => by cases h)⟩), BM.out⟩
    case round =>
      obtain ⟨i, g, m, hi, rfl, hgg, hgo, hks, hb⟩ := hrel
      have HGG := Lib.hid hgg
      have HGO := Lib.hid hgo
      have HKS := Lib.hid hks
      have HB := Lib.hid hb
      clear hgg hgo hks hb
      by_cases hin : i < n
      · have q0 : (i : Int) < (n : Int) := by omega
        have q1 : (i : Int) < 50000 := by have := HL.out; omega
        have hi1 : i + 1 ≤ n := hin
        have hi5 : i < 50000 := by have := HL.out; omega
        obtain ⟨x, hx⟩ : ∃ x, us[i]? = some x := ⟨_, List.getElem?_eq_getElem (by have := HN.out; omega)⟩
        obtain ⟨ad, cap', e1, hcx⟩ := holdsU_at (holdsU_below HV.out HB.out) n i HN.out.symm x hx
        cases e1
        have hux := HD.out x (List.mem_of_getElem? hx)
        have hfx := HF.out x (List.mem_of_getElem? hx)
        have hex := fst_atM hx
        obtain ⟨ye, yv⟩ := x
        dsimp only at hcx hux hfx hex
        obtain ⟨yo, yc, rfl⟩ := dots_shape hux ye.deps.length rfl
        obtain ⟨yn, hyn⟩ : ∃ m, m = ye.deps.length := ⟨_, rfl⟩
        rw [← hyn] at hcx hx
        have HC := Lib.hid hcx
        have GS := Lib.hid (grp_step HGO.out hx)
        have KS := Lib.hid (show ∀ v, KeysOf kf ((us.map (·.1)).take (i + 1)) (putM m (kf ye) v) from fun v => by rw [List.take_add_one, hex]; exact keys_step HKS.out)
        have HPL := Lib.hid (show (kf ye).length ≤ maxLen by have h1 := HKF.out.2.2 ye; have h2 := hfx.2.2.2; unfold maxLen; omega)
        have HGL := Lib.hid (show ∀ p, (g p).length ≤ 50000 from fun p => by have := (HGO.out p).2.2; omega)
        have HRW := Lib.hid (fun k hk => (g1_row HGG.out (kf ye) k hk).2)
        have HRB := Lib.hid (fun k hk => (g1_row HGG.out (kf ye) k hk).1)
        clear hx hcx hux hfx hex hyn hi
        go_upto_region 7 with fail
        go_upto_region 8 with (first
          | (refine load_evA_on (by rfl) 30 (.tmp 22) rfl (ad.add (i * 38)) rfl Tryz.underlying30 evSize HC.out ?_)
          | (refine store_new rfl 30 (.tmp 8) (.tmp 23) rfl rfl wr _ (evC ye (.slice yo yn yc)) 30 rfl rfl rfl (by rw [evSize, evC_size]) (by rw [evC_size]; rfl) (evC_one _ _ rfl) ?_; rintro W2 hg hb hlt; have E2 := Lib.hid (show EvAt W2 wr.heap.size 30 ye (.slice yo yn yc) from hg); have C2 := Lib.hid hb; have HB2 := Lib.hid (below_next HB.out hb); clear hg hb hlt))
        have HG2 := Lib.hid (g1_below HGG.out C2.out)
        refine wp_region_held_drew (S := fun w' => EvAt w' wr.heap.size 30 ye (.slice yo yn yc)) (by kernel_rfl) (show EvAt _ _ _ _ _ from E2.out) (fun hHeld => ?_)
        have HBW := Lib.hid (drawS (Below.refl W2.heap.size W2))
        generalize W2.drew = wd at hHeld HBW ⊢
        refine take_at (i := 0) 24 rfl rfl (by kernel_rfl) (by kernel_rfl) (by kernel_rfl) (fun _ _ _ h => h) (sure_yes (by rfl) (fun w => by go_simp; try with_reducible rfl)) hHeld ?_
        simp only [List.setIfInBounds_toArray, List.set_cons_zero, List.set_cons_succ]
        refine take_at (i := 1) 25 rfl rfl (by kernel_rfl) (by kernel_rfl) (by kernel_rfl) (fun _ _ _ h => h) (sure_yes (by rfl) (fun w => by go_simp; try with_reducible rfl)) hHeld ?_
        simp only [List.setIfInBounds_toArray, List.set_cons_zero, List.set_cons_succ]
        refine take_at (i := 4) 28 rfl rfl (by kernel_rfl) (by kernel_rfl) (by kernel_rfl) (fun _ _ _ h => h) (sure_yes (by rfl) (fun w => by go_simp; try with_reducible rfl)) hHeld ?_
        simp only [List.setIfInBounds_toArray, List.set_cons_zero, List.set_cons_succ]
        refine take_at (i := 5) 29 rfl rfl (by kernel_rfl) (by kernel_rfl) (by kernel_rfl) (fun _ _ _ h => h) (sure_yes (by rfl) (fun w => by go_simp; try with_reducible rfl)) hHeld ?_
        simp only [List.setIfInBounds_toArray, List.set_cons_zero, List.set_cons_succ]
        refine take_at (i := 2) 26 rfl rfl (by kernel_rfl) (by kernel_rfl) (by kernel_rfl) (fun _ _ _ h => h) (evA_yields (by rfl) 30 (.tmp 8) rfl ⟨wr.heap.size, 0, none⟩ rfl Tryz.underlying30 evSize (fun w h j u hu => by rw [Addr.add_lit, Nat.zero_add]; exact evAt_cell h j u hu)) hHeld ?_
        simp only [List.setIfInBounds_toArray, List.set_cons_zero, List.set_cons_succ]
        refine take_at (i := 6) 30 rfl rfl (by kernel_rfl) (by kernel_rfl) (by kernel_rfl) (fun _ _ _ h => h) (evA_yields (by rfl) 30 (.tmp 8) rfl ⟨wr.heap.size, 0, none⟩ rfl Tryz.underlying30 evSize (fun w h j u hu => by rw [Addr.add_lit, Nat.zero_add]; exact evAt_cell h j u hu)) hHeld ?_
        simp only [List.setIfInBounds_toArray, List.set_cons_zero, List.set_cons_succ]
        refine take_at (i := 9) 33 rfl rfl (by kernel_rfl) (by kernel_rfl) (by kernel_rfl) (fun _ _ _ h => h) (evA_yields (by rfl) 30 (.tmp 8) rfl ⟨wr.heap.size, 0, none⟩ rfl Tryz.underlying30 evSize (fun w h j u hu => by rw [Addr.add_lit, Nat.zero_add]; exact evAt_cell h j u hu)) hHeld ?_
        simp only [List.setIfInBounds_toArray, List.set_cons_zero, List.set_cons_succ]
        refine ready_two 3 10 (by kernel_rfl) ?_ ?_
        · refine opH_call1 rfl (by rfl) F (.tmp 25) (.tmp 26) 30 rfl rfl (.agg (evC ye (.slice yo yn yc))) rfl HKF.out.2.1 _ (HKF.out.1 ye (.slice yo yn yc) _) ?_
          rintro x w3 ⟨rfl, hb⟩
          refine ⟨_, rfl, evAt_kept hHeld hb, ?_⟩
          replace hHeld := evAt_kept hHeld hb
          replace HBW := Lib.hid (below_next HBW.out hb)
          clear hb
          simp only [Act.put, List.setIfInBounds_toArray, List.set_cons_zero, List.set_cons_succ]
          refine ready_two 7 10 (by kernel_rfl) ?_ ?_
          · refine opH_call1 rfl (by rfl) F (.tmp 29) (.tmp 30) 30 rfl rfl (.agg (evC ye (.slice yo yn yc))) rfl HKF.out.2.1 _ (HKF.out.1 ye (.slice yo yn yc) _) ?_
            rintro x w4 ⟨rfl, hb⟩
            refine ⟨_, rfl, evAt_kept hHeld hb, ?_⟩
            replace hHeld := evAt_kept hHeld hb
            replace HBW := Lib.hid (below_next HBW.out hb)
            clear hb
            simp only [Act.put, List.setIfInBounds_toArray, List.set_cons_zero, List.set_cons_succ]
            refine ready_two 8 10 (by kernel_rfl) ?_ ?_
            · refine opH_list rfl ?_
              refine wpList_lookup_raw rfl (.tmp 28) (.tmp 31) 87 false rfl b rfl _ ((m (kf ye)).getD nilE) rfl (rawM_look (rawM_block HG2.out.1 (HBW.out.block b (rawM_lt HG2.out.1))) Tryz.underlying9 Tryz.underlying87 (map_zero _) _ HPL.out) ?_
              refine opH_end hHeld ?_
              simp only [Act.put, List.setIfInBounds_toArray, List.set_cons_zero, List.set_cons_succ]
              refine ready_one 10 (by kernel_rfl) ?_
              obtain ⟨N9, hN9⟩ : ∃ N, w4.heap.size = N := ⟨_, rfl⟩
              have HN9 := Lib.hid hN9
              clear hN9
              refine opH_list rfl ?_
              refine build_evM rfl 34 rfl (.tmp 33) rfl N9 HN9.out ye yo yn yc rfl ?_
              rintro w5 hEA hBA hNA
              refine opH_end (evAt_kept hHeld hBA) ?_
              replace hHeld := evAt_kept hHeld hBA
              replace HBW := Lib.hid (below_next HBW.out hBA)
              have HEA := Lib.hid hEA
              clear hEA hBA hNA
              simp only [Act.put, List.setIfInBounds_toArray, List.set_cons_zero, List.set_cons_succ]
              refine ready_one 11 (by kernel_rfl) ?_
              refine opH_list rfl ?_
              refine append_evs_at rfl (.tmp 32) (.tmp 34) 22 rfl N0 30 ie Tryz.underlying22 hie HIZ.out _ _ [(ye, .slice yo yn yc)] rfl (own_belowM (g1_own HG2.out (kf ye)) HBW.out) (fun q hq => by rw [List.mem_singleton.1 hq]; rfl) ⟨N9, 0, none⟩ 1 1 rfl rfl (evAt_one HEA.out) (by have := HGL.out (kf ye); simp; omega) (Nat.le_trans HG2.out.2.2.1 HBW.out.size) ?_
              rintro v3 w6 ho hg hloc
              have hHeld2 := evAt_grown hg HRW.out hHeld
              refine opH_end hHeld2 ?_
              replace hHeld := hHeld2
              clear hHeld2
              have HO3 := Lib.hid ho
              have HGR := Lib.hid hg
              have HLC := Lib.hid hloc
              have HBP := Lib.hid (Below.refl w6.heap.size w6)
              clear ho hg hloc
              simp only [Act.put, List.setIfInBounds_toArray, List.set_cons_zero, List.set_cons_succ]
              refine ready_one 12 (by kernel_rfl) ?_
              have HRM := Lib.hid (g1_map HG2.out (kf ye) HBW.out HGR.out HBP.out)
              refine opH_list rfl ?_
              refine wpList_put_raw rfl (.tmp 24) (.tmp 27) (.tmp 35) 87 9 22 rfl b i m HRM.out Tryz.underlying9 Tryz.underlying87 (by unfold maxLen; omega) rfl (kf ye) HPL.out rfl v3 rfl ?_
              rintro w7 hr hg
              obtain ⟨es, clock, hmm⟩ := rawM_is HRM.out
              refine opH_end (evAt_map hmm hg hHeld) ?_
              have HG3 := Lib.hid (g1_put HG2.out (kf ye) HBW.out HGR.out HO3.out HLC.out HBP.out hr hg)
              have hb8 := below_next (below_grown (below_next HB2.out HBW.out) HGR.out (Nat.le_trans HB2.out.size HBW.out.size) (fun k hk => Nat.le_of_lt (Nat.lt_of_le_of_lt HBN.out (HRB.out k hk)))) HBP.out
              have HB9 := Lib.hid (below_grown hb8 hg hb8.size (fun k hk => by cases hk; exact HBN.out))
              clear hr hg hmm hb8
              simp only [Act.put, List.setIfInBounds_toArray, List.set_cons_zero, List.set_cons_succ]
              refine wpAnyH_done (by kernel_rfl) ?_ _
              go_wp2
              go_roundw
              case rel => exact ⟨i + 1, _, _, hi1, by go_num, HG3.out, GS.out, KS.out _, HB9.out⟩
              case measure => simp [intOf] <;> omega
            · obtain ⟨N9, hN9⟩ : ∃ N, w4.heap.size = N := ⟨_, rfl⟩
              have HN9 := Lib.hid hN9
              clear hN9
              refine opH_list rfl ?_
              refine build_evM rfl 34 rfl (.tmp 33) rfl N9 HN9.out ye yo yn yc rfl ?_
              rintro w5 hEA hBA hNA
              refine opH_end (evAt_kept hHeld hBA) ?_
              replace hHeld := evAt_kept hHeld hBA
              replace HBW := Lib.hid (below_next HBW.out hBA)
              have HEA := Lib.hid hEA
              clear hEA hBA hNA
              simp only [Act.put, List.setIfInBounds_toArray, List.set_cons_zero, List.set_cons_succ]
              refine ready_one 8 (by kernel_rfl) ?_
              refine opH_list rfl ?_
              refine wpList_lookup_raw rfl (.tmp 28) (.tmp 31) 87 false rfl b rfl _ ((m (kf ye)).getD nilE) rfl (rawM_look (rawM_block HG2.out.1 (HBW.out.block b (rawM_lt HG2.out.1))) Tryz.underlying9 Tryz.underlying87 (map_zero _) _ HPL.out) ?_
              refine opH_end hHeld ?_
              simp only [Act.put, List.setIfInBounds_toArray, List.set_cons_zero, List.set_cons_succ]
              refine ready_one 11 (by kernel_rfl) ?_
              refine opH_list rfl ?_
              refine append_evs_at rfl (.tmp 32) (.tmp 34) 22 rfl N0 30 ie Tryz.underlying22 hie HIZ.out _ _ [(ye, .slice yo yn yc)] rfl (own_belowM (g1_own HG2.out (kf ye)) HBW.out) (fun q hq => by rw [List.mem_singleton.1 hq]; rfl) ⟨N9, 0, none⟩ 1 1 rfl rfl (evAt_one HEA.out) (by have := HGL.out (kf ye); simp; omega) (Nat.le_trans HG2.out.2.2.1 HBW.out.size) ?_
              rintro v3 w6 ho hg hloc
              have hHeld2 := evAt_grown hg HRW.out hHeld
              refine opH_end hHeld2 ?_
              replace hHeld := hHeld2
              clear hHeld2
              have HO3 := Lib.hid ho
              have HGR := Lib.hid hg
              have HLC := Lib.hid hloc
              have HBP := Lib.hid (Below.refl w6.heap.size w6)
              clear ho hg hloc
              simp only [Act.put, List.setIfInBounds_toArray, List.set_cons_zero, List.set_cons_succ]
              refine ready_one 12 (by kernel_rfl) ?_
              have HRM := Lib.hid (g1_map HG2.out (kf ye) HBW.out HGR.out HBP.out)
              refine opH_list rfl ?_
              refine wpList_put_raw rfl (.tmp 24) (.tmp 27) (.tmp 35) 87 9 22 rfl b i m HRM.out Tryz.underlying9 Tryz.underlying87 (by unfold maxLen; omega) rfl (kf ye) HPL.out rfl v3 rfl ?_
              rintro w7 hr hg
              obtain ⟨es, clock, hmm⟩ := rawM_is HRM.out
              refine opH_end (evAt_map hmm hg hHeld) ?_
              have HG3 := Lib.hid (g1_put HG2.out (kf ye) HBW.out HGR.out HO3.out HLC.out HBP.out hr hg)
              have hb8 := below_next (below_grown (below_next HB2.out HBW.out) HGR.out (Nat.le_trans HB2.out.size HBW.out.size) (fun k hk => Nat.le_of_lt (Nat.lt_of_le_of_lt HBN.out (HRB.out k hk)))) HBP.out
              have HB9 := Lib.hid (below_grown hb8 hg hb8.size (fun k hk => by cases hk; exact HBN.out))
              clear hr hg hmm hb8
              simp only [Act.put, List.setIfInBounds_toArray, List.set_cons_zero, List.set_cons_succ]
              refine wpAnyH_done (by kernel_rfl) ?_ _
              go_wp2
              go_roundw
              case rel => exact ⟨i + 1, _, _, hi1, by go_num, HG3.out, GS.out, KS.out _, HB9.out⟩
              case measure => simp [intOf] <;> omega
          · obtain ⟨N9, hN9⟩ : ∃ N, w3.heap.size = N := ⟨_, rfl⟩
            have HN9 := Lib.hid hN9
            clear hN9
            refine opH_list rfl ?_
            refine build_evM rfl 34 rfl (.tmp 33) rfl N9 HN9.out ye yo yn yc rfl ?_
            rintro w4 hEA hBA hNA
            refine opH_end (evAt_kept hHeld hBA) ?_
            replace hHeld := evAt_kept hHeld hBA
            replace HBW := Lib.hid (below_next HBW.out hBA)
            have HEA := Lib.hid hEA
            clear hEA hBA hNA
            simp only [Act.put, List.setIfInBounds_toArray, List.set_cons_zero, List.set_cons_succ]
            refine ready_one 7 (by kernel_rfl) ?_
            refine opH_call1 rfl (by rfl) F (.tmp 29) (.tmp 30) 30 rfl rfl (.agg (evC ye (.slice yo yn yc))) rfl HKF.out.2.1 _ (HKF.out.1 ye (.slice yo yn yc) _) ?_
            rintro x w5 ⟨rfl, hb⟩
            refine ⟨_, rfl, evAt_kept hHeld hb, ?_⟩
            replace hHeld := evAt_kept hHeld hb
            replace HBW := Lib.hid (below_next HBW.out hb)
            replace HEA := Lib.hid (evAt_kept HEA.out hb)
            clear hb
            simp only [Act.put, List.setIfInBounds_toArray, List.set_cons_zero, List.set_cons_succ]
            refine ready_one 8 (by kernel_rfl) ?_
            refine opH_list rfl ?_
            refine wpList_lookup_raw rfl (.tmp 28) (.tmp 31) 87 false rfl b rfl _ ((m (kf ye)).getD nilE) rfl (rawM_look (rawM_block HG2.out.1 (HBW.out.block b (rawM_lt HG2.out.1))) Tryz.underlying9 Tryz.underlying87 (map_zero _) _ HPL.out) ?_
            refine opH_end hHeld ?_
            simp only [Act.put, List.setIfInBounds_toArray, List.set_cons_zero, List.set_cons_succ]
            refine ready_one 11 (by kernel_rfl) ?_
            refine opH_list rfl ?_
            refine append_evs_at rfl (.tmp 32) (.tmp 34) 22 rfl N0 30 ie Tryz.underlying22 hie HIZ.out _ _ [(ye, .slice yo yn yc)] rfl (own_belowM (g1_own HG2.out (kf ye)) HBW.out) (fun q hq => by rw [List.mem_singleton.1 hq]; rfl) ⟨N9, 0, none⟩ 1 1 rfl rfl (evAt_one HEA.out) (by have := HGL.out (kf ye); simp; omega) (Nat.le_trans HG2.out.2.2.1 HBW.out.size) ?_
            rintro v3 w6 ho hg hloc
            have hHeld2 := evAt_grown hg HRW.out hHeld
            refine opH_end hHeld2 ?_
            replace hHeld := hHeld2
            clear hHeld2
            have HO3 := Lib.hid ho
            have HGR := Lib.hid hg
            have HLC := Lib.hid hloc
            have HBP := Lib.hid (Below.refl w6.heap.size w6)
            clear ho hg hloc
            simp only [Act.put, List.setIfInBounds_toArray, List.set_cons_zero, List.set_cons_succ]
            refine ready_one 12 (by kernel_rfl) ?_
            have HRM := Lib.hid (g1_map HG2.out (kf ye) HBW.out HGR.out HBP.out)
            refine opH_list rfl ?_
            refine wpList_put_raw rfl (.tmp 24) (.tmp 27) (.tmp 35) 87 9 22 rfl b i m HRM.out Tryz.underlying9 Tryz.underlying87 (by unfold maxLen; omega) rfl (kf ye) HPL.out rfl v3 rfl ?_
            rintro w7 hr hg
            obtain ⟨es, clock, hmm⟩ := rawM_is HRM.out
            refine opH_end (evAt_map hmm hg hHeld) ?_
            have HG3 := Lib.hid (g1_put HG2.out (kf ye) HBW.out HGR.out HO3.out HLC.out HBP.out hr hg)
            have hb8 := below_next (below_grown (below_next HB2.out HBW.out) HGR.out (Nat.le_trans HB2.out.size HBW.out.size) (fun k hk => Nat.le_of_lt (Nat.lt_of_le_of_lt HBN.out (HRB.out k hk)))) HBP.out
            have HB9 := Lib.hid (below_grown hb8 hg hb8.size (fun k hk => by cases hk; exact HBN.out))
            clear hr hg hmm hb8
            simp only [Act.put, List.setIfInBounds_toArray, List.set_cons_zero, List.set_cons_succ]
            refine wpAnyH_done (by kernel_rfl) ?_ _
            go_wp2
            go_roundw
            case rel => exact ⟨i + 1, _, _, hi1, by go_num, HG3.out, GS.out, KS.out _, HB9.out⟩
            case measure => simp [intOf] <;> omega
        · obtain ⟨N9, hN9⟩ : ∃ N, wd.heap.size = N := ⟨_, rfl⟩
          have HN9 := Lib.hid hN9
          clear hN9
          refine opH_list rfl ?_
          refine build_evM rfl 34 rfl (.tmp 33) rfl N9 HN9.out ye yo yn yc rfl ?_
          rintro w3 hEA hBA hNA
          refine opH_end (evAt_kept hHeld hBA) ?_
          replace hHeld := evAt_kept hHeld hBA
          replace HBW := Lib.hid (below_next HBW.out hBA)
          have HEA := Lib.hid hEA
          clear hEA hBA hNA
          simp only [Act.put, List.setIfInBounds_toArray, List.set_cons_zero, List.set_cons_succ]
          refine ready_one 3 (by kernel_rfl) ?_
          refine opH_call1 rfl (by rfl) F (.tmp 25) (.tmp 26) 30 rfl rfl (.agg (evC ye (.slice yo yn yc))) rfl HKF.out.2.1 _ (HKF.out.1 ye (.slice yo yn yc) _) ?_
          rintro x w4 ⟨rfl, hb⟩
          refine ⟨_, rfl, evAt_kept hHeld hb, ?_⟩
          replace hHeld := evAt_kept hHeld hb
          replace HBW := Lib.hid (below_next HBW.out hb)
          replace HEA := Lib.hid (evAt_kept HEA.out hb)
          clear hb
          simp only [Act.put, List.setIfInBounds_toArray, List.set_cons_zero, List.set_cons_succ]
          refine ready_one 7 (by kernel_rfl) ?_
          refine opH_call1 rfl (by rfl) F (.tmp 29) (.tmp 30) 30 rfl rfl (.agg (evC ye (.slice yo yn yc))) rfl HKF.out.2.1 _ (HKF.out.1 ye (.slice yo yn yc) _) ?_
          rintro x w5 ⟨rfl, hb⟩
          refine ⟨_, rfl, evAt_kept hHeld hb, ?_⟩
          replace hHeld := evAt_kept hHeld hb
          replace HBW := Lib.hid (below_next HBW.out hb)
          replace HEA := Lib.hid (evAt_kept HEA.out hb)
          clear hb
          simp only [Act.put, List.setIfInBounds_toArray, List.set_cons_zero, List.set_cons_succ]
          refine ready_one 8 (by kernel_rfl) ?_
          refine opH_list rfl ?_
          refine wpList_lookup_raw rfl (.tmp 28) (.tmp 31) 87 false rfl b rfl _ ((m (kf ye)).getD nilE) rfl (rawM_look (rawM_block HG2.out.1 (HBW.out.block b (rawM_lt HG2.out.1))) Tryz.underlying9 Tryz.underlying87 (map_zero _) _ HPL.out) ?_
          refine opH_end hHeld ?_
          simp only [Act.put, List.setIfInBounds_toArray, List.set_cons_zero, List.set_cons_succ]
          refine ready_one 11 (by kernel_rfl) ?_
          refine opH_list rfl ?_
          refine append_evs_at rfl (.tmp 32) (.tmp 34) 22 rfl N0 30 ie Tryz.underlying22 hie HIZ.out _ _ [(ye, .slice yo yn yc)] rfl (own_belowM (g1_own HG2.out (kf ye)) HBW.out) (fun q hq => by rw [List.mem_singleton.1 hq]; rfl) ⟨N9, 0, none⟩ 1 1 rfl rfl (evAt_one HEA.out) (by have := HGL.out (kf ye); simp; omega) (Nat.le_trans HG2.out.2.2.1 HBW.out.size) ?_
          rintro v3 w6 ho hg hloc
          have hHeld2 := evAt_grown hg HRW.out hHeld
          refine opH_end hHeld2 ?_
          replace hHeld := hHeld2
          clear hHeld2
          have HO3 := Lib.hid ho
          have HGR := Lib.hid hg
          have HLC := Lib.hid hloc
          have HBP := Lib.hid (Below.refl w6.heap.size w6)
          clear ho hg hloc
          simp only [Act.put, List.setIfInBounds_toArray, List.set_cons_zero, List.set_cons_succ]
          refine ready_one 12 (by kernel_rfl) ?_
          have HRM := Lib.hid (g1_map HG2.out (kf ye) HBW.out HGR.out HBP.out)
          refine opH_list rfl ?_
          refine wpList_put_raw rfl (.tmp 24) (.tmp 27) (.tmp 35) 87 9 22 rfl b i m HRM.out Tryz.underlying9 Tryz.underlying87 (by unfold maxLen; omega) rfl (kf ye) HPL.out rfl v3 rfl ?_
          rintro w7 hr hg
          obtain ⟨es, clock, hmm⟩ := rawM_is HRM.out
          refine opH_end (evAt_map hmm hg hHeld) ?_
          have HG3 := Lib.hid (g1_put HG2.out (kf ye) HBW.out HGR.out HO3.out HLC.out HBP.out hr hg)
          have hb8 := below_next (below_grown (below_next HB2.out HBW.out) HGR.out (Nat.le_trans HB2.out.size HBW.out.size) (fun k hk => Nat.le_of_lt (Nat.lt_of_le_of_lt HBN.out (HRB.out k hk)))) HBP.out
          have HB9 := Lib.hid (below_grown hb8 hg hb8.size (fun k hk => by cases hk; exact HBN.out))
          clear hr hg hmm hb8
          simp only [Act.put, List.setIfInBounds_toArray, List.set_cons_zero, List.set_cons_succ]
          refine wpAnyH_done (by kernel_rfl) ?_ _
          go_wp2
          go_roundw
          case rel => exact ⟨i + 1, _, _, hi1, by go_num, HG3.out, GS.out, KS.out _, HB9.out⟩
          case measure => simp [intOf] <;> omega
      · obtain rfl : i = n := by omega
        have q0 : ¬ (i : Int) < (i : Int) := by omega
        have HKA := Lib.hid (show KeysOf kf (us.map (·.1)) m by have h := HKS.out; rwa [List.take_of_length_le (by rw [List.length_map]; exact Nat.le_of_eq HN.out.symm)] at h)
        have HJA := Lib.hid (joinOf_start (ks := ks) HN.out HGO.out)
        have HGA := Lib.hid (g2_of HGG.out)
        have HBA := Lib.hid HB.out
        clear hi HGG HGO HKS HB HG0 BM
        rename World => WA
        go_wp2
        go_loopw [10, 39] (fun _ c wr => ∃ (j : Nat) (g : List UInt8 → List (Ev × Value)) (m : List UInt8 → Option Value), j ≤ nk ∧ c = .int .i64 (j : Int) ∧ G2 wr b (i + j) g m ∧ JoinOf kf us ks j g ∧ KeysOf kf (us.map (·.1) ++ (ks.map (·.1)).take j) m ∧ Below w.heap.size w wr) (fun _ c _ => nk - (intOf c).toNat)
        case atStart => exact ⟨0, g, m, Nat.zero_le _, rfl, HGA.out, HJA.out, by rw [List.take_zero, List.append_nil]; exact HKA.out, HBA.out⟩
        case round =>
          clear HGA HJA HKA HBA g m
          rename_i WA
          obtain ⟨j, g, m, hj, rfl, hgg, hgo, hks, hb⟩ := hrel
          have HGG := Lib.hid hgg
          have HJO := Lib.hid hgo
          have HKS := Lib.hid hks
          have HB := Lib.hid hb
          clear hgg hgo hks hb
          by_cases hjn : j < nk
          · have q0 : (j : Int) < (nk : Int) := by omega
            have q1 : (j : Int) < 50000 := by have := HL.out; omega
            have hj1 : j + 1 ≤ nk := hjn
            have hj5 : j < 50000 := by have := HL.out; omega
            obtain ⟨x, hx⟩ : ∃ x, ks[j]? = some x := ⟨_, List.getElem?_eq_getElem (by have := HNK.out; omega)⟩
            obtain ⟨ad, cap', e1, hcx⟩ := holdsU_at (holdsU_below HU.out HB.out) nk j HNK.out.symm x hx
            cases e1
            have hux := HE.out x (List.mem_of_getElem? hx)
            have hfx := HG.out x (List.mem_of_getElem? hx)
            have hex := fst_atM hx
            obtain ⟨ye, yv⟩ := x
            dsimp only at hcx hux hfx hex
            obtain ⟨yo, yc, rfl⟩ := dots_shape hux ye.deps.length rfl
            obtain ⟨yn, hyn⟩ : ∃ m, m = ye.deps.length := ⟨_, rfl⟩
            rw [← hyn] at hcx hx hux
            have HC := Lib.hid hcx
            have HYI := Lib.hid hx
            have HUX := Lib.hid (dots_below hux HB.out)
            have HFX := Lib.hid hfx
            have KS := Lib.hid (show ∀ v, KeysOf kf (us.map (·.1) ++ (ks.map (·.1)).take (j + 1)) (putM m (kf ye) v) from fun v => by rw [List.take_add_one, hex, ← List.append_assoc]; exact keys_step HKS.out)
            have HPL := Lib.hid (show (kf ye).length ≤ maxLen by have h1 := HKF.out.2.2 ye; have h2 := hfx.2.2.2; unfold maxLen; omega)
            have EGA := Lib.hid (show ∀ vs w, (callFunc 44 vs).run Tryz.prog w = .ok (.enter 44 vs) w from (enters_of Tryz.func44 (by kernel_rfl) rfl))
            clear hx hcx hux hfx hex hyn hj
            go_upto_region 12 with fail
            go_upto_region 13 with (first
              | (refine load_evA_on (by rfl) 30 (.tmp 41) rfl (ad.add (j * 38)) rfl Tryz.underlying30 evSize HC.out ?_)
              | (refine store_new rfl 30 (.tmp 10) (.tmp 42) rfl rfl wr _ (evC ye (.slice yo yn yc)) 30 rfl rfl rfl (by rw [evSize, evC_size]) (by rw [evC_size]; rfl) (evC_one _ _ rfl) ?_; rintro W2 hg hb hlt; have E2 := Lib.hid (show EvAt W2 wr.heap.size 30 ye (.slice yo yn yc) from hg); have C2 := Lib.hid hb; have HB2 := Lib.hid (below_next HB.out hb); clear hg hb hlt))
            have HG2 := Lib.hid (g2_below HGG.out C2.out)
            have HADD := Lib.hid (fun W (hW : Below W2.heap.size W2 W) => added_any (g (kf ye)) (by have := (HJO.out (kf ye)).2.2; have := HL.out; have := HN.out; omega) (fun z hz => ((HJO.out (kf ye)).2.1 z hz).elim (HF.out z) (HG.out z)) ye HFX.out ((m (kf ye)).getD nilE) (.slice yo yn yc) W (holdsU_below (g2_at HG2.out (kf ye)) hW) (fun z hz => dots_below (((HJO.out (kf ye)).2.1 z hz).elim (HD.out z) (HE.out z)) (below_next HB2.out hW)) (dots_below HUX.out (below_next C2.out hW)))
            refine wp_region_held_drew (S := fun w' => EvAt w' wr.heap.size 30 ye (.slice yo yn yc)) (by kernel_rfl) (show EvAt _ _ _ _ _ from E2.out) (fun hHeld => ?_)
            have HBW := Lib.hid (drawS (Below.refl W2.heap.size W2))
            generalize W2.drew = wd at hHeld HBW ⊢
            refine take_at (i := 0) 43 rfl rfl (by kernel_rfl) (by kernel_rfl) (by kernel_rfl) (fun _ _ _ h => h) (sure_yes (by rfl) (fun w => by go_simp; try with_reducible rfl)) hHeld ?_
            simp only [List.setIfInBounds_toArray, List.set_cons_zero, List.set_cons_succ]
            refine take_at (i := 1) 44 rfl rfl (by kernel_rfl) (by kernel_rfl) (by kernel_rfl) (fun _ _ _ h => h) (sure_yes (by rfl) (fun w => by go_simp; try with_reducible rfl)) hHeld ?_
            simp only [List.setIfInBounds_toArray, List.set_cons_zero, List.set_cons_succ]
            refine take_at (i := 4) 47 rfl rfl (by kernel_rfl) (by kernel_rfl) (by kernel_rfl) (fun _ _ _ h => h) (sure_yes (by rfl) (fun w => by go_simp; try with_reducible rfl)) hHeld ?_
            simp only [List.setIfInBounds_toArray, List.set_cons_zero, List.set_cons_succ]
            refine take_at (i := 5) 48 rfl rfl (by kernel_rfl) (by kernel_rfl) (by kernel_rfl) (fun _ _ _ h => h) (sure_yes (by rfl) (fun w => by go_simp; try with_reducible rfl)) hHeld ?_
            simp only [List.setIfInBounds_toArray, List.set_cons_zero, List.set_cons_succ]
            refine take_at (i := 2) 45 rfl rfl (by kernel_rfl) (by kernel_rfl) (by kernel_rfl) (fun _ _ _ h => h) (evA_yields (by rfl) 30 (.tmp 10) rfl ⟨wr.heap.size, 0, none⟩ rfl Tryz.underlying30 evSize (fun w h j u hu => by rw [Addr.add_lit, Nat.zero_add]; exact evAt_cell h j u hu)) hHeld ?_
            simp only [List.setIfInBounds_toArray, List.set_cons_zero, List.set_cons_succ]
            refine take_at (i := 6) 49 rfl rfl (by kernel_rfl) (by kernel_rfl) (by kernel_rfl) (fun _ _ _ h => h) (evA_yields (by rfl) 30 (.tmp 10) rfl ⟨wr.heap.size, 0, none⟩ rfl Tryz.underlying30 evSize (fun w h j u hu => by rw [Addr.add_lit, Nat.zero_add]; exact evAt_cell h j u hu)) hHeld ?_
            simp only [List.setIfInBounds_toArray, List.set_cons_zero, List.set_cons_succ]
            refine take_at (i := 9) 52 rfl rfl (by kernel_rfl) (by kernel_rfl) (by kernel_rfl) (fun _ _ _ h => h) (evA_yields (by rfl) 30 (.tmp 10) rfl ⟨wr.heap.size, 0, none⟩ rfl Tryz.underlying30 evSize (fun w h j u hu => by rw [Addr.add_lit, Nat.zero_add]; exact evAt_cell h j u hu)) hHeld ?_
            simp only [List.setIfInBounds_toArray, List.set_cons_zero, List.set_cons_succ]
            refine ready_one 3 (by kernel_rfl) ?_
            refine opH_call1 rfl (by rfl) F (.tmp 44) (.tmp 45) 30 rfl rfl (.agg (evC ye (.slice yo yn yc))) rfl HKF.out.2.1 _ (HKF.out.1 ye (.slice yo yn yc) _) ?_
            rintro x w3 ⟨rfl, hb⟩
            refine ⟨_, rfl, evAt_kept hHeld hb, ?_⟩
            replace hHeld := evAt_kept hHeld hb
            replace HBW := Lib.hid (below_next HBW.out hb)
            clear hb
            simp only [Act.put, List.setIfInBounds_toArray, List.set_cons_zero, List.set_cons_succ]
            refine ready_one 7 (by kernel_rfl) ?_
            refine opH_call1 rfl (by rfl) F (.tmp 48) (.tmp 49) 30 rfl rfl (.agg (evC ye (.slice yo yn yc))) rfl HKF.out.2.1 _ (HKF.out.1 ye (.slice yo yn yc) _) ?_
            rintro x w4 ⟨rfl, hb⟩
            refine ⟨_, rfl, evAt_kept hHeld hb, ?_⟩
            replace hHeld := evAt_kept hHeld hb
            replace HBW := Lib.hid (below_next HBW.out hb)
            clear hb
            simp only [Act.put, List.setIfInBounds_toArray, List.set_cons_zero, List.set_cons_succ]
            refine ready_one 8 (by kernel_rfl) ?_
            refine opH_list rfl ?_
            refine wpList_lookup_raw rfl (.tmp 47) (.tmp 50) 87 false rfl b rfl _ ((m (kf ye)).getD nilE) rfl (rawM_look (rawM_block HG2.out.1 (HBW.out.block b (rawM_lt HG2.out.1))) Tryz.underlying9 Tryz.underlying87 (map_zero _) _ HPL.out) ?_
            refine opH_end hHeld ?_
            simp only [Act.put, List.setIfInBounds_toArray, List.set_cons_zero, List.set_cons_succ]
            refine ready_one 10 (by kernel_rfl) ?_
            refine opH_call2 rfl (by rfl) 44 (.func 44) (.tmp 51) (.tmp 52) 22 30 rfl #[] rfl _ _ rfl rfl EGA.out _ (HADD.out _ HBW.out) ?_
            rintro x w5 ⟨y3, xs, rfl, hm, hz, -, hh, hb⟩
            refine ⟨_, rfl, evAt_kept hHeld hb, ?_⟩
            replace hHeld := evAt_kept hHeld hb
            replace HBW := Lib.hid (below_next HBW.out hb)
            have HM3 := Lib.hid hm
            have HZ3 := Lib.hid hz
            have HH3 := Lib.hid hh
            clear hm hz hh hb
            simp only [Act.put, List.setIfInBounds_toArray, List.set_cons_zero, List.set_cons_succ]
            refine ready_one 11 (by kernel_rfl) ?_
            have HGC := Lib.hid (g2_below HG2.out HBW.out)
            refine opH_list rfl ?_
            refine wpList_put_raw rfl (.tmp 43) (.tmp 46) (.tmp 53) 87 9 22 rfl b (i + j) m HGC.out.1 Tryz.underlying9 Tryz.underlying87 (by have := HL.out; unfold maxLen; omega) rfl (kf ye) HPL.out rfl y3 rfl ?_
            rintro w6 hr hg
            obtain ⟨es, clock, hmm⟩ := rawM_is HGC.out.1
            refine opH_end (evAt_map hmm hg hHeld) ?_
            have HG3 := Lib.hid (g2_put HGC.out (kf ye) HH3.out hr hg)
            have JS := Lib.hid (join_step HJO.out HYI.out HM3.out HZ3.out)
            have hb8 := below_next HB2.out HBW.out
            have HB9 := Lib.hid (below_grown hb8 hg hb8.size (fun k hk => by cases hk; exact HBN.out))
            clear hr hg hmm hb8
            simp only [Act.put, List.setIfInBounds_toArray, List.set_cons_zero, List.set_cons_succ]
            refine wpAnyH_done (by kernel_rfl) ?_ _
            go_wp2
            go_roundw
            case rel => exact ⟨j + 1, _, _, hj1, by go_num, HG3.out, JS.out, KS.out _, HB9.out⟩
            case measure => simp [intOf] <;> omega
          · obtain rfl : j = nk := by omega
            have q0 : ¬ (j : Int) < (j : Int) := by omega
            obtain ⟨D, hown, hnd, hmem, hsz, hlen⟩ := rawM_keys HGG.out.1 Tryz.underlying9
            have hkall : (ks.map (·.1)).take j = ks.map (·.1) := List.take_of_length_le (by rw [List.length_map]; exact Nat.le_of_eq HNK.out.symm)
            have HKA := Lib.hid (show KeysOf kf (us.map (·.1) ++ ks.map (·.1)) m by have h := HKS.out; rwa [hkall] at h)
            have HFG := Lib.hid (show (fun p => (g p).map (·.1)) = fun p => joinE (grpK kf (us.map (·.1)) p) (grpK kf (ks.map (·.1)) p) by funext p; have h := (HJO.out p).1; rwa [hkall] at h)
            have HJM := Lib.hid (fun p => (HJO.out p).2)
            have KK := Lib.hid (fun W => (callsIn_wide).1 (Tryz.maps_Keys_51 (some b) W))
            have SS := Lib.hid ((callsIn_wide).1 (Tryz.slices_Sorted_keys_50_51 b _ D rawR _ hown (by have := HL.out; unfold maxLen; omega) (by have := HL.out; omega)))
            have HOWN := Lib.hid hown
            have HLEN := Lib.hid hlen
            have HND := Lib.hid hnd
            have HMEM := Lib.hid hmem
            clear hown hnd hmem hsz hlen hkall HKS HJO hj
            rename World => WB
            go_upto_region 17 with (first
              | (go_at_call 51; refine (KK.out _).mono ?_; rintro x wk ⟨rfl, rfl⟩)
              | (go_at_call 50; refine SS.out.mono ?_; rintro x w3 ⟨sv, ss, rfl, hperm, hrow, -, hb⟩; have HPE := Lib.hid hperm; have HRO := Lib.hid hrow; have C3 := Lib.hid (below_next ((Below.refl WB.heap.size WB).alloc (Nat.le_refl _) _) hb); clear hperm hrow hb))
            obtain ⟨ps, hps⟩ : ∃ ps, ps = ss.mergeSort (fun x y => decide (x ≤ y)) := ⟨_, rfl⟩
            have hpp : ps.Perm ss := by rw [hps]; exact List.mergeSort_perm _ _
            have HPS := Lib.hid hps
            have HRI := Lib.hid (show ps.Pairwise fun a b => Op.bytesLess a b = true by rw [hps]; exact sorted_rises (HPE.out.nodup_iff.2 HND.out))
            have HPM := Lib.hid (show ∀ p, p ∈ ps ↔ ∃ e, (e ∈ us.map (·.1) ∨ e ∈ ks.map (·.1)) ∧ kf e = p from fun p => by
              rw [hpp.mem_iff, HPE.out.mem_iff, HMEM.out p, HKA.out p]
              simp only [List.mem_append])
            have HPLN := Lib.hid (show ∀ p ∈ ps, p.length ≤ maxLen from fun p hp => HLEN.out p (HPE.out.mem_iff.1 (hpp.mem_iff.1 hp)))
            have HFT := Lib.hid (HFL.out ps HRI.out HPM.out)
            rw [← HFG.out] at HFT
            have HTOT := Lib.hid (show ∀ a, ((ps.take a).flatMap fun p => (g p).map (·.1)).length ≤ 20000 from fun a => by
              have h1 := flat_take (fun p => (g p).map (·.1)) ps a
              rw [HFT.out] at h1
              have h2 := join_len (us.map (·.1)) (ks.map (·.1))
              rw [List.length_map, List.length_map] at h2
              have := HL.out; have := HN.out; have := HNK.out; omega)
            obtain ⟨sn, hsn⟩ : ∃ n, n = ps.length := ⟨_, rfl⟩
            have hsl : ss.length = sn := by rw [hsn]; exact hpp.length_eq.symm
            rw [hsl, ← hps] at HRO
            have HSN := Lib.hid hsn
            obtain ⟨so, sc, rfl⟩ := own_slice HRO.out
            have HG3 := Lib.hid (g2_below HGG.out C3.out)
            have HB3 := Lib.hid (below_next HB.out C3.out)
            have hsn5 : sn ≤ 50000 := by
              have h1 := HND.out
              have h2 : ss.length ≤ 40000 := by
                have h3 := HPE.out.length_eq
                have h4 : (strKeys D).length = Maps.size D := by obtain ⟨es, hD, -⟩ := HOWN.out.keysOf; subst hD; simp [strKeys, Maps.size]
                have h5 := HOWN.out.size_le
                have := HL.out; omega
              omega
            clear hps hpp hsn hsl HPE HMEM HKA HND HLEN HOWN HGG HB
            go_wp2
            go_loopw [11, 13, 59] (fun jv _ c wr => ∃ (a : Nat) (vs : List (Ev × Value)), a ≤ sn ∧ c = .int .i64 (a : Int) ∧ wr.ownsRow w3.heap.size EVT 38 jv vs.length (evsC vs) ∧ vs.map (·.1) = ((ps.take a).flatMap fun p => (g p).map (·.1)) ∧ (∀ z ∈ vs, z ∈ us ∨ z ∈ ks) ∧ Below w3.heap.size w3 wr) (fun _ _ c _ => sn - (intOf c).toNat)
            case atStart => exact ⟨0, [], Nat.zero_le _, rfl, World.ownsRow_nil _ _ _ _, rfl, (fun z hz => by cases hz), Below.refl _ _⟩
            case round =>
              obtain ⟨a, vs, ha, rfl, hown, hvm, hin, hb⟩ := hrel
              have HOW := Lib.hid hown
              have HVM := Lib.hid hvm
              have HIN := Lib.hid hin
              have HB := Lib.hid hb
              have HVL := Lib.hid (show vs.length ≤ 20000 by have h1 := congrArg List.length hvm; rw [List.length_map] at h1; rw [h1]; exact HTOT.out a)
              clear hown hvm hin hb
              by_cases has : a < sn
              · have q0 : (a : Int) < (sn : Int) := by omega
                have q1 : (a : Int) < 50000 := by omega
                have ha1 : a + 1 ≤ sn := has
                obtain ⟨p, hp⟩ : ∃ p, ps[a]? = some p := ⟨_, List.getElem?_eq_getElem (by have := HSN.out; omega)⟩
                obtain ⟨sa, sc', e1, hcs⟩ := row_str (own_belowM HRO.out HB.out) hp
                cases e1
                have HPI := Lib.hid hp
                have HPL := Lib.hid (HPLN.out p (List.mem_of_getElem? hp))
                have HGB := Lib.hid (g2_below HG3.out HB.out)
                clear hp ha
                go_upto_region 19 with fail
                go_upto_region 20 with (first
                  | (at_lookup; refine wpList_lookup_raw rfl (.tmp 64) (.tmp 65) 87 false rfl b rfl _ ((m p).getD nilE) rfl (rawM_look HGB.out.1 Tryz.underlying9 Tryz.underlying87 (map_zero _) _ HPL.out) ?_)
                  | (at_builtin; refine append_us rfl (.tmp 63) (.tmp 66) 22 rfl w3.heap.size 30 ie Tryz.underlying22 hie HIZ.out _ _ (g p) rfl HOW.out (fun y hy => dots_oneH (((HJM.out p).1 y hy).elim (HD.out y) (HE.out y))) _ rfl (g2_at HGB.out p) (by have := HVL.out; have := (HJM.out p).2; have := HL.out; have := HN.out; omega) HB.out.size ?_; rintro v5 W9 ho hg; have B9 := Lib.hid (below_grown HB.out hg HB.out.size (fun b hb => (HOW.out.lt b hb).1)); have O9 := Lib.hid ho; clear ho hg))
                go_wp2
                go_roundw
                case rel => exact ⟨a + 1, _, ha1, by go_num, O9.out, by rw [List.map_append, HVM.out, flat_snoc _ HPI.out], (fun z hz => (List.mem_append.1 hz).elim (HIN.out z) ((HJM.out p).1 z)), B9.out⟩
                case measure => simp [intOf] <;> omega
              · obtain rfl : a = sn := by omega
                have q0 : ¬ (a : Int) < (a : Int) := by omega
                have HALL := Lib.hid (show vs.map (·.1) = joinE (us.map (·.1)) (ks.map (·.1)) by have h := HVM.out; rw [List.take_of_length_le (by rw [HSN.out]; exact Nat.le_refl _)] at h; rw [h, HFT.out])
                have BW := Lib.hid (below_next HB3.out HB.out)
                have CP := Lib.hid (copied_any vs (by have := HVL.out; omega) (fun z hz => ((HIN.out z hz).elim (HF.out z) (HG.out z)).2.2.1) _ _ (own_holds HOW.out) (fun z hz => dots_below ((HIN.out z hz).elim (HD.out z) (HE.out z)) BW.out))
                rw [HALL.out] at CP
                go_wp2_with (first
                  | (go_at_call 43; refine CP.out.mono ?_; rintro x w9 ⟨y, rfl, hh, hb⟩; have HY := Lib.hid hh; have B9 := Lib.hid (below_next BW.out hb); clear hh hb))
                go_ret
                exact ⟨_, rfl, HY.out, B9.out⟩
end Go.Proofs.YtcdjkjadbhejpaaGreatDoor
namespace Go.Proofs.YtcdjkjadbhejpaaGreatDoor
open Go.RowKit
/-- A deed's cells. -/
def deedC (d : DeedT) : List Value := [.int .u8 (d.who : Int), .int .u8 (d.other : Int), .int .u8 (d.path : Int), .bool d.learns, .bool d.gone, .int .u8 (d.size : Int)]
/-- A slice value whose elements are these deeds. -/
def HasDeeds (w : World) (v : Value) (l : List DeedT) : Prop :=
  ∃ ao cap, v = .slice ao l.length cap ∧ (ao = none → l = [] ∧ cap = 0) ∧ ∀ ad, ao = some ad → l.length ≤ cap ∧ ∀ i d, l[i]? = some d → ∀ j u, (deedC d)[j]? = some u → w.cell? (ad.add (i * 6 + j)) = some u
theorem deeds_nil (w : World) : HasDeeds w (.slice none 0 0) [] := ⟨none, 0, rfl, fun _ => ⟨rfl, rfl⟩, fun _ h => by cases h⟩
theorem deeds_below {w w' : World} {v : Value} {l : List DeedT} (h : HasDeeds w v l) (hb : Below w.heap.size w w') : HasDeeds w' v l := by
  obtain ⟨ao, cap, rfl, hnil, hc⟩ := h
  refine ⟨ao, cap, rfl, hnil, fun ad had => ⟨(hc ad had).1, fun i d hi j u hu => ?_⟩⟩
  have h1 := (hc ad had).2 i d hi j u hu
  exact (World.cell?_of_block (hb.block (ad.add (i * 6 + j)).block (World.block_lt_of_cell? w _ h1))).trans h1
theorem deeds_shape {w : World} {v : Value} {l : List DeedT} (h : HasDeeds w v l) (n : Nat) (hn : n = l.length) : ∃ ao cap, v = .slice ao n cap := by
  obtain ⟨ao, cap, rfl, -⟩ := h
  exact ⟨ao, cap, by rw [hn]⟩
end Go.Proofs.YtcdjkjadbhejpaaGreatDoor
