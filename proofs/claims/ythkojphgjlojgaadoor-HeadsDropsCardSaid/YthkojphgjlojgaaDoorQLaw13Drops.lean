/-
The walk of the statement on what is dropped.
-/
import Derived.Test.YthkojphgjlojgaaDoorPk10
namespace Go.Proofs.YthkojphgjlojgaaDoor
open Go.RowKit
theorem int_yieldsA {P : Program} {ops : Array Oper} {S : World → Prop} {o : Oper} {a : Act} (hw : Region.wanted o (yielded ops a.tmps) = true) (ty : TypeId) (x : Operand) (ho : o.op = .load ty x)
    (A : Addr) (hx : a.eval x = .pointer (some A)) (k : IntKind) (z : Int) (hu : P.underlying ty = some (.int k)) (hS : ∀ w, S w → w.cell? A = some (.int k z)) : YieldsIf P ops S o (.int k z) a :=
  .inl ⟨hw, fun w h => by
    have hc := hS w h
    unfold execOp
    simp [ho, hx, Instr.loadAt, Instr.sureAddr, loadVar, isAgg, run_underlying hu, hc]⟩
theorem mem_ofN {n : Nat → Int} {a : Nat} (h : 0 < n a) : ∀ m, a < m → ((a : Int), n a) ∈ ofN n m
  | 0, ha => absurd ha (Nat.not_lt_zero a)
  | m + 1, ha => by
    rw [ofN, List.mem_append]
    rcases Nat.lt_or_ge a m with h1 | h1
    · exact .inl (mem_ofN h m h1)
    · obtain rfl : a = m := by omega
      exact .inr (by rw [if_pos h]; simp)
theorem firstV_ofN {n : Nat → Int} {m a : Nat} (h0 : 0 ≤ n a) (ha : a < m) : firstV (ofN n m) (a : Int) = n a := by
  unfold firstV
  cases hf : (ofN n m).find? (fun d => decide (d.1 = (a : Int))) with
  | some d =>
    have h1 := List.find?_some hf
    obtain ⟨i, hi, rfl, hp⟩ := ofN_mem (List.mem_of_find?_eq_some hf)
    simp only [decide_eq_true_eq] at h1
    obtain rfl : i = a := by omega
    rfl
  | none =>
    by_cases hp : 0 < n a
    · have := List.find?_eq_none.1 hf _ (mem_ofN hp m ha)
      simp at this
    · show (0 : Int) = n a
      omega
theorem firstV_vec {k : List D2} (hm : mayV k = true) {a : Nat} (ha : a < 32) : firstV k (a : Int) = allV k a := by
  have hk : k = ofN (allV k) 32 := eq_of_beq hm
  have h1 := firstV_ofN (n := allV k) (m := 32) (a := a) (allV_bd k a).1 ha
  rw [← hk] at h1
  exact h1
theorem insL_len (l : List Ev) (e : Ev) : (insL l e).length = l.length + 1 := by
  rw [insL_place]
  simp only [List.length_append, List.length_take, List.length_cons, List.length_drop]
  omega
theorem lastTo_few (l : List Ev) : ∀ i, (lastTo l i).length ≤ i
  | 0 => Nat.le_refl _
  | i + 1 => by
    have h := lastTo_few l i
    show (match l[i]? with | some e => if lastIs l i e then insL (lastTo l i) e else lastTo l i | none => lastTo l i).length ≤ i + 1
    cases l[i]? with
    | none => exact Nat.le_succ_of_le h
    | some e =>
      show (if lastIs l i e then insL (lastTo l i) e else lastTo l i).length ≤ i + 1
      split
      · rw [insL_len]; omega
      · omega
theorem last_few (l : List Ev) : (lastE l).length ≤ l.length := lastTo_few l l.length
def goneD (k : List D2) (e : Ev) : Bool := decide (e.kind = 2) && hasV k e.r e.q
def keepD (k : List D2) (l : List Ev) : List Ev := l.filter fun e => !goneD k e
theorem gone_seq {h : Hist} {n : Nat} (H : InvH h n) {k : List D2} (hm : mayV k = true) {e : Ev} (he : e ∈ h.out) : decide (e.q ≤ firstV k e.r) = hasV k e.r e.q := by
  obtain ⟨-, -, a, ha, er, e1, -⟩ := H.evs e he
  rw [Bool.eq_iff_iff, decide_eq_true_eq, hasV_eq, er, firstV_vec hm (by omega)]
  constructor
  · intro hq; exact ⟨a, by omega, rfl, e1, hq⟩
  · rintro ⟨i, -, hi, -, hq⟩
    obtain rfl : i = a := by omega
    exact hq
theorem keep_at {k : List D2} {l : List Ev} {i : Nat} {e : Ev} (he : l[i]? = some e) (hg : goneD k e = false) : (keepD k l)[(keepD k (l.take i)).length]? = some e ∧ keepD k (l.take (i + 1)) = keepD k (l.take i) ++ [e] := by
  have h1 : keepD k (l.take (i + 1)) = keepD k (l.take i) ++ [e] := by
    unfold keepD
    rw [List.take_add_one, he, List.filter_append]
    simp [hg]
  refine ⟨?_, h1⟩
  have h2 : keepD k l = keepD k (l.take (i + 1)) ++ keepD k (l.drop (i + 1)) := by
    unfold keepD; rw [← List.filter_append, List.take_append_drop]
  rw [h2, h1, List.append_assoc, List.getElem?_append_right (Nat.le_refl _), Nat.sub_self]
  rfl
theorem keep_gone {k : List D2} {l : List Ev} {i : Nat} {e : Ev} (he : l[i]? = some e) (hg : goneD k e = true) : keepD k (l.take (i + 1)) = keepD k (l.take i) := by
  unfold keepD
  rw [List.take_add_one, he, List.filter_append]
  simp [hg]
theorem keep_twice (k : List D2) (l : List Ev) : keepD k (keepD k l) = keepD k l := by
  unfold keepD; rw [List.filter_filter]; simp
theorem keep_none (l : List Ev) : keepD [] l = l := by
  unfold keepD
  rw [List.filter_eq_self]
  intro e _
  have : hasV [] e.r e.q = false := by
    cases h : hasV [] e.r e.q with
    | false => rfl
    | true =>
      obtain ⟨i, -, -, h1, h2⟩ := (hasV_eq _ _ _).1 h
      rw [allV_nil] at h2; omega
  simp [goneD, this]
theorem keep_heads {k : List D2} {l : List Ev} (H : Heads l) : Heads (keepD k l) := heads_sub H List.filter_sublist
theorem heads_hist {h : Hist} {n : Nat} (H : InvH h n) : Heads (lastE h.out) := heads_of (good_hist H) (may_hist H) (lastE_heads (good_hist H))
theorem last_sub {h : Hist} {n : Nat} (H : InvH h n) {e : Ev} (he : e ∈ lastE h.out) : e ∈ h.out := (((lastE_heads (good_hist H)).2 e).1 he).1
theorem hist_fit {h : Hist} {n : Nat} (H : InvH h n) {e : Ev} (he : e ∈ h.out) : FitE e := by
  have h1 := may_hist H e he
  obtain ⟨i, hi, rfl⟩ := List.mem_iff_getElem.1 he
  obtain ⟨-, -, a, ha, er, e1, e2, -⟩ := H.evs _ he
  have hb := allV_bd (h.know a) a
  have hd : (h.out[i]).deps.length < 2000000 := by
    have hm : mayV (h.out[i]).deps = true := by
      unfold mayE knownE at h1
      simp only [Bool.and_eq_true] at h1
      exact h1.2.1.1
    have := rising_length hm; omega
  have hp : (h.out[i]).path.length < 1152921504606846976 := by
    unfold mayE at h1
    simp only [Bool.and_eq_true] at h1
    have := ((own_iff _).1 h1.2.2.1).2.2.1; omega
  exact ⟨by unfold I64; omega, by unfold I64; omega, hd, hp⟩
set_option maxRecDepth 100000 in
set_option maxHeartbeats 16000000 in
theorem headsDrops_walk (l : List DeedT) (hs : ∀ x ∈ l, x.who < 256 ∧ x.other < 256 ∧ x.path < 256 ∧ x.size < 256) (who : Nat) (hwho : who < 256) (v : Value) (w : World) (hv : HasDeeds w v l) (hT : PowTab w) : Calls Tryd.prog 5 #[v, .int .u8 (who : Int)] w fun x w' => x = .returned (.bool true) ∧ Below w.heap.size w w' := by
  have HT := Lib.hid hT
  have HV := Lib.hid hv
  have HI := Lib.hid (fun v w hv => history_any l hs v w hv)
  obtain ⟨nn, hinv⟩ := inv_hist l (fun x hx => (hs x hx).2.2.2)
  have HIN := Lib.hid hinv
  obtain ⟨j, hj⟩ : ∃ j, j = who % 3 := ⟨_, rfl⟩
  have hj3 : j < 3 := by omega
  have q3 : (j : Int) < 3 := by omega
  obtain ⟨wa, ta, ea⟩ := deed_nums who 3 hwho
  rw [← hj] at ta ea
  have ta' : (who : Int).tmod 3 = (j : Int) := ta
  have ea' : (who : Int) % 3 = (j : Int) := ea
  have HLK := Lib.hid (show ((histN l).know j).length < 2000000 from by have := rising_length (hinv.vec j hj3); omega)
  have HMK := Lib.hid (hinv.vec j hj3)
  clear hv hT hs hinv ta ea hj hwho
  go_enter Tryd.func5, Tryd.ntmps5
  go_upto_region 3 with (first
    | (go_at_call 11; refine (awake13_any _ HT.out).mono ?_; rintro x w1 ⟨rfl, hb⟩; have B1 := Lib.hid hb; clear hb)
    | (go_at_call 7; refine (HI.out _ _ (deeds_below HV.out B1.out)).mono ?_; rintro x w2 ⟨vo, a, rfl, he, ha, hb⟩; have B2 := Lib.hid (below_next B1.out hb); have HE2 := Lib.hid he; have HK2 := Lib.hid (ha j hj3).1; have HA1 := Lib.hid (show (#[a 0, a 1, a 2] : Array Value).all (·.oneCell') = true by
        obtain ⟨x0, y0, e0⟩ := dots_shape (ha 0 (by omega)).1 _ rfl
        obtain ⟨x1, y1, e1⟩ := dots_shape (ha 1 (by omega)).1 _ rfl
        obtain ⟨x2, y2, e2⟩ := dots_shape (ha 2 (by omega)).1 _ rfl
        rw [e0, e1, e2]; simp [Value.oneCell']); clear hb he ha)
    | (refine store_new rfl 27 (.tmp 7) (.tmp 19) rfl rfl w2 _ #[a 0, a 1, a 2] 27 rfl rfl rfl (by kernel_rfl) rfl HA1.out ?_; rintro W3 hg hb hlt; have HV3 := Lib.hid (evs_below HE2.out hb); have B3 := Lib.hid (below_next B2.out hb); have HT3 := Lib.hid (powTab_below HT.out (below_next B2.out hb)); have HK3 := Lib.hid (dots_below HK2.out hb); have HG3 := Lib.hid hg; clear hg hb hlt))
  obtain ⟨us, hus, hdu, hhu⟩ := u_of_evs HV3.out
  have HUS := Lib.hid hus
  have hul : us.length ≤ 40 := by have := congrArg List.length hus; rw [List.length_map] at this; rw [this]; exact hist_len l 40
  have HFU := Lib.hid (show ∀ x ∈ us, FitE x.1 from fun x hx => hist_fit HIN.out (by rw [← hus]; exact List.mem_map_of_mem hx))
  have LS := Lib.hid (last_any13 us (by omega) (fun x hx => (HFU.out x hx).2.2.1) vo W3 hhu hdu)
  rw [hus] at LS
  have HDU := Lib.hid hdu
  clear hhu hdu hus
  go_upto_region 4 with (first
    | (go_at_call 18; refine LS.out.mono ?_; rintro x W4 ⟨hv4, hs4, rfl, hh4, hm4, he4, hb⟩; have B4 := Lib.hid hb; have HH4 := Lib.hid hh4; have HM4 := Lib.hid hm4; have HE4 := Lib.hid he4; clear hb hh4 hm4 he4))
  obtain ⟨kv, hkv⟩ : ∃ z, a j = z := ⟨_, rfl⟩
  have HC := Lib.hid (show W4.cell? ⟨w2.heap.size, j, none⟩ = some kv from by
    have h1 := (B4.out.block w2.heap.size (Array.getElem?_eq_some_iff.1 HG3.out).1).trans HG3.out
    simp only [World.cell?, h1]
    rw [← hkv]
    match j, hj3 with
    | 0, _ => rfl
    | 1, _ => rfl
    | 2, _ => rfl)
  have hk4 := dots_below HK3.out B4.out
  rw [hkv] at hk4
  obtain ⟨ko, kc, hks⟩ := dots_shape hk4 _ rfl
  obtain ⟨kl, hkl⟩ : ∃ z, (histN l).know j = z := ⟨_, rfl⟩
  rw [hkl] at hk4 hks HLK HMK
  obtain ⟨kn, hkn⟩ : ∃ z, kl.length = z := ⟨_, rfl⟩
  rw [hkn] at hks
  subst hks
  have HK4 := Lib.hid hk4
  have hC := HC.out
  obtain ⟨m, hm⟩ : ∃ m, m = hs4.length := ⟨_, rfl⟩
  obtain ⟨ho, hc, rfl⟩ := holdsU_shape HH4.out m hm
  have HMN := Lib.hid hm.symm
  have hm40 : m ≤ 40 := by
    have h1 : (lastE (histN l).out).length ≤ (histN l).out.length := last_few _
    have h2 : (histN l).out.length ≤ 40 := hist_len l 40
    rw [← HE4.out, List.length_map] at h1
    omega
  have HD4 := Lib.hid (show DepsU W4 hs4 from fun x hx => dots_below (HDU.out x (HM4.out x hx)) B4.out)
  have HF4 := Lib.hid (show FitU hs4 from fun x hx => HFU.out x (HM4.out x hx))
  have DP := Lib.hid (drop_any hs4 (by omega) (fun x hx => (HF4.out x hx).2.2.1) kl HLK.out (.slice ho m hc) (.slice ko kn kc) W4 HH4.out HD4.out HK4.out)
  rw [HE4.out] at DP
  clear hk4 hkl hkn hm hkv
  go_upto_region 6 with (first
    | (go_at_call 19; refine DP.out.mono ?_; rintro x W5 ⟨xv, rfl, he5, hb⟩; have HX5 := Lib.hid (show HasEvs W5 xv (keepD kl (lastE (histN l).out)) from he5); have B5 := Lib.hid hb; clear hb he5))
  obtain ⟨xs, hxs, hdx, hhx⟩ := u_of_evs HX5.out
  obtain ⟨L, hL⟩ : ∃ z, z = lastE (histN l).out := ⟨_, rfl⟩
  have HGN := Lib.hid (fun e (he : e ∈ lastE (histN l).out) => gone_seq HIN.out HMK.out (last_sub HIN.out he))
  have HFL := Lib.hid (fun e (he : e ∈ lastE (histN l).out) => hist_fit HIN.out (last_sub HIN.out he))
  have HHL := Lib.hid (heads_hist HIN.out)
  rw [← hL] at HE4 hxs HGN HFL HHL
  clear hL
  obtain ⟨xn, hxn⟩ : ∃ z, z = xs.length := ⟨_, rfl⟩
  obtain ⟨xo, xc, rfl⟩ := holdsU_shape hhx xn hxn
  have HXS := Lib.hid hxs
  have HDX := Lib.hid hdx
  have HHX := Lib.hid hhx
  have HXN := Lib.hid hxn
  have hmL : L.length = m := by have := congrArg List.length HE4.out; rw [List.length_map, HMN.out] at this; exact this.symm
  have hxK : (keepD kl L).length = xn := by have := congrArg List.length hxs; rw [List.length_map] at this; omega
  have hx40 : xn ≤ 40 := by have : (keepD kl L).length ≤ L.length := List.length_filter_le _ _; omega
  have HML := Lib.hid hmL
  have HXK := Lib.hid hxK
  have HFX := Lib.hid (show FitU xs from fun x hx => HFL.out x.1 (List.mem_filter.1 (show x.1 ∈ keepD kl L by rw [← show xs.map (·.1) = keepD kl L from hxs]; exact List.mem_map_of_mem hx)).1)
  have HH5 := Lib.hid (holdsU_below HH4.out B5.out)
  have HD5 := Lib.hid (depsU_below HD4.out B5.out)
  have HK5 := Lib.hid (dots_below HK4.out B5.out)
  have BW5 := Lib.hid (below_next B3.out (below_next B4.out B5.out))
  have HT5 := Lib.hid (powTab_below HT3.out (below_next B4.out B5.out))
  clear hxs hdx hhx hxn hmL hxK hC
  go_wp2
  go_loopw [11, 12, 13] (fun c i _ wr => ∃ p : Nat, p ≤ m ∧ i = .int .i64 (p : Int) ∧ c = .int .i64 ((keepD kl (L.take p)).length : Int) ∧ Below W5.heap.size W5 wr) (fun _ i _ _ => m - (intOf i).toNat)
  case atStart => exact ⟨0, Nat.zero_le _, rfl, by simp [keepD], Below.refl _ _⟩
  case round =>
    obtain ⟨i, hi, rfl, rfl, hb⟩ := hrel
    have HB := Lib.hid hb
    clear hb
    by_cases him : i < m
    · have q0 : (i : Int) < (m : Int) := by omega
      have hi1 : i + 1 ≤ m := him
      obtain ⟨x, hx⟩ : ∃ x, hs4[i]? = some x := ⟨_, List.getElem?_eq_getElem (by have := HMN.out; omega)⟩
      obtain ⟨hd, hc', e1, hcx⟩ := holdsU_at HH5.out m i HMN.out x hx
      cases e1
      have hux := HD5.out x (List.mem_of_getElem? hx)
      have hex := fst_atM hx
      rw [HE4.out] at hex
      obtain ⟨e, u⟩ := x
      dsimp only at hcx hux hex
      have CE := Lib.hid hcx
      have HUV := Lib.hid hux
      have HEI := Lib.hid hex
      have hmem := List.mem_of_getElem? hex
      have hfe := HFL.out e hmem
      have SQ := Lib.hid (fun w hv => seq_any13 kl HLK.out e.r (.slice ko kn kc) w hv)
      have hgn := HGN.out e hmem
      obtain ⟨sq, hsq⟩ : ∃ z, firstV kl e.r = z := ⟨_, rfl⟩
      rw [hsq] at SQ hgn
      obtain ⟨c, hcc⟩ : ∃ z, z = (keepD kl (L.take i)).length := ⟨_, rfl⟩
      rw [← hcc]
      have HCC := Lib.hid hcc
      have hc40 : c ≤ 40 := by have : (keepD kl (L.take i)).length ≤ (L.take i).length := List.length_filter_le _ _; rw [List.length_take] at this; omega
      have KEEP := Lib.hid (show goneD kl e = false → ∃ (xd : Addr) (xc' : Nat) (xv : Value), xo = some xd ∧ (∀ j u, (evC e xv)[j]? = some u → W5.cell? ((xd.add (c * 38)).add j) = some u) ∧ HasDots W5 xv e.deps ∧ c < xn from fun hg => by
        obtain ⟨h1, -⟩ := keep_at HEI.out hg
        rw [← hcc, ← HXS.out, List.getElem?_map] at h1
        cases hy : xs[c]? with
        | none => rw [hy] at h1; cases h1
        | some y =>
          rw [hy] at h1
          obtain ⟨ye, yv⟩ := y
          have h2 : ye = e := Option.some.inj h1
          subst h2
          obtain ⟨xd, xc', e2, hcy⟩ := holdsU_at HHX.out xn c HXN.out.symm _ hy
          simp only [Value.slice.injEq] at e2
          exact ⟨xd, xc', yv, e2.1, hcy, HDX.out _ (List.mem_of_getElem? hy), by have := (List.getElem?_eq_some_iff.1 hy).1; have := HXN.out; omega⟩)
      have KLEN := Lib.hid (show goneD kl e = false → ((keepD kl (L.take (i + 1))).length : Int) = (c : Int) + 1 from fun hg => by
        rw [(keep_at HEI.out hg).2, List.length_append, ← hcc]; simp)
      have HFD := Lib.hid hfe.2.2.1
      clear hx hcx hux hex hmem hfe hsq hcc hi
      by_cases hk2 : e.kind = 2
      · have q5 : (e.kind == 2) = true := by simp [hk2]
        have q6 : decide (e.kind = 2) = true := by simp [hk2]
        cases hgd : hasV kl e.r e.q with
        | true =>
          have HGO := Lib.hid (show goneD kl e = true by simp [goneD, hk2, hgd])
          rw [hgd] at hgn
          clear hk2 hgd
          go_upto_region 10 with fail
          refine wp_region_held_drew (S := fun w' => Below W5.heap.size W5 w') (by kernel_rfl) (drawS HB.out) (fun hHeld => ?_)
          generalize wr.drew = wd at hHeld ⊢
          refine take_at (i := 0) 36 rfl rfl (by kernel_rfl) (by kernel_rfl) (by kernel_rfl) (fun _ _ _ h => h) (sure_yes (by rfl) (fun w => by go_simp; try with_reducible rfl)) hHeld ?_
          simp only [List.setIfInBounds_toArray, List.set_cons_zero, List.set_cons_succ]
          refine take_at (i := 1) 37 rfl rfl (by kernel_rfl) (by kernel_rfl) (by kernel_rfl) (fun _ _ _ h => h) (sure_yes (by rfl) (fun w => by go_simp; try with_reducible rfl)) hHeld ?_
          simp only [List.setIfInBounds_toArray, List.set_cons_zero, List.set_cons_succ]
          refine take_at (i := 2) 38 rfl rfl (by kernel_rfl) (by kernel_rfl) (by kernel_rfl) (fun _ _ _ h => h) (sure_yes (by rfl) (fun w => by go_simp; try with_reducible rfl)) hHeld ?_
          simp only [List.setIfInBounds_toArray, List.set_cons_zero, List.set_cons_succ]
          refine take_at (i := 3) 39 rfl rfl (by kernel_rfl) (by kernel_rfl) (by kernel_rfl) (fun _ _ _ h => h) (sure_yes (by rfl) (fun w => by go_simp; try with_reducible rfl)) hHeld ?_
          simp only [List.setIfInBounds_toArray, List.set_cons_zero, List.set_cons_succ]
          refine take_at (i := 4) 40 rfl rfl (by kernel_rfl) (by kernel_rfl) (by kernel_rfl) (fun _ _ _ h => h) (int_yieldsA (by rfl) 3 (.tmp 39) rfl ⟨(hd.add (i * 38)).block, (hd.add (i * 38)).off + 3, none⟩ rfl .i64 e.kind Tryd.underlying3 (fun w h => cell_under12 (ev_fieldM CE.out 3 (by decide) _ (evC_at _ _).2.2.2.1) h)) hHeld ?_
          simp only [List.setIfInBounds_toArray, List.set_cons_zero, List.set_cons_succ]
          refine take_at (i := 5) 41 rfl rfl (by kernel_rfl) (by kernel_rfl) (by kernel_rfl) (fun _ _ _ h => h) (sure_yes (by rfl) (fun w => by go_simp; try with_reducible rfl)) hHeld ?_
          simp only [List.setIfInBounds_toArray, List.set_cons_zero, List.set_cons_succ]
          refine take_at (i := 6) 42 rfl rfl (by kernel_rfl) (by kernel_rfl) (by kernel_rfl) (fun _ _ _ h => h) (sure_yes (by rfl) (fun w => by go_simp; try with_reducible rfl)) hHeld ?_
          simp only [List.setIfInBounds_toArray, List.set_cons_zero, List.set_cons_succ]
          refine take_at (i := 7) 43 rfl rfl (by kernel_rfl) (by kernel_rfl) (by kernel_rfl) (fun _ _ _ h => h) (sure_yes (by rfl) (fun w => by go_simp; try with_reducible rfl)) hHeld ?_
          simp only [List.setIfInBounds_toArray, List.set_cons_zero, List.set_cons_succ]
          refine take_at (i := 8) 44 rfl rfl (by kernel_rfl) (by kernel_rfl) (by kernel_rfl) (fun _ _ _ h => h) (sure_yes (by rfl) (fun w => by go_simp; try with_reducible rfl)) hHeld ?_
          simp only [List.setIfInBounds_toArray, List.set_cons_zero, List.set_cons_succ]
          refine take_at (i := 9) 45 rfl rfl (by kernel_rfl) (by kernel_rfl) (by kernel_rfl) (fun _ _ _ h => h) (sure_yes (by rfl) (fun w => by go_simp; try with_reducible rfl)) hHeld ?_
          simp only [List.setIfInBounds_toArray, List.set_cons_zero, List.set_cons_succ]
          refine take_at (i := 10) 46 rfl rfl (by kernel_rfl) (by kernel_rfl) (by kernel_rfl) (fun _ _ _ h => h) (sure_yes (by rfl) (fun w => by go_simp; try with_reducible rfl)) hHeld ?_
          simp only [List.setIfInBounds_toArray, List.set_cons_zero, List.set_cons_succ]
          refine take_at (i := 11) 47 rfl rfl (by kernel_rfl) (by kernel_rfl) (by kernel_rfl) (fun _ _ _ h => h) (sure_yes (by rfl) (fun w => by go_simp; try with_reducible rfl)) hHeld ?_
          simp only [List.setIfInBounds_toArray, List.set_cons_zero, List.set_cons_succ]
          refine take_at (i := 13) 49 rfl rfl (by kernel_rfl) (by kernel_rfl) (by kernel_rfl) (fun _ _ _ h => h) (sure_yes (by rfl) (fun w => by go_simp; try with_reducible rfl)) hHeld ?_
          simp only [List.setIfInBounds_toArray, List.set_cons_zero, List.set_cons_succ]
          refine take_at (i := 14) 50 rfl rfl (by kernel_rfl) (by kernel_rfl) (by kernel_rfl) (fun _ _ _ h => h) (sure_yes (by rfl) (fun w => by go_simp; try with_reducible rfl)) hHeld ?_
          simp only [List.setIfInBounds_toArray, List.set_cons_zero, List.set_cons_succ]
          refine take_at (i := 15) 51 rfl rfl (by kernel_rfl) (by kernel_rfl) (by kernel_rfl) (fun _ _ _ h => h) (sure_yes (by rfl) (fun w => by go_simp; try with_reducible rfl)) hHeld ?_
          simp only [List.setIfInBounds_toArray, List.set_cons_zero, List.set_cons_succ]
          refine take_at (i := 16) 52 rfl rfl (by kernel_rfl) (by kernel_rfl) (by kernel_rfl) (fun _ _ _ h => h) (sure_yes (by rfl) (fun w => by go_simp; try with_reducible rfl)) hHeld ?_
          simp only [List.setIfInBounds_toArray, List.set_cons_zero, List.set_cons_succ]
          refine take_at (i := 17) 53 rfl rfl (by kernel_rfl) (by kernel_rfl) (by kernel_rfl) (fun _ _ _ h => h) (sure_yes (by rfl) (fun w => by go_simp; try with_reducible rfl)) hHeld ?_
          simp only [List.setIfInBounds_toArray, List.set_cons_zero, List.set_cons_succ]
          refine take_at (i := 18) 54 rfl rfl (by kernel_rfl) (by kernel_rfl) (by kernel_rfl) (fun _ _ _ h => h) (sure_yes (by rfl) (fun w => by go_simp; try with_reducible rfl)) hHeld ?_
          simp only [List.setIfInBounds_toArray, List.set_cons_zero, List.set_cons_succ]
          refine take_at (i := 12) 48 rfl rfl (by kernel_rfl) (by kernel_rfl) (by kernel_rfl) (fun _ _ _ h => h) (int_yieldsA (by rfl) 2 (.tmp 47) rfl ⟨(hd.add (i * 38)).block, (hd.add (i * 38)).off + 1, none⟩ rfl .i64 e.q Tryd.underlying2 (fun w h => cell_under12 (ev_fieldM CE.out 1 (by decide) _ (evC_at _ _).2.1) h)) hHeld ?_
          simp only [List.setIfInBounds_toArray, List.set_cons_zero, List.set_cons_succ]
          refine take_at (i := 19) 55 rfl rfl (by kernel_rfl) (by kernel_rfl) (by kernel_rfl) (fun _ _ _ h => h) (int_yieldsA (by rfl) 3 (.tmp 54) rfl (hd.add (i * 38)) rfl .i64 e.r Tryd.underlying3 (fun w h => cell_under12 (ev_field0L CE.out _ (evC_at _ _).1) h)) hHeld ?_
          simp only [List.setIfInBounds_toArray, List.set_cons_zero, List.set_cons_succ]
          refine ready_call2 20 56 (by kernel_rfl) rfl rfl (by rfl) 20 (.tmp 49) (.tmp 55) 26 3 rfl (.slice ko kn kc) (.int .i64 e.r) rfl rfl (enters_of Tryd.func20 (by kernel_rfl) rfl) _ (SQ.out _ (dots_below HK5.out hHeld)) (fun x wz hp => ?_)
          obtain ⟨rfl, hb⟩ := hp
          refine ⟨_, rfl, below_next hHeld hb, ?_⟩
          replace hHeld := below_next hHeld hb
          clear hb
          simp only [List.setIfInBounds_toArray, List.set_cons_zero, List.set_cons_succ]
          refine take_at (i := 21) 57 rfl rfl (by kernel_rfl) (by kernel_rfl) (by kernel_rfl) (fun _ _ _ h => h) (sure_yes (by rfl) (fun w => by go_simp; try with_reducible rfl)) hHeld ?_
          simp only [List.setIfInBounds_toArray, List.set_cons_zero, List.set_cons_succ]
          refine take_at (i := 22) 58 rfl rfl (by kernel_rfl) (by kernel_rfl) (by kernel_rfl) (fun _ _ _ h => h) (sure_yes (by rfl) (fun w => by go_simp; try with_reducible rfl)) hHeld ?_
          simp only [List.setIfInBounds_toArray, List.set_cons_zero, List.set_cons_succ]
          refine take_at (i := 23) 13 rfl rfl (by kernel_rfl) (by kernel_rfl) (by kernel_rfl) (fun _ _ _ h => h) (sure_yes (by rfl) (fun w => by go_simp; try with_reducible rfl)) hHeld ?_
          simp only [List.setIfInBounds_toArray, List.set_cons_zero, List.set_cons_succ]
          refine wpAnyH_done (by kernel_rfl) ?_ _
          have Z := Lib.hid hHeld
          clear hHeld
          go_wp2
          go_roundw
          case rel => exact ⟨i + 1, hi1, by go_num, by rw [keep_gone HEI.out HGO.out, ← HCC.out], Z.out⟩
          case measure => simp [intOf] <;> omega
        | false =>
          have HGO := Lib.hid (show goneD kl e = false by simp [goneD, hgd])
          rw [hgd] at hgn
          clear hk2 hgd
          obtain ⟨xd, xc', xv, rfl, hcy, hxv, hcn⟩ := KEEP.out HGO.out
          have CX := Lib.hid hcy
          have HXV := Lib.hid hxv
          have q7 : decide ((c : Int) ≥ (xn : Int)) = false := by simp; omega
          have q8 : (c : Int) < (xn : Int) := by omega
          have q9 : ¬ (xn : Int) ≤ (c : Int) := by omega
          have SM := Lib.hid (fun w hv hu => refSame_any12 e e HFD.out xv u w hv hu)
          rw [sameEv_self] at SM
          clear hcy hxv
          go_upto_region 10 with fail
          refine wp_region_held_drew (S := fun w' => Below W5.heap.size W5 w') (by kernel_rfl) (drawS HB.out) (fun hHeld => ?_)
          generalize wr.drew = wd at hHeld ⊢
          refine take_at (i := 0) 36 rfl rfl (by kernel_rfl) (by kernel_rfl) (by kernel_rfl) (fun _ _ _ h => h) (sure_yes (by rfl) (fun w => by go_simp; try with_reducible rfl)) hHeld ?_
          simp only [List.setIfInBounds_toArray, List.set_cons_zero, List.set_cons_succ]
          refine take_at (i := 1) 37 rfl rfl (by kernel_rfl) (by kernel_rfl) (by kernel_rfl) (fun _ _ _ h => h) (sure_yes (by rfl) (fun w => by go_simp; try with_reducible rfl)) hHeld ?_
          simp only [List.setIfInBounds_toArray, List.set_cons_zero, List.set_cons_succ]
          refine take_at (i := 2) 38 rfl rfl (by kernel_rfl) (by kernel_rfl) (by kernel_rfl) (fun _ _ _ h => h) (sure_yes (by rfl) (fun w => by go_simp; try with_reducible rfl)) hHeld ?_
          simp only [List.setIfInBounds_toArray, List.set_cons_zero, List.set_cons_succ]
          refine take_at (i := 3) 39 rfl rfl (by kernel_rfl) (by kernel_rfl) (by kernel_rfl) (fun _ _ _ h => h) (sure_yes (by rfl) (fun w => by go_simp; try with_reducible rfl)) hHeld ?_
          simp only [List.setIfInBounds_toArray, List.set_cons_zero, List.set_cons_succ]
          refine take_at (i := 4) 40 rfl rfl (by kernel_rfl) (by kernel_rfl) (by kernel_rfl) (fun _ _ _ h => h) (int_yieldsA (by rfl) 3 (.tmp 39) rfl ⟨(hd.add (i * 38)).block, (hd.add (i * 38)).off + 3, none⟩ rfl .i64 e.kind Tryd.underlying3 (fun w h => cell_under12 (ev_fieldM CE.out 3 (by decide) _ (evC_at _ _).2.2.2.1) h)) hHeld ?_
          simp only [List.setIfInBounds_toArray, List.set_cons_zero, List.set_cons_succ]
          refine take_at (i := 5) 41 rfl rfl (by kernel_rfl) (by kernel_rfl) (by kernel_rfl) (fun _ _ _ h => h) (sure_yes (by rfl) (fun w => by go_simp; try with_reducible rfl)) hHeld ?_
          simp only [List.setIfInBounds_toArray, List.set_cons_zero, List.set_cons_succ]
          refine take_at (i := 6) 42 rfl rfl (by kernel_rfl) (by kernel_rfl) (by kernel_rfl) (fun _ _ _ h => h) (sure_yes (by rfl) (fun w => by go_simp; try with_reducible rfl)) hHeld ?_
          simp only [List.setIfInBounds_toArray, List.set_cons_zero, List.set_cons_succ]
          refine take_at (i := 7) 43 rfl rfl (by kernel_rfl) (by kernel_rfl) (by kernel_rfl) (fun _ _ _ h => h) (sure_yes (by rfl) (fun w => by go_simp; try with_reducible rfl)) hHeld ?_
          simp only [List.setIfInBounds_toArray, List.set_cons_zero, List.set_cons_succ]
          refine take_at (i := 8) 44 rfl rfl (by kernel_rfl) (by kernel_rfl) (by kernel_rfl) (fun _ _ _ h => h) (sure_yes (by rfl) (fun w => by go_simp; try with_reducible rfl)) hHeld ?_
          simp only [List.setIfInBounds_toArray, List.set_cons_zero, List.set_cons_succ]
          refine take_at (i := 9) 45 rfl rfl (by kernel_rfl) (by kernel_rfl) (by kernel_rfl) (fun _ _ _ h => h) (sure_yes (by rfl) (fun w => by go_simp; try with_reducible rfl)) hHeld ?_
          simp only [List.setIfInBounds_toArray, List.set_cons_zero, List.set_cons_succ]
          refine take_at (i := 10) 46 rfl rfl (by kernel_rfl) (by kernel_rfl) (by kernel_rfl) (fun _ _ _ h => h) (sure_yes (by rfl) (fun w => by go_simp; try with_reducible rfl)) hHeld ?_
          simp only [List.setIfInBounds_toArray, List.set_cons_zero, List.set_cons_succ]
          refine take_at (i := 11) 47 rfl rfl (by kernel_rfl) (by kernel_rfl) (by kernel_rfl) (fun _ _ _ h => h) (sure_yes (by rfl) (fun w => by go_simp; try with_reducible rfl)) hHeld ?_
          simp only [List.setIfInBounds_toArray, List.set_cons_zero, List.set_cons_succ]
          refine take_at (i := 13) 49 rfl rfl (by kernel_rfl) (by kernel_rfl) (by kernel_rfl) (fun _ _ _ h => h) (sure_yes (by rfl) (fun w => by go_simp; try with_reducible rfl)) hHeld ?_
          simp only [List.setIfInBounds_toArray, List.set_cons_zero, List.set_cons_succ]
          refine take_at (i := 14) 50 rfl rfl (by kernel_rfl) (by kernel_rfl) (by kernel_rfl) (fun _ _ _ h => h) (sure_yes (by rfl) (fun w => by go_simp; try with_reducible rfl)) hHeld ?_
          simp only [List.setIfInBounds_toArray, List.set_cons_zero, List.set_cons_succ]
          refine take_at (i := 15) 51 rfl rfl (by kernel_rfl) (by kernel_rfl) (by kernel_rfl) (fun _ _ _ h => h) (sure_yes (by rfl) (fun w => by go_simp; try with_reducible rfl)) hHeld ?_
          simp only [List.setIfInBounds_toArray, List.set_cons_zero, List.set_cons_succ]
          refine take_at (i := 16) 52 rfl rfl (by kernel_rfl) (by kernel_rfl) (by kernel_rfl) (fun _ _ _ h => h) (sure_yes (by rfl) (fun w => by go_simp; try with_reducible rfl)) hHeld ?_
          simp only [List.setIfInBounds_toArray, List.set_cons_zero, List.set_cons_succ]
          refine take_at (i := 17) 53 rfl rfl (by kernel_rfl) (by kernel_rfl) (by kernel_rfl) (fun _ _ _ h => h) (sure_yes (by rfl) (fun w => by go_simp; try with_reducible rfl)) hHeld ?_
          simp only [List.setIfInBounds_toArray, List.set_cons_zero, List.set_cons_succ]
          refine take_at (i := 18) 54 rfl rfl (by kernel_rfl) (by kernel_rfl) (by kernel_rfl) (fun _ _ _ h => h) (sure_yes (by rfl) (fun w => by go_simp; try with_reducible rfl)) hHeld ?_
          simp only [List.setIfInBounds_toArray, List.set_cons_zero, List.set_cons_succ]
          refine take_at (i := 12) 48 rfl rfl (by kernel_rfl) (by kernel_rfl) (by kernel_rfl) (fun _ _ _ h => h) (int_yieldsA (by rfl) 2 (.tmp 47) rfl ⟨(hd.add (i * 38)).block, (hd.add (i * 38)).off + 1, none⟩ rfl .i64 e.q Tryd.underlying2 (fun w h => cell_under12 (ev_fieldM CE.out 1 (by decide) _ (evC_at _ _).2.1) h)) hHeld ?_
          simp only [List.setIfInBounds_toArray, List.set_cons_zero, List.set_cons_succ]
          refine take_at (i := 19) 55 rfl rfl (by kernel_rfl) (by kernel_rfl) (by kernel_rfl) (fun _ _ _ h => h) (int_yieldsA (by rfl) 3 (.tmp 54) rfl (hd.add (i * 38)) rfl .i64 e.r Tryd.underlying3 (fun w h => cell_under12 (ev_field0L CE.out _ (evC_at _ _).1) h)) hHeld ?_
          simp only [List.setIfInBounds_toArray, List.set_cons_zero, List.set_cons_succ]
          refine ready_call2 20 56 (by kernel_rfl) rfl rfl (by rfl) 20 (.tmp 49) (.tmp 55) 26 3 rfl (.slice ko kn kc) (.int .i64 e.r) rfl rfl (enters_of Tryd.func20 (by kernel_rfl) rfl) _ (SQ.out _ (dots_below HK5.out hHeld)) (fun x wz hp => ?_)
          obtain ⟨rfl, hb⟩ := hp
          refine ⟨_, rfl, below_next hHeld hb, ?_⟩
          replace hHeld := below_next hHeld hb
          clear hb
          simp only [List.setIfInBounds_toArray, List.set_cons_zero, List.set_cons_succ]
          refine take_at (i := 21) 57 rfl rfl (by kernel_rfl) (by kernel_rfl) (by kernel_rfl) (fun _ _ _ h => h) (sure_yes (by rfl) (fun w => by go_simp; try with_reducible rfl)) hHeld ?_
          simp only [List.setIfInBounds_toArray, List.set_cons_zero, List.set_cons_succ]
          refine take_at (i := 22) 58 rfl rfl (by kernel_rfl) (by kernel_rfl) (by kernel_rfl) (fun _ _ _ h => h) (sure_yes (by rfl) (fun w => by go_simp; try with_reducible rfl)) hHeld ?_
          simp only [List.setIfInBounds_toArray, List.set_cons_zero, List.set_cons_succ]
          refine take_at (i := 23) 13 rfl rfl (by kernel_rfl) (by kernel_rfl) (by kernel_rfl) (fun _ _ _ h => h) (sure_yes (by rfl) (fun w => by go_simp; try with_reducible rfl)) hHeld ?_
          simp only [List.setIfInBounds_toArray, List.set_cons_zero, List.set_cons_succ]
          refine wpAnyH_done (by kernel_rfl) ?_ _
          have HB9 := Lib.hid hHeld
          clear hHeld
          rename World => W6
          go_upto_region 12 with fail
          refine wp_region_held_drew (S := fun w' => Below W5.heap.size W5 w') (by kernel_rfl) (drawS HB9.out) (fun hHeld => ?_)
          generalize W6.drew = wd at hHeld ⊢
          refine take_at (i := 0) 60 rfl rfl (by kernel_rfl) (by kernel_rfl) (by kernel_rfl) (fun _ _ _ h => h) (sure_yes (by rfl) (fun w => by go_simp; try with_reducible rfl)) hHeld ?_
          simp only [List.setIfInBounds_toArray, List.set_cons_zero, List.set_cons_succ]
          refine take_at (i := 1) 61 rfl rfl (by kernel_rfl) (by kernel_rfl) (by kernel_rfl) (fun _ _ _ h => h) (sure_yes (by rfl) (fun w => by go_simp; try with_reducible rfl)) hHeld ?_
          simp only [List.setIfInBounds_toArray, List.set_cons_zero, List.set_cons_succ]
          refine take_at (i := 2) 62 rfl rfl (by kernel_rfl) (by kernel_rfl) (by kernel_rfl) (fun _ _ _ h => h) (sure_yes (by rfl) (fun w => by go_simp; try with_reducible rfl)) hHeld ?_
          simp only [List.setIfInBounds_toArray, List.set_cons_zero, List.set_cons_succ]
          refine take_at (i := 3) 63 rfl rfl (by kernel_rfl) (by kernel_rfl) (by kernel_rfl) (fun _ _ _ h => h) (sure_yes (by rfl) (fun w => by go_simp; try with_reducible rfl)) hHeld ?_
          simp only [List.setIfInBounds_toArray, List.set_cons_zero, List.set_cons_succ]
          refine take_at (i := 4) 64 rfl rfl (by kernel_rfl) (by kernel_rfl) (by kernel_rfl) (fun _ _ _ h => h) (sure_yes (by rfl) (fun w => by go_simp; try with_reducible rfl)) hHeld ?_
          simp only [List.setIfInBounds_toArray, List.set_cons_zero, List.set_cons_succ]
          refine take_at (i := 5) 65 rfl rfl (by kernel_rfl) (by kernel_rfl) (by kernel_rfl) (fun _ _ _ h => h) (sure_yes (by rfl) (fun w => by go_simp; try with_reducible rfl)) hHeld ?_
          simp only [List.setIfInBounds_toArray, List.set_cons_zero, List.set_cons_succ]
          refine take_at (i := 6) 66 rfl rfl (by kernel_rfl) (by kernel_rfl) (by kernel_rfl) (fun _ _ _ h => h) (sure_yes (by rfl) (fun w => by go_simp; try with_reducible rfl)) hHeld ?_
          simp only [List.setIfInBounds_toArray, List.set_cons_zero, List.set_cons_succ]
          refine take_at (i := 7) 67 rfl rfl (by kernel_rfl) (by kernel_rfl) (by kernel_rfl) (fun _ _ _ h => h) (sure_yes (by rfl) (fun w => by go_simp; try with_reducible rfl)) hHeld ?_
          simp only [List.setIfInBounds_toArray, List.set_cons_zero, List.set_cons_succ]
          refine take_at (i := 9) 69 rfl rfl (by kernel_rfl) (by kernel_rfl) (by kernel_rfl) (fun _ _ _ h => h) (sure_yes (by rfl) (fun w => by go_simp; try with_reducible rfl)) hHeld ?_
          simp only [List.setIfInBounds_toArray, List.set_cons_zero, List.set_cons_succ]
          refine take_at (i := 10) 70 rfl rfl (by kernel_rfl) (by kernel_rfl) (by kernel_rfl) (fun _ _ _ h => h) (sure_yes (by rfl) (fun w => by go_simp; try with_reducible rfl)) hHeld ?_
          simp only [List.setIfInBounds_toArray, List.set_cons_zero, List.set_cons_succ]
          refine take_at (i := 11) 71 rfl rfl (by kernel_rfl) (by kernel_rfl) (by kernel_rfl) (fun _ _ _ h => h) (sure_yes (by rfl) (fun w => by go_simp; try with_reducible rfl)) hHeld ?_
          simp only [List.setIfInBounds_toArray, List.set_cons_zero, List.set_cons_succ]
          refine take_at (i := 8) 68 rfl rfl (by kernel_rfl) (by kernel_rfl) (by kernel_rfl) (fun _ _ _ h => h) (evA_yields (by rfl) 36 (.tmp 67) rfl (xd.add (c * 38)) rfl Tryd.underlying36 evSize (fun w h j u hu => cell_under12 (CX.out j u hu) h)) hHeld ?_
          simp only [List.setIfInBounds_toArray, List.set_cons_zero, List.set_cons_succ]
          refine take_at (i := 12) 72 rfl rfl (by kernel_rfl) (by kernel_rfl) (by kernel_rfl) (fun _ _ _ h => h) (evA_yields (by rfl) 36 (.tmp 71) rfl (hd.add (i * 38)) rfl Tryd.underlying36 evSize (fun w h j u hu => cell_under12 (CE.out j u hu) h)) hHeld ?_
          simp only [List.setIfInBounds_toArray, List.set_cons_zero, List.set_cons_succ]
          refine ready_call2 13 73 (by kernel_rfl) rfl rfl (by rfl) 17 (.tmp 68) (.tmp 72) 36 36 rfl (.agg (evC e xv)) (.agg (evC e u)) rfl rfl (enters_of Tryd.func17 (by kernel_rfl) rfl) _ (SM.out _ (dots_below HXV.out hHeld) (dots_below HUV.out hHeld)) (fun x wz hp => ?_)
          obtain ⟨rfl, hb⟩ := hp
          refine ⟨_, rfl, below_next hHeld hb, ?_⟩
          replace hHeld := below_next hHeld hb
          clear hb
          simp only [List.setIfInBounds_toArray, List.set_cons_zero, List.set_cons_succ]
          refine take_at (i := 14) 74 rfl rfl (by kernel_rfl) (by kernel_rfl) (by kernel_rfl) (fun _ _ _ h => h) (sure_yes (by rfl) (fun w => by go_simp; try with_reducible rfl)) hHeld ?_
          simp only [List.setIfInBounds_toArray, List.set_cons_zero, List.set_cons_succ]
          refine take_at (i := 15) 75 rfl rfl (by kernel_rfl) (by kernel_rfl) (by kernel_rfl) (fun _ _ _ h => h) (sure_yes (by rfl) (fun w => by go_simp; try with_reducible rfl)) hHeld ?_
          simp only [List.setIfInBounds_toArray, List.set_cons_zero, List.set_cons_succ]
          refine wpAnyH_done (by kernel_rfl) ?_ _
          have Z := Lib.hid hHeld
          clear hHeld
          go_wp2
          go_roundw
          case rel => exact ⟨i + 1, hi1, by go_num, by rw [KLEN.out HGO.out], Z.out⟩
          case measure => simp [intOf] <;> omega
      · have q5 : (e.kind == 2) = false := by simp [hk2]
        have q6 : decide (e.kind = 2) = false := by simp [hk2]
        have HGO := Lib.hid (show goneD kl e = false by simp [goneD, hk2])
        obtain ⟨xd, xc', xv, rfl, hcy, hxv, hcn⟩ := KEEP.out HGO.out
        have CX := Lib.hid hcy
        have HXV := Lib.hid hxv
        have q7 : decide ((c : Int) ≥ (xn : Int)) = false := by simp; omega
        have q8 : (c : Int) < (xn : Int) := by omega
        have q9 : ¬ (xn : Int) ≤ (c : Int) := by omega
        have SM := Lib.hid (fun w hv hu => refSame_any12 e e HFD.out xv u w hv hu)
        rw [sameEv_self] at SM
        clear hcy hxv hk2 hgn
        go_upto_region 10 with fail
        refine wp_region_held_drew (S := fun w' => Below W5.heap.size W5 w') (by kernel_rfl) (drawS HB.out) (fun hHeld => ?_)
        generalize wr.drew = wd at hHeld ⊢
        refine take_at (i := 0) 36 rfl rfl (by kernel_rfl) (by kernel_rfl) (by kernel_rfl) (fun _ _ _ h => h) (sure_yes (by rfl) (fun w => by go_simp; try with_reducible rfl)) hHeld ?_
        simp only [List.setIfInBounds_toArray, List.set_cons_zero, List.set_cons_succ]
        refine take_at (i := 1) 37 rfl rfl (by kernel_rfl) (by kernel_rfl) (by kernel_rfl) (fun _ _ _ h => h) (sure_yes (by rfl) (fun w => by go_simp; try with_reducible rfl)) hHeld ?_
        simp only [List.setIfInBounds_toArray, List.set_cons_zero, List.set_cons_succ]
        refine take_at (i := 2) 38 rfl rfl (by kernel_rfl) (by kernel_rfl) (by kernel_rfl) (fun _ _ _ h => h) (sure_yes (by rfl) (fun w => by go_simp; try with_reducible rfl)) hHeld ?_
        simp only [List.setIfInBounds_toArray, List.set_cons_zero, List.set_cons_succ]
        refine take_at (i := 3) 39 rfl rfl (by kernel_rfl) (by kernel_rfl) (by kernel_rfl) (fun _ _ _ h => h) (sure_yes (by rfl) (fun w => by go_simp; try with_reducible rfl)) hHeld ?_
        simp only [List.setIfInBounds_toArray, List.set_cons_zero, List.set_cons_succ]
        refine take_at (i := 4) 40 rfl rfl (by kernel_rfl) (by kernel_rfl) (by kernel_rfl) (fun _ _ _ h => h) (int_yieldsA (by rfl) 3 (.tmp 39) rfl ⟨(hd.add (i * 38)).block, (hd.add (i * 38)).off + 3, none⟩ rfl .i64 e.kind Tryd.underlying3 (fun w h => cell_under12 (ev_fieldM CE.out 3 (by decide) _ (evC_at _ _).2.2.2.1) h)) hHeld ?_
        simp only [List.setIfInBounds_toArray, List.set_cons_zero, List.set_cons_succ]
        refine take_at (i := 5) 41 rfl rfl (by kernel_rfl) (by kernel_rfl) (by kernel_rfl) (fun _ _ _ h => h) (sure_yes (by rfl) (fun w => by go_simp; try with_reducible rfl)) hHeld ?_
        simp only [List.setIfInBounds_toArray, List.set_cons_zero, List.set_cons_succ]
        refine take_at (i := 6) 42 rfl rfl (by kernel_rfl) (by kernel_rfl) (by kernel_rfl) (fun _ _ _ h => h) (sure_yes (by rfl) (fun w => by go_simp; try with_reducible rfl)) hHeld ?_
        simp only [List.setIfInBounds_toArray, List.set_cons_zero, List.set_cons_succ]
        refine take_at (i := 7) 43 rfl rfl (by kernel_rfl) (by kernel_rfl) (by kernel_rfl) (fun _ _ _ h => h) (.inr ⟨by rfl, rfl⟩) hHeld ?_
        simp only [List.setIfInBounds_toArray, List.set_cons_zero, List.set_cons_succ]
        refine take_at (i := 8) 44 rfl rfl (by kernel_rfl) (by kernel_rfl) (by kernel_rfl) (fun _ _ _ h => h) (.inr ⟨by rfl, rfl⟩) hHeld ?_
        simp only [List.setIfInBounds_toArray, List.set_cons_zero, List.set_cons_succ]
        refine take_at (i := 9) 45 rfl rfl (by kernel_rfl) (by kernel_rfl) (by kernel_rfl) (fun _ _ _ h => h) (.inr ⟨by rfl, rfl⟩) hHeld ?_
        simp only [List.setIfInBounds_toArray, List.set_cons_zero, List.set_cons_succ]
        refine take_at (i := 10) 46 rfl rfl (by kernel_rfl) (by kernel_rfl) (by kernel_rfl) (fun _ _ _ h => h) (.inr ⟨by rfl, rfl⟩) hHeld ?_
        simp only [List.setIfInBounds_toArray, List.set_cons_zero, List.set_cons_succ]
        refine take_at (i := 11) 47 rfl rfl (by kernel_rfl) (by kernel_rfl) (by kernel_rfl) (fun _ _ _ h => h) (.inr ⟨by rfl, rfl⟩) hHeld ?_
        simp only [List.setIfInBounds_toArray, List.set_cons_zero, List.set_cons_succ]
        refine take_at (i := 13) 49 rfl rfl (by kernel_rfl) (by kernel_rfl) (by kernel_rfl) (fun _ _ _ h => h) (.inr ⟨by rfl, rfl⟩) hHeld ?_
        simp only [List.setIfInBounds_toArray, List.set_cons_zero, List.set_cons_succ]
        refine take_at (i := 14) 50 rfl rfl (by kernel_rfl) (by kernel_rfl) (by kernel_rfl) (fun _ _ _ h => h) (.inr ⟨by rfl, rfl⟩) hHeld ?_
        simp only [List.setIfInBounds_toArray, List.set_cons_zero, List.set_cons_succ]
        refine take_at (i := 15) 51 rfl rfl (by kernel_rfl) (by kernel_rfl) (by kernel_rfl) (fun _ _ _ h => h) (.inr ⟨by rfl, rfl⟩) hHeld ?_
        simp only [List.setIfInBounds_toArray, List.set_cons_zero, List.set_cons_succ]
        refine take_at (i := 16) 52 rfl rfl (by kernel_rfl) (by kernel_rfl) (by kernel_rfl) (fun _ _ _ h => h) (.inr ⟨by rfl, rfl⟩) hHeld ?_
        simp only [List.setIfInBounds_toArray, List.set_cons_zero, List.set_cons_succ]
        refine take_at (i := 17) 53 rfl rfl (by kernel_rfl) (by kernel_rfl) (by kernel_rfl) (fun _ _ _ h => h) (.inr ⟨by rfl, rfl⟩) hHeld ?_
        simp only [List.setIfInBounds_toArray, List.set_cons_zero, List.set_cons_succ]
        refine take_at (i := 18) 54 rfl rfl (by kernel_rfl) (by kernel_rfl) (by kernel_rfl) (fun _ _ _ h => h) (.inr ⟨by rfl, rfl⟩) hHeld ?_
        simp only [List.setIfInBounds_toArray, List.set_cons_zero, List.set_cons_succ]
        refine take_at (i := 12) 48 rfl rfl (by kernel_rfl) (by kernel_rfl) (by kernel_rfl) (fun _ _ _ h => h) (.inr ⟨by rfl, rfl⟩) hHeld ?_
        simp only [List.setIfInBounds_toArray, List.set_cons_zero, List.set_cons_succ]
        refine take_at (i := 19) 55 rfl rfl (by kernel_rfl) (by kernel_rfl) (by kernel_rfl) (fun _ _ _ h => h) (.inr ⟨by rfl, rfl⟩) hHeld ?_
        simp only [List.setIfInBounds_toArray, List.set_cons_zero, List.set_cons_succ]
        refine take_at (i := 20) 56 rfl rfl (by kernel_rfl) (by kernel_rfl) (by kernel_rfl) (fun _ _ _ h => h) (.inr ⟨by rfl, rfl⟩) hHeld ?_
        simp only [List.setIfInBounds_toArray, List.set_cons_zero, List.set_cons_succ]
        refine take_at (i := 21) 57 rfl rfl (by kernel_rfl) (by kernel_rfl) (by kernel_rfl) (fun _ _ _ h => h) (.inr ⟨by rfl, rfl⟩) hHeld ?_
        simp only [List.setIfInBounds_toArray, List.set_cons_zero, List.set_cons_succ]
        refine take_at (i := 22) 58 rfl rfl (by kernel_rfl) (by kernel_rfl) (by kernel_rfl) (fun _ _ _ h => h) (sure_yes (by rfl) (fun w => by go_simp; try with_reducible rfl)) hHeld ?_
        simp only [List.setIfInBounds_toArray, List.set_cons_zero, List.set_cons_succ]
        refine take_at (i := 23) 13 rfl rfl (by kernel_rfl) (by kernel_rfl) (by kernel_rfl) (fun _ _ _ h => h) (sure_yes (by rfl) (fun w => by go_simp; try with_reducible rfl)) hHeld ?_
        simp only [List.setIfInBounds_toArray, List.set_cons_zero, List.set_cons_succ]
        refine wpAnyH_done (by kernel_rfl) ?_ _
        have HB9 := Lib.hid hHeld
        clear hHeld
        rename World => W6
        go_upto_region 12 with fail
        refine wp_region_held_drew (S := fun w' => Below W5.heap.size W5 w') (by kernel_rfl) (drawS HB9.out) (fun hHeld => ?_)
        generalize W6.drew = wd at hHeld ⊢
        refine take_at (i := 0) 60 rfl rfl (by kernel_rfl) (by kernel_rfl) (by kernel_rfl) (fun _ _ _ h => h) (sure_yes (by rfl) (fun w => by go_simp; try with_reducible rfl)) hHeld ?_
        simp only [List.setIfInBounds_toArray, List.set_cons_zero, List.set_cons_succ]
        refine take_at (i := 1) 61 rfl rfl (by kernel_rfl) (by kernel_rfl) (by kernel_rfl) (fun _ _ _ h => h) (sure_yes (by rfl) (fun w => by go_simp; try with_reducible rfl)) hHeld ?_
        simp only [List.setIfInBounds_toArray, List.set_cons_zero, List.set_cons_succ]
        refine take_at (i := 2) 62 rfl rfl (by kernel_rfl) (by kernel_rfl) (by kernel_rfl) (fun _ _ _ h => h) (sure_yes (by rfl) (fun w => by go_simp; try with_reducible rfl)) hHeld ?_
        simp only [List.setIfInBounds_toArray, List.set_cons_zero, List.set_cons_succ]
        refine take_at (i := 3) 63 rfl rfl (by kernel_rfl) (by kernel_rfl) (by kernel_rfl) (fun _ _ _ h => h) (sure_yes (by rfl) (fun w => by go_simp; try with_reducible rfl)) hHeld ?_
        simp only [List.setIfInBounds_toArray, List.set_cons_zero, List.set_cons_succ]
        refine take_at (i := 4) 64 rfl rfl (by kernel_rfl) (by kernel_rfl) (by kernel_rfl) (fun _ _ _ h => h) (sure_yes (by rfl) (fun w => by go_simp; try with_reducible rfl)) hHeld ?_
        simp only [List.setIfInBounds_toArray, List.set_cons_zero, List.set_cons_succ]
        refine take_at (i := 5) 65 rfl rfl (by kernel_rfl) (by kernel_rfl) (by kernel_rfl) (fun _ _ _ h => h) (sure_yes (by rfl) (fun w => by go_simp; try with_reducible rfl)) hHeld ?_
        simp only [List.setIfInBounds_toArray, List.set_cons_zero, List.set_cons_succ]
        refine take_at (i := 6) 66 rfl rfl (by kernel_rfl) (by kernel_rfl) (by kernel_rfl) (fun _ _ _ h => h) (sure_yes (by rfl) (fun w => by go_simp; try with_reducible rfl)) hHeld ?_
        simp only [List.setIfInBounds_toArray, List.set_cons_zero, List.set_cons_succ]
        refine take_at (i := 7) 67 rfl rfl (by kernel_rfl) (by kernel_rfl) (by kernel_rfl) (fun _ _ _ h => h) (sure_yes (by rfl) (fun w => by go_simp; try with_reducible rfl)) hHeld ?_
        simp only [List.setIfInBounds_toArray, List.set_cons_zero, List.set_cons_succ]
        refine take_at (i := 9) 69 rfl rfl (by kernel_rfl) (by kernel_rfl) (by kernel_rfl) (fun _ _ _ h => h) (sure_yes (by rfl) (fun w => by go_simp; try with_reducible rfl)) hHeld ?_
        simp only [List.setIfInBounds_toArray, List.set_cons_zero, List.set_cons_succ]
        refine take_at (i := 10) 70 rfl rfl (by kernel_rfl) (by kernel_rfl) (by kernel_rfl) (fun _ _ _ h => h) (sure_yes (by rfl) (fun w => by go_simp; try with_reducible rfl)) hHeld ?_
        simp only [List.setIfInBounds_toArray, List.set_cons_zero, List.set_cons_succ]
        refine take_at (i := 11) 71 rfl rfl (by kernel_rfl) (by kernel_rfl) (by kernel_rfl) (fun _ _ _ h => h) (sure_yes (by rfl) (fun w => by go_simp; try with_reducible rfl)) hHeld ?_
        simp only [List.setIfInBounds_toArray, List.set_cons_zero, List.set_cons_succ]
        refine take_at (i := 8) 68 rfl rfl (by kernel_rfl) (by kernel_rfl) (by kernel_rfl) (fun _ _ _ h => h) (evA_yields (by rfl) 36 (.tmp 67) rfl (xd.add (c * 38)) rfl Tryd.underlying36 evSize (fun w h j u hu => cell_under12 (CX.out j u hu) h)) hHeld ?_
        simp only [List.setIfInBounds_toArray, List.set_cons_zero, List.set_cons_succ]
        refine take_at (i := 12) 72 rfl rfl (by kernel_rfl) (by kernel_rfl) (by kernel_rfl) (fun _ _ _ h => h) (evA_yields (by rfl) 36 (.tmp 71) rfl (hd.add (i * 38)) rfl Tryd.underlying36 evSize (fun w h j u hu => cell_under12 (CE.out j u hu) h)) hHeld ?_
        simp only [List.setIfInBounds_toArray, List.set_cons_zero, List.set_cons_succ]
        refine ready_call2 13 73 (by kernel_rfl) rfl rfl (by rfl) 17 (.tmp 68) (.tmp 72) 36 36 rfl (.agg (evC e xv)) (.agg (evC e u)) rfl rfl (enters_of Tryd.func17 (by kernel_rfl) rfl) _ (SM.out _ (dots_below HXV.out hHeld) (dots_below HUV.out hHeld)) (fun x wz hp => ?_)
        obtain ⟨rfl, hb⟩ := hp
        refine ⟨_, rfl, below_next hHeld hb, ?_⟩
        replace hHeld := below_next hHeld hb
        clear hb
        simp only [List.setIfInBounds_toArray, List.set_cons_zero, List.set_cons_succ]
        refine take_at (i := 14) 74 rfl rfl (by kernel_rfl) (by kernel_rfl) (by kernel_rfl) (fun _ _ _ h => h) (sure_yes (by rfl) (fun w => by go_simp; try with_reducible rfl)) hHeld ?_
        simp only [List.setIfInBounds_toArray, List.set_cons_zero, List.set_cons_succ]
        refine take_at (i := 15) 75 rfl rfl (by kernel_rfl) (by kernel_rfl) (by kernel_rfl) (fun _ _ _ h => h) (sure_yes (by rfl) (fun w => by go_simp; try with_reducible rfl)) hHeld ?_
        simp only [List.setIfInBounds_toArray, List.set_cons_zero, List.set_cons_succ]
        refine wpAnyH_done (by kernel_rfl) ?_ _
        have Z := Lib.hid hHeld
        clear hHeld
        go_wp2
        go_roundw
        case rel => exact ⟨i + 1, hi1, by go_num, by rw [KLEN.out HGO.out], Z.out⟩
        case measure => simp [intOf] <;> omega
    · obtain rfl : i = m := by omega
      have q0 : ¬ (i : Int) < (i : Int) := by omega
      rw [← HML.out, List.take_length, HXK.out]
      have hli : L.length = i := HML.out
      have MAY := Lib.hid (fun w (hb : Below W5.heap.size W5 w) => may_heads13 xs (by have := HXN.out; omega) HFX.out (.slice xo xn xc) w (holdsU_below HHX.out hb) (depsU_below HDX.out hb) (powTab_below HT5.out hb))
      have D2 := Lib.hid (fun w (hb : Below W5.heap.size W5 w) => drop_any xs (by have := HXN.out; omega) (fun x hx => (HFX.out x hx).2.2.1) kl HLK.out (.slice xo xn xc) (.slice ko kn kc) w (holdsU_below HHX.out hb) (depsU_below HDX.out hb) (dots_below HK5.out hb))
      have D3 := Lib.hid (fun w (hb : Below W5.heap.size W5 w) => drop_any hs4 (by have := HMN.out; omega) (fun x hx => (HF4.out x hx).2.2.1) [] (by simp) (.slice ho i hc) (.slice none 0 0) w (holdsU_below HH5.out hb) (depsU_below HD5.out hb) (dots_nil w))
      rw [HXS.out] at MAY D2
      rw [HE4.out] at D3
      rw [(mayHs_iff _).2 (keep_heads HHL.out)] at MAY
      have L2 := Lib.hid (fun w yv (he : HasEvs w yv (keepD kl (keepD kl L))) (hb : Below W5.heap.size W5 w) => show Calls Tryd.prog 21 #[yv, .slice xo xn xc] w fun x w' => x = .returned (.bool true) ∧ Below w.heap.size w w' from by
        obtain ⟨ys, h1, h2, h3⟩ := u_of_evs he
        rw [keep_twice, ← HXS.out] at h1
        exact list_true13 ys xs (by have := congrArg List.length h1; simp only [List.length_map] at this; have := HXN.out; omega) (fun x hx => by
          have h4 : x.1 ∈ xs.map (·.1) := by rw [← h1]; exact List.mem_map_of_mem hx
          obtain ⟨z, hz, hzx⟩ := List.mem_map.1 h4
          rw [← hzx]; exact (HFX.out z hz).2.2.1) h1 yv _ w h3 h2 (holdsU_below HHX.out hb) (depsU_below HDX.out hb))
      have L3 := Lib.hid (fun w yv (he : HasEvs w yv (keepD [] L)) (hb : Below W5.heap.size W5 w) => show Calls Tryd.prog 21 #[yv, .slice ho i hc] w fun x w' => x = .returned (.bool true) ∧ Below w.heap.size w w' from by
        obtain ⟨ys, h1, h2, h3⟩ := u_of_evs he
        rw [keep_none, ← HE4.out] at h1
        exact list_true13 ys hs4 (by have := congrArg List.length h1; simp only [List.length_map] at this; have := HMN.out; omega) (fun x hx => by
          have h4 : x.1 ∈ hs4.map (·.1) := by rw [← h1]; exact List.mem_map_of_mem hx
          obtain ⟨z, hz, hzx⟩ := List.mem_map.1 h4
          rw [← hzx]; exact (HF4.out z hz).2.2.1) h1 yv _ w h3 h2 (holdsU_below HH5.out hb) (depsU_below HD5.out hb))
      go_wp2_with (first
        | (go_at_call 13; (with_reducible refine (MAY.out _ HB.out).mono ?_); rintro x w6 ⟨rfl, hb⟩; have B6 := Lib.hid (below_next HB.out hb); clear hb)
        | (go_at_call 19; (with_reducible refine (D2.out _ B6.out).mono ?_); rintro x w7 ⟨yv, rfl, he, hb⟩; have HY7 := Lib.hid (show HasEvs w7 yv (keepD kl (keepD kl L)) from he); have B7 := Lib.hid (below_next B6.out hb); clear hb he)
        | (go_at_call 21; (with_reducible refine (L2.out _ _ HY7.out B7.out).mono ?_); rintro x w8 ⟨rfl, hb⟩; have B8 := Lib.hid (below_next B7.out hb); clear hb)
        | (go_at_call 19; (with_reducible refine (D3.out _ B8.out).mono ?_); rintro x w9 ⟨zv, rfl, he, hb⟩; have HY9 := Lib.hid (show HasEvs w9 zv (keepD [] L) from he); have B9 := Lib.hid (below_next B8.out hb); clear hb he)
        | (go_at_call 21; (with_reducible refine (L3.out _ _ HY9.out B9.out).mono ?_); rintro x w10 ⟨rfl, hb⟩; have B10 := Lib.hid (below_next B9.out hb); clear hb))
      go_ret
      exact ⟨rfl, below_next BW5.out B10.out⟩
end Go.Proofs.YthkojphgjlojgaaDoor
