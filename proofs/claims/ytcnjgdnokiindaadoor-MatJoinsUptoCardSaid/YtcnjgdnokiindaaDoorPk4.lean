/-
Texts that all claims of this seat share, part 4: MatJoin, MatJoins, HexaCode, HexaRead, DotText, DotCut, DotCode, VecParse.
-/
import Derived.Laws.OwnMore
import Derived.Test.YtcnjgdnokiindaaDoorShelf
import Derived.WalkMore
import Derived.ScopeJumps
import Derived.Test.YtcnjgdnokiindaaDoorPk3
namespace Go.Proofs.YtcnjgdnokiindaaDoor
open Go.RowKit
theorem raiseM_out {m : M2} {r : Int} {l : List D2} (h : (decide (0 ≤ r) && decide (r < (m.length : Int))) = false) : raiseM m r l = m := by
  unfold raiseM
  rw [if_neg]
  rintro ⟨h1, h2⟩
  simp [h1, h2] at h
/-- The cell of a row of slices of the call's own. -/
theorem ownMat_at {B : Nat} {w : World} {v : Value} {us : List R2} (h : OwnMat B w v us) (n k : Nat) (hn : us.length = n) (x : R2) (hx : us[k]? = some x) :
    ∃ g cap, v = .slice (some ⟨g, 0, none⟩) n cap ∧ B ≤ g ∧ w.cell? ⟨g, k, none⟩ = some x.2 ∧ w.frozen? ⟨g, k, none⟩ = false ∧ RowIn B w x.2 x.1 := by
  subst hn
  rcases h.1.2 with ⟨rfl, h0⟩ | ⟨g, cap, cur, rfl, h1, h2, h3⟩
  · rw [List.eq_nil_of_length_eq_zero h0] at hx; cases hx
  · refine ⟨g, cap, rfl, h1, ?_, h.1.frozenAt k, h.2 x (List.mem_of_getElem? hx)⟩
    have hk := (List.getElem?_eq_some_iff.1 hx).1
    rw [h.1.cellAt k (by omega), List.getElem?_map, hx]; rfl
theorem ownMat_frozen {B : Nat} {w : World} {g n cap : Nat} {us : List R2} (h : OwnMat B w (.slice (some ⟨g, 0, none⟩) n cap) us) (k : Nat) : w.frozen? ⟨g, k, none⟩ = false := by
  rcases h.1.2 with ⟨h0, -⟩ | ⟨g', cap', cur, h0, -, h2, -⟩
  · cases h0
  · cases h0; exact frozen_of_row w g k cur _ h2
theorem us_at {m : M2} {us : List R2} (h : us.map (·.1) = m) {k : Nat} {l : List D2} (hl : m[k]? = some l) : ∃ x, us[k]? = some x ∧ x.1 = l := by
  subst h
  rw [List.getElem?_map] at hl
  cases hx : us[k]? with
  | none => rw [hx] at hl; cases hl
  | some x => rw [hx] at hl; exact ⟨x, rfl, Option.some.inj hl⟩
theorem joinV_len (a b : List D2) : (joinV a b).length ≤ 32 := ofN_length _ 32
theorem meetV_len (a b : List D2) : (meetV a b).length ≤ 32 := ofN_length _ 32
theorem joinV_comm (a b : List D2) : joinV a b = joinV b a := ofN_congr fun j _ => by simp only [joinN]; omega
set_option maxRecDepth 100000 in
set_option maxHeartbeats 16000000 in
theorem matRaise_long (m : M2) (hm : Fits m) (r : Int) (l : List D2) (hl : l.length < 10000000000000) (v u : Value) (w : World) (hv : HasMat w v m) (hu : HasDots w u l) : Calls Tryd.prog 18 #[v, .int .i64 r, u] w fun e w' => ∃ x, e = .returned x ∧ HasMat w' x (raiseM m r l) ∧ Below w.heap.size w w' := by
  have CP := Lib.hid (copied_any m hm v w hv)
  have HU := Lib.hid hu
  obtain ⟨ao, cap, rfl⟩ := mat_shape hv m.length rfl
  obtain ⟨uo, ucap, rfl⟩ := dots_shape hu l.length rfl
  cases hR : (decide (0 ≤ r) && decide (r < (m.length : Int))) with
  | false =>
    have HE := Lib.hid (raiseM_out (l := l) hR)
    have HA := Lib.hid (fun ao n c w (hn : n = m.length) => show Calls Tryd.prog 39 #[.slice ao n c, .int .i64 r] w fun e w' => e = .returned (.bool false) ∧ w = w' by rw [← hR, ← hn]; exact has_any ao n c r w)
    obtain ⟨N, hN⟩ : ∃ N, N = m.length := ⟨_, rfl⟩
    have HN := Lib.hid hN
    rw [← hN] at CP ⊢
    clear hv hm hN hR hu hl
    go_enter Tryd.func18, Tryd.ntmps18
    go_wp2_with (first
      | (go_at_call 33; refine CP.out.mono ?_; rintro e w1 ⟨x, rfl, ⟨us, h1, h2⟩, hb⟩; have HX := Lib.hid (show HasMat w1 x m by rw [← h1]; exact mat_of_own h2); obtain ⟨xo, xc, rfl⟩ := mat_shape HX.out N HN.out; have B1 := Lib.hid hb; clear h1 h2 hb)
      | (go_at_call 39; refine (HA.out _ _ _ _ HN.out).mono ?_; rintro e w2 ⟨rfl, rfl⟩))
    go_ret
    exact ⟨_, rfl, by rw [HE.out]; exact HX.out, B1.out⟩
  | true =>
    obtain ⟨k, rfl, hk, hrow⟩ := rowM_in hR
    have HA := Lib.hid (fun ao n c w (hn : n = m.length) => show Calls Tryd.prog 39 #[.slice ao n c, .int .i64 (k : Int)] w fun e w' => e = .returned (.bool true) ∧ w = w' by rw [← hR, ← hn]; exact has_any ao n c (k : Int) w)
    obtain ⟨l0, hl0⟩ : ∃ l0, l0 = rowM m (k : Int) := ⟨_, rfl⟩
    rw [← hl0] at hrow
    have JN := Lib.hid (fun w v u hv hu => vecJoin_long l0 l (fits_at hm hrow) hl v u w hv hu)
    have HE := Lib.hid (show raiseM m (k : Int) l = m.set k (joinV l0 l) by
      rw [raiseM, if_pos ⟨by omega, by omega⟩, Int.toNat_natCast, List.getD_eq_getElem?_getD, hrow]; rfl)
    obtain ⟨N, hN⟩ : ∃ N, N = m.length := ⟨_, rfl⟩
    have HN := Lib.hid hN
    rw [← hN] at CP hk ⊢
    have HROW := Lib.hid hrow
    have q0 : (k : Int) < (N : Int) := by omega
    have hN4 : N ≤ 2000000 := by have := hm.1; omega
    clear hv hm hN hR hu hl hl0 hrow hk
    go_enter Tryd.func18, Tryd.ntmps18
    go_upto_region 2 with (first
      | (go_at_call 33; refine CP.out.mono ?_; rintro e w1 ⟨x, rfl, ⟨us, h1, h2⟩, hb⟩; have HX := Lib.hid (And.intro h1 h2); obtain ⟨xo, xc, rfl⟩ := (show ∃ xo xc, x = .slice xo N xc from by obtain ⟨xo, xc, e⟩ := ownMat_shape h2; refine ⟨xo, xc, ?_⟩; rw [e, HN.out, ← h1, List.length_map]); have B1 := Lib.hid hb; clear h1 h2 hb))
    obtain ⟨y, hy, hy1⟩ := us_at HX.out.1 HROW.out
    obtain ⟨g, cap', e0, hg0, c0, f0, hrow⟩ := ownMat_at HX.out.2 N k (by rw [HN.out, ← HX.out.1, List.length_map]) y hy
    simp only [Value.slice.injEq, true_and] at e0
    obtain ⟨rfl, rfl⟩ := e0
    have HG := Lib.hid hg0
    have HY := Lib.hid (And.intro hy hy1)
    have HR := Lib.hid (show HasDots w1 y.2 l0 by rw [← hy1]; exact hrow.1)
    obtain ⟨y1, yv⟩ := y
    simp only at c0 hy1 HY HR
    obtain ⟨yo, yc, rfl⟩ := dots_shape HR.out l0.length rfl
    clear hy hy1 hg0 hrow
    go_wp2_with (first
      | (go_at_call 39; refine (HA.out _ _ _ _ HN.out).mono ?_; rintro e w2 ⟨rfl, rfl⟩)
      | (go_at_call 25; refine (JN.out _ _ _ HR.out (dots_below HU.out B1.out)).mono ?_; rintro e w2 ⟨z, rfl, hz, hb⟩; have HZ := Lib.hid hz; obtain ⟨zo, zc, rfl⟩ := dots_shape hz.1 _ rfl; have B2 := Lib.hid hb; have O2 := Lib.hid (ownMat_below HX.out.2 hb); replace c0 := (World.cell?_of_block (hb.block g (World.block_lt_of_cell? w1 _ c0))).trans c0; have f1 : w2.frozen? ⟨g, k, none⟩ = false := ownMat_frozen O2.out k; clear hz hb))
    go_ret
    obtain ⟨h1, h2⟩ := ownMat_set (x := (joinV l0 l, _)) O2.out (row_typ HZ.out) k
    refine ⟨_, rfl, ?_, ?_⟩
    · have h3 := mat_of_own h1
      rw [List.map_set, HX.out.1] at h3
      rw [HE.out]
      exact h3
    · exact below_grown (below_next B1.out B2.out) h2 (below_next B1.out B2.out).size (fun j hj => by cases hj; exact HG.out)
theorem matRaise_any (m : M2) (hm : Fits m) (r : Int) (l : List D2) (hl : l.length < 2000000) (v u : Value) (w : World) (hv : HasMat w v m) (hu : HasDots w u l) : Calls Tryd.prog 18 #[v, .int .i64 r, u] w fun e w' => ∃ x, e = .returned x ∧ HasMat w' x (raiseM m r l) ∧ Below w.heap.size w w' := matRaise_long m hm r l (by omega) v u w hv hu
theorem low_take (m : M2) (x : List D2) (k : Nat) (l : List D2) (hl : m[k]? = some l) : (m.take (k + 1)).foldl meetV x = meetV ((m.take k).foldl meetV x) l := by
  rw [List.take_add_one, hl, List.foldl_append]; rfl
theorem lowM_fold {m : M2} {x : List D2} (h : m[0]? = some x) : m.foldl meetV x = lowM m := by
  cases m with
  | nil => cases h
  | cons a t => cases h; rw [List.foldl_cons, lowM]
theorem low_len (t : M2) : ∀ x : List D2, x.length ≤ 1000 → (t.foldl meetV x).length ≤ 1000 := by
  induction t with
  | nil => intro x h; exact h
  | cons y t ih =>
    intro x _
    rw [List.foldl_cons]
    have h1 := meetV_len x y
    generalize meetV x y = z at *
    exact ih z (by omega)
set_option maxRecDepth 100000 in
set_option maxHeartbeats 16000000 in
theorem matLow_any (m : M2) (hm : Fits m) (v : Value) (w : World) (hv : HasMat w v m) : Calls Tryd.prog 20 #[v] w fun e w' => ∃ x, e = .returned x ∧ HasDots w' x (lowM m) ∧ Below w.heap.size w w' := by
  by_cases h0 : m.length = 0
  · have he : m = [] := List.eq_nil_of_length_eq_zero h0
    subst he
    obtain ⟨ao, cap, rfl⟩ := mat_shape hv 0 rfl
    clear hv hm h0
    go_enter Tryd.func20, Tryd.ntmps20
    go_wp2
    go_ret
    exact ⟨_, rfl, dots_nil _, Below.refl _ _⟩
  · obtain ⟨x0, hx0⟩ : ∃ x0, m[0]? = some x0 := ⟨_, List.getElem?_eq_getElem (by omega)⟩
    have hx1 := hm.2 x0 (List.mem_of_getElem? hx0)
    obtain ⟨ad, cap, u, rfl, c0, hd⟩ := mat_at hv m.length 0 rfl _ hx0
    have FO := Lib.hid (foldLow_any m (by have := hm.1; omega) _ u w hv (fun k t wr => HasDots wr t ((m.take k).foldl meetV x0) ∧ Below w.heap.size w wr) ⟨hd, Below.refl _ _⟩ (fun _ _ _ h => h.2)
      (fun k l hl t u wr hI _ hu => by
        obtain ⟨ht, hb⟩ := hI
        refine (vecMeet_any _ l (by have := low_len (m.take k) x0 hx1; omega) (fits_at hm hl) t u wr ht hu).mono fun e w' ⟨t', h1, h2, h3⟩ => ⟨t', h1, ⟨by rw [low_take m x0 k l hl]; exact h2, below_next hb h3⟩⟩))
    have HE := Lib.hid (lowM_fold hx0)
    obtain ⟨N, hN⟩ : ∃ N, N = m.length := ⟨_, rfl⟩
    have HA := Lib.hid (show m.take N = m by rw [hN, List.take_length])
    have t1 : ((N : Int) == 0) = false := beq_eq_false_iff_ne.2 (by omega)
    have q0 : (0 : Int) < (N : Int) := by omega
    rw [← hN] at FO ⊢
    have hadd : ad.add 0 = ad := by unfold Addr.add; split <;> simp_all
    rw [hadd] at c0
    clear hadd
    obtain ⟨uo, ucap, rfl⟩ := dots_shape hd x0.length rfl
    clear hv hm hN h0 hx0 hx1 hd
    go_enter Tryd.func20, Tryd.ntmps20
    go_wp2_with (first
      | (go_at_call 43; refine FO.out.mono ?_; rintro e w1 ⟨t', rfl, h1, hb⟩; have H1 := Lib.hid h1; have B1 := Lib.hid hb; clear hb h1))
    go_ret
    exact ⟨_, rfl, by have h := H1.out; rw [HA.out, HE.out] at h; exact h, B1.out⟩
end Go.Proofs.YtcnjgdnokiindaaDoor
namespace Go.Proofs.YtcnjgdnokiindaaDoor
open Go.RowKit
theorem joinM_nil (a : M2) : joinM a [] = a := by cases a <;> rfl
theorem joinM_comm (a b : M2) : joinM a b = joinM b a := by
  induction a generalizing b with
  | nil => rw [joinM_nil, joinM]
  | cons x a ih =>
    cases b with
    | nil => rfl
    | cons y b => rw [joinM, joinM, ih b, joinV_comm]
theorem joinM_take (a : M2) : ∀ (b : M2) (k : Nat) (x y : List D2), a[k]? = some x → b[k]? = some y → (joinM a (b.take k))[k]? = some x ∧ (joinM a (b.take k)).set k (joinV x y) = joinM a (b.take (k + 1)) := by
  induction a with
  | nil => intro b k x y h; simp at h
  | cons a0 a ih =>
    intro b k x y ha hb
    cases b with
    | nil => simp at hb
    | cons b0 b =>
      cases k with
      | zero =>
        simp only [List.getElem?_cons_zero, Option.some.injEq] at ha hb
        subst ha; subst hb
        refine ⟨rfl, ?_⟩
        rw [List.take_zero, List.take_succ_cons, List.take_zero, joinM_nil, joinM, joinM_nil]; rfl
      | succ k =>
        have h := ih b k x y (by simpa using ha) (by simpa using hb)
        rw [List.take_succ_cons, List.take_succ_cons, joinM, joinM]
        exact ⟨by simpa using h.1, by rw [List.set_cons_succ, h.2]⟩
theorem joinM_take_len (a b : M2) (h : b.length ≤ a.length) (k : Nat) : (joinM a (b.take k)).length = a.length := by
  rw [joinM_length, List.length_take]; omega
set_option maxRecDepth 100000 in
set_option maxHeartbeats 16000000 in
theorem matJoin_any (a b : M2) (hma : Fits a) (hmb : Fits b) (v u : Value) (w : World) (hv : HasMat w v a) (hu : HasMat w u b) : Calls Tryd.prog 13 #[v, u] w fun e w' => ∃ x, e = .returned x ∧ HasMat w' x (joinM a b) ∧ Below w.heap.size w w' := by
  obtain ⟨ao, acap, rfl⟩ := mat_shape hv a.length rfl
  obtain ⟨bo, bcap, rfl⟩ := mat_shape hu b.length rfl
  obtain ⟨na, hna⟩ : ∃ n, n = a.length := ⟨_, rfl⟩
  obtain ⟨nb, hnb⟩ : ∃ n, n = b.length := ⟨_, rfl⟩
  rw [← hna] at hv ⊢
  rw [← hnb] at hu ⊢
  have hna4 : na ≤ 2000000 := by have := hma.1; omega
  have hnb4 : nb ≤ 2000000 := by have := hmb.1; omega
  by_cases hlt0 : na < nb
  · have q9 : (na : Int) < (nb : Int) := by omega
    have CP := Lib.hid (copied_any b hmb (.slice bo nb bcap) w hu)
    have HVB := Lib.hid hv
    have JN := Lib.hid (fun x y hx hy w v u hv hu => vecJoin_typ x y hx hy v u w hv hu)
    have HL := Lib.hid (fun k => joinM_take_len b a (by omega) k)
    have HT := Lib.hid (joinM_take b a)
    have HFA := Lib.hid (fun k l (hl : b[k]? = some l) => fits_at hmb hl)
    have HFB := Lib.hid (fun k l (hl : a[k]? = some l) => fits_at hma hl)
    have HEND := Lib.hid (show joinM b (a.take na) = joinM a b by rw [hna, List.take_length]; exact joinM_comm b a)
    have HNA := Lib.hid hnb
    have HNB := Lib.hid hna
    have HLE := Lib.hid (show na ≤ nb by omega)
    clear hv hu hma hmb hna hnb hlt0
    go_enter Tryd.func13, Tryd.ntmps13
    go_wp2_with (first
      | (go_at_call 33; refine CP.out.mono ?_; rintro e w1 ⟨x, rfl, ⟨us, h1, h2⟩, hb⟩; have HX := Lib.hid (And.intro h1 h2); obtain ⟨xo, xc, rfl⟩ := (show ∃ xo xc, x = .slice xo nb xc from by obtain ⟨xo, xc, e⟩ := ownMat_shape h2; refine ⟨xo, xc, ?_⟩; rw [e, HNA.out, ← h1, List.length_map]); have B1 := Lib.hid hb; clear h1 h2 hb))
    go_loopw [19] (fun c wr => ∃ (k : Nat) (us : List R2), k ≤ na ∧ c = .int .i64 (k : Int) ∧ us.map (·.1) = joinM b (a.take k) ∧ OwnMat w.heap.size wr (.slice xo nb xc) us ∧ Below w.heap.size w wr) (fun c _ => na - (intOf c).toNat)
    case atStart => exact ⟨0, us, by omega, rfl, by rw [List.take_zero, joinM_nil]; exact HX.out.1, HX.out.2, B1.out⟩
    case round =>
      clear HX B1 CP
      obtain ⟨k, us', hk, rfl, hus, ho, hb⟩ := hrel
      by_cases hlt : k < na
      · have q0 : (k : Int) < (na : Int) := by omega
        have q1 : (k : Int) < (nb : Int) := by have := HLE.out; omega
        have KK := Lib.hid (show k + 1 ≤ na ∧ na - (k + 1) < na - k by omega)
        obtain ⟨l, hl⟩ : ∃ l, a[k]? = some l := ⟨_, List.getElem?_eq_getElem (by have := HNB.out; omega)⟩
        obtain ⟨l0, hl0⟩ : ∃ l0, b[k]? = some l0 := ⟨_, List.getElem?_eq_getElem (by have := HNA.out; have := HLE.out; omega)⟩
        obtain ⟨ad, cap', u, e1, d1, hd⟩ := mat_at HVB.out na k HNB.out.symm l hl
        simp only [Value.slice.injEq] at e1
        obtain ⟨rfl, -, rfl⟩ := e1
        have d0 : wr.cell? (ad.add k) = some u := (World.cell?_of_block (hb.block (ad.add k).block (World.block_lt_of_cell? w _ d1))).trans d1
        have HD := Lib.hid (dots_below hd hb)
        obtain ⟨uo, ucap, rfl⟩ := dots_shape hd l.length rfl
        obtain ⟨ht1, ht2⟩ := HT.out k l0 l hl0 hl
        obtain ⟨⟨y1, yv⟩, hy, hy1⟩ := us_at hus ht1
        simp only at hy1
        subst hy1
        obtain ⟨g, cap2, e0, hg0, c0, f0, hrow⟩ := ownMat_at ho nb k (by rw [HNA.out, ← HL.out k, ← hus, List.length_map]) _ hy
        simp only [Value.slice.injEq, true_and] at e0
        obtain ⟨rfl, rfl⟩ := e0
        have HG := Lib.hid hg0
        have HR := Lib.hid (show HasDots wr yv y1 from hrow.1)
        simp only at c0
        obtain ⟨yo, yc, rfl⟩ := dots_shape HR.out y1.length rfl
        have HS := Lib.hid (show ∀ z, (us'.set k (joinV y1 l, z)).map (·.1) = joinM b (a.take (k + 1)) from fun z => by rw [List.map_set, hus]; exact ht2)
        have JJ := Lib.hid (fun w v u hv hu => JN.out y1 l (HFA.out _ _ hl0) (HFB.out _ _ hl) w v u hv hu)
        have HO := Lib.hid ho
        have HB := Lib.hid hb
        clear ho hb hus hl hl0 d1 hd ht1 ht2 hy hg0 hrow hlt hk
        go_wp2_with (first
          | (go_at_call 25; refine (JJ.out _ _ _ HR.out HD.out).mono ?_; rintro e w2 ⟨z, rfl, hz, hb⟩; have HZ := Lib.hid hz; obtain ⟨zo, zc, rfl⟩ := dots_shape hz.1 _ rfl; have B2 := Lib.hid (below_next HB.out hb); have O2 := Lib.hid (ownMat_below HO.out hb); replace c0 := (World.cell?_of_block (hb.block g (World.block_lt_of_cell? wr _ c0))).trans c0; have f1 : w2.frozen? ⟨g, k, none⟩ = false := ownMat_frozen O2.out k; clear hz hb))
        obtain ⟨h1, h2⟩ := ownMat_set (x := (joinV y1 l, _)) O2.out (row_typ HZ.out) k
        refine ⟨⟨k + 1, _, KK.out.1, by simp, HS.out _, h1, below_grown B2.out h2 B2.out.size (fun j hj => by cases hj; exact HG.out)⟩, ?_⟩
        have := KK.out.2; simp [intOf]; omega
      · have q0 : ¬ (k : Int) < (na : Int) := by omega
        obtain rfl : k = na := by omega
        have HF := Lib.hid (show HasMat wr (.slice xo nb xc) (joinM a b) by rw [← HEND.out, ← hus]; exact mat_of_own ho)
        have HB := Lib.hid hb
        clear ho hb hus hlt hk
        go_wp2
        go_ret
        exact ⟨_, rfl, HF.out, HB.out⟩
  · have q9 : ¬ (na : Int) < (nb : Int) := by omega
    have CP := Lib.hid (copied_any a hma (.slice ao na acap) w hv)
    have HVB := Lib.hid hu
    have JN := Lib.hid (fun x y hx hy w v u hv hu => vecJoin_typ x y hx hy v u w hv hu)
    have HL := Lib.hid (fun k => joinM_take_len a b (by omega) k)
    have HT := Lib.hid (joinM_take a b)
    have HFA := Lib.hid (fun k l (hl : a[k]? = some l) => fits_at hma hl)
    have HFB := Lib.hid (fun k l (hl : b[k]? = some l) => fits_at hmb hl)
    have HEND := Lib.hid (show joinM a (b.take nb) = joinM a b by rw [hnb, List.take_length])
    have HNA := Lib.hid hna
    have HNB := Lib.hid hnb
    have HLE := Lib.hid (show nb ≤ na by omega)
    clear hv hu hma hmb hna hnb hlt0
    go_enter Tryd.func13, Tryd.ntmps13
    go_wp2_with (first
      | (go_at_call 33; refine CP.out.mono ?_; rintro e w1 ⟨x, rfl, ⟨us, h1, h2⟩, hb⟩; have HX := Lib.hid (And.intro h1 h2); obtain ⟨xo, xc, rfl⟩ := (show ∃ xo xc, x = .slice xo na xc from by obtain ⟨xo, xc, e⟩ := ownMat_shape h2; refine ⟨xo, xc, ?_⟩; rw [e, HNA.out, ← h1, List.length_map]); have B1 := Lib.hid hb; clear h1 h2 hb))
    go_loopw [19] (fun c wr => ∃ (k : Nat) (us : List R2), k ≤ nb ∧ c = .int .i64 (k : Int) ∧ us.map (·.1) = joinM a (b.take k) ∧ OwnMat w.heap.size wr (.slice xo na xc) us ∧ Below w.heap.size w wr) (fun c _ => nb - (intOf c).toNat)
    case atStart => exact ⟨0, us, by omega, rfl, by rw [List.take_zero, joinM_nil]; exact HX.out.1, HX.out.2, B1.out⟩
    case round =>
      clear HX B1 CP
      obtain ⟨k, us', hk, rfl, hus, ho, hb⟩ := hrel
      by_cases hlt : k < nb
      · have q0 : (k : Int) < (nb : Int) := by omega
        have q1 : (k : Int) < (na : Int) := by have := HLE.out; omega
        have KK := Lib.hid (show k + 1 ≤ nb ∧ nb - (k + 1) < nb - k by omega)
        obtain ⟨l, hl⟩ : ∃ l, b[k]? = some l := ⟨_, List.getElem?_eq_getElem (by have := HNB.out; omega)⟩
        obtain ⟨l0, hl0⟩ : ∃ l0, a[k]? = some l0 := ⟨_, List.getElem?_eq_getElem (by have := HNA.out; have := HLE.out; omega)⟩
        obtain ⟨ad, cap', u, e1, d1, hd⟩ := mat_at HVB.out nb k HNB.out.symm l hl
        simp only [Value.slice.injEq] at e1
        obtain ⟨rfl, -, rfl⟩ := e1
        have d0 : wr.cell? (ad.add k) = some u := (World.cell?_of_block (hb.block (ad.add k).block (World.block_lt_of_cell? w _ d1))).trans d1
        have HD := Lib.hid (dots_below hd hb)
        obtain ⟨uo, ucap, rfl⟩ := dots_shape hd l.length rfl
        obtain ⟨ht1, ht2⟩ := HT.out k l0 l hl0 hl
        obtain ⟨⟨y1, yv⟩, hy, hy1⟩ := us_at hus ht1
        simp only at hy1
        subst hy1
        obtain ⟨g, cap2, e0, hg0, c0, f0, hrow⟩ := ownMat_at ho na k (by rw [HNA.out, ← HL.out k, ← hus, List.length_map]) _ hy
        simp only [Value.slice.injEq, true_and] at e0
        obtain ⟨rfl, rfl⟩ := e0
        have HG := Lib.hid hg0
        have HR := Lib.hid (show HasDots wr yv y1 from hrow.1)
        simp only at c0
        obtain ⟨yo, yc, rfl⟩ := dots_shape HR.out y1.length rfl
        have HS := Lib.hid (show ∀ z, (us'.set k (joinV y1 l, z)).map (·.1) = joinM a (b.take (k + 1)) from fun z => by rw [List.map_set, hus]; exact ht2)
        have JJ := Lib.hid (fun w v u hv hu => JN.out y1 l (HFA.out _ _ hl0) (HFB.out _ _ hl) w v u hv hu)
        have HO := Lib.hid ho
        have HB := Lib.hid hb
        clear ho hb hus hl hl0 d1 hd ht1 ht2 hy hg0 hrow hlt hk
        go_wp2_with (first
          | (go_at_call 25; refine (JJ.out _ _ _ HR.out HD.out).mono ?_; rintro e w2 ⟨z, rfl, hz, hb⟩; have HZ := Lib.hid hz; obtain ⟨zo, zc, rfl⟩ := dots_shape hz.1 _ rfl; have B2 := Lib.hid (below_next HB.out hb); have O2 := Lib.hid (ownMat_below HO.out hb); replace c0 := (World.cell?_of_block (hb.block g (World.block_lt_of_cell? wr _ c0))).trans c0; have f1 : w2.frozen? ⟨g, k, none⟩ = false := ownMat_frozen O2.out k; clear hz hb))
        obtain ⟨h1, h2⟩ := ownMat_set (x := (joinV y1 l, _)) O2.out (row_typ HZ.out) k
        refine ⟨⟨k + 1, _, KK.out.1, by simp, HS.out _, h1, below_grown B2.out h2 B2.out.size (fun j hj => by cases hj; exact HG.out)⟩, ?_⟩
        have := KK.out.2; simp [intOf]; omega
      · have q0 : ¬ (k : Int) < (nb : Int) := by omega
        obtain rfl : k = nb := by omega
        have HF := Lib.hid (show HasMat wr (.slice xo na xc) (joinM a b) by rw [← HEND.out, ← hus]; exact mat_of_own ho)
        have HB := Lib.hid hb
        clear ho hb hus hlt hk
        go_wp2
        go_ret
        exact ⟨_, rfl, HF.out, HB.out⟩
end Go.Proofs.YtcnjgdnokiindaaDoor
namespace Go.Proofs.YtcnjgdnokiindaaDoor
open Go.RowKit
/-- What worth answers. -/
def worthI (c : UInt8) : Nat := match fig c with | some n => n | none => 16
theorem worth_any (c : UInt8) (w : World) : Calls Tryd.prog 83 #[.int .u8 (c.toNat : Int)] w fun e w' => e = .returned (.int .u8 (worthI c : Int)) ∧ w = w' := by
  obtain ⟨x, hx⟩ : ∃ x : Nat, x = c.toNat := ⟨_, rfl⟩
  have hxlt := UInt8.toNat_lt c
  have HX := Lib.hid hx
  rw [← hx] at hxlt ⊢
  clear hx
  by_cases h1 : 48 ≤ x ∧ x ≤ 57
  · have HW := Lib.hid (show worthI c = x - 48 by unfold worthI fig; rw [← HX.out, if_pos h1])
    obtain ⟨d, hd⟩ : ∃ d : Nat, d = x - 48 := ⟨_, rfl⟩
    have b1 : decide ((48 : Int) ≤ (x : Int)) = true := decide_eq_true (by omega)
    have b2 : decide ((x : Int) ≤ 57) = true := decide_eq_true (by omega)
    have e1 : (x : Int) - 48 = (d : Int) := by omega
    have e2 : IntKind.u8.wrap (d : Int) = (d : Int) := by rw [IntKind.wrap_u8]; omega
    have HD := Lib.hid hd
    clear hd h1 hxlt
    go_enter Tryd.func83, Tryd.ntmps83
    go_wp2
    go_ret
    exact ⟨by rw [HW.out, ← HD.out]; rfl, rfl⟩
  · by_cases h2 : 97 ≤ x ∧ x ≤ 102
    · have HW := Lib.hid (show worthI c = x - 87 by unfold worthI fig; rw [← HX.out, if_neg h1, if_pos h2])
      obtain ⟨d, hd⟩ : ∃ d : Nat, d = x - 97 := ⟨_, rfl⟩
      obtain ⟨g, hg⟩ : ∃ g : Nat, g = d + 10 := ⟨_, rfl⟩
      have b1 : decide ((48 : Int) ≤ (x : Int)) = true := decide_eq_true (by omega)
      have b2 : decide ((x : Int) ≤ 57) = false := decide_eq_false (by omega)
      have b3 : decide ((97 : Int) ≤ (x : Int)) = true := decide_eq_true (by omega)
      have b4 : decide ((x : Int) ≤ 102) = true := decide_eq_true (by omega)
      have e1 : (x : Int) - 97 = (d : Int) := by omega
      have e2 : IntKind.u8.wrap (d : Int) = (d : Int) := by rw [IntKind.wrap_u8]; omega
      have e3 : (d : Int) + 10 = (g : Int) := by omega
      have e4 : IntKind.u8.wrap (g : Int) = (g : Int) := by rw [IntKind.wrap_u8]; omega
      have HD := Lib.hid (show g = x - 87 by omega)
      clear hd hg h1 h2 hxlt
      go_enter Tryd.func83, Tryd.ntmps83
      go_wp2
      go_ret
      exact ⟨by rw [HW.out, ← HD.out]; rfl, rfl⟩
    · have HW := Lib.hid (show worthI c = 16 by unfold worthI fig; rw [← HX.out, if_neg h1, if_neg h2])
      by_cases c1 : 48 ≤ x
      · have b1 : decide ((48 : Int) ≤ (x : Int)) = true := decide_eq_true (by omega)
        have b2 : decide ((x : Int) ≤ 57) = false := decide_eq_false (by omega)
        by_cases c2 : 97 ≤ x
        · have b3 : decide ((97 : Int) ≤ (x : Int)) = true := decide_eq_true (by omega)
          have b4 : decide ((x : Int) ≤ 102) = false := decide_eq_false (by omega)
          clear h1 h2 c1 c2 hxlt
          go_enter Tryd.func83, Tryd.ntmps83
          go_wp2
          go_ret
          exact ⟨by rw [HW.out]; rfl, rfl⟩
        · have b3 : decide ((97 : Int) ≤ (x : Int)) = false := decide_eq_false (by omega)
          clear h1 h2 c1 c2 hxlt
          go_enter Tryd.func83, Tryd.ntmps83
          go_wp2
          go_ret
          exact ⟨by rw [HW.out]; rfl, rfl⟩
      · have b1 : decide ((48 : Int) ≤ (x : Int)) = false := decide_eq_false (by omega)
        have b3 : decide ((97 : Int) ≤ (x : Int)) = false := decide_eq_false (by omega)
        clear h1 h2 c1 hxlt
        go_enter Tryd.func83, Tryd.ntmps83
        go_wp2
        go_ret
        exact ⟨by rw [HW.out]; rfl, rfl⟩
theorem dec_digs (m : Nat) : Lib.decDigits m = digs m := by
  induction m using Nat.strongRecOn with
  | _ m ih =>
    by_cases h : m < 10
    · rw [digs_lo m h, Lib.decDigits, dif_pos h]
    · rw [digs_hi m (by omega), Lib.decDigits, dif_neg h, ih _ (by omega)]
theorem itoa_num (n : Int) : Lib.itoa n = numL n := by
  unfold Lib.itoa numL
  by_cases h : n < 0
  · rw [if_pos h, if_pos h, dec_digs]
  · rw [if_neg h, if_neg h, dec_digs]; congr 1; omega
theorem number_any (w : World) (n : Int) (h0 : -9223372036854775808 ≤ n) (h1 : n < 9223372036854775808) (hT : PowTab w) :
    Calls Tryd.prog 68 #[.int .i64 n] w fun e w' => e = .returned (.string (str (numL n))) ∧ Below w.heap.size w w' := by
  have HC := Lib.hid (Tryd.strconv_FormatInt_10 n h0 (by omega) w hT)
  go_enter Tryd.func68, Tryd.ntmps68
  go_wp2_with (first | (go_at_call 79; refine HC.out.mono ?_; rintro e w' ⟨rfl, k, os, rfl⟩))
  go_ret
  exact ⟨by rw [itoa_num]; rfl, ⟨rfl, rfl, rfl, by simp [Sort.grow, World.drewN], fun i hi => Array.getElem?_append_left hi⟩⟩
end Go.Proofs.YtcnjgdnokiindaaDoor
namespace Go.Proofs.YtcnjgdnokiindaaDoor
open Go.RowKit
theorem worth_dig {c : UInt8} (h : isDig c = true) : worthI c = c.toNat - 48 ∧ worthI c ≤ 9 := by
  simp only [isDig, Bool.and_eq_true, decide_eq_true_eq] at h
  have : worthI c = c.toNat - 48 := by unfold worthI fig; rw [if_pos h]
  omega
theorem worth_nodig {c : UInt8} (h : ¬ isDig c = true) : 9 < worthI c := by
  simp only [isDig, Bool.and_eq_true, decide_eq_true_eq] at h
  unfold worthI fig
  rw [if_neg h]
  by_cases h2 : 97 ≤ c.toNat ∧ c.toNat ≤ 102
  · rw [if_pos h2]; show 9 < c.toNat - 87; omega
  · rw [if_neg h2]; decide
theorem val_next (s : List UInt8) (k : Nat) (c : UInt8) (hc : s[k]? = some c) : valN (s.take (k + 1)) = 10 * valN (s.take k) + (c.toNat - 48) := by
  obtain ⟨hk, rfl⟩ := List.getElem?_eq_some_iff.1 hc
  rw [List.take_succ_eq_append_getElem hk, valN_snoc]
theorem val_take_le (s : List UInt8) (k m : Nat) (h : k ≤ m) : valN (s.take k) ≤ valN (s.take m) := by
  induction m with
  | zero => obtain rfl : k = 0 := by omega
            exact Nat.le_refl _
  | succ m ih =>
    rcases Nat.lt_or_ge k (m + 1) with h' | h'
    · have h1 := ih (by omega)
      rcases Nat.lt_or_ge m s.length with hm | hm
      · have := val_next s m s[m] (List.getElem?_eq_getElem hm); omega
      · rw [List.take_of_length_le (show s.length ≤ m + 1 by omega)]
        rwa [List.take_of_length_le hm] at h1
    · obtain rfl : k = m + 1 := by omega
      exact Nat.le_refl _
theorem num_over (s : List UInt8) (k : Nat) (c : UInt8) (hc : s[k]? = some c) (h : 9223372036854775808 ≤ 10 * valN (s.take k) + (c.toNat - 48)) : isNum s = false := by
  have h1 := val_next s k c hc
  have hk := (List.getElem?_eq_some_iff.1 hc).1
  have h2 := val_take_le s (k + 1) s.length (by omega)
  rw [List.take_length] at h2
  cases hn : isNum s with
  | false => rfl
  | true => have := (isNum_val hn).1; omega
theorem num_nodig (s : List UInt8) (c : UInt8) (hc : c ∈ s) (h : ¬ isDig c = true) : isNum s = false := by
  cases hn : isNum s with
  | false => rfl
  | true =>
    simp only [isNum, Bool.and_eq_true, List.all_eq_true] at hn
    exact absurd (hn.2.1 c hc) h
theorem digs_first (m : Nat) (h : (digs m)[0]? = some 48) : m = 0 := by
  induction m using Nat.strongRecOn with
  | _ m ih =>
    by_cases h10 : m < 10
    · rw [digs_lo m h10] at h
      have h1 : UInt8.ofNat (48 + m) = 48 := by simpa using h
      have h2 := dig_toNat m h10
      rw [h1, show (48 : UInt8).toNat = 48 from rfl] at h2
      omega
    · rw [digs_hi m (by omega), List.getElem?_append_left (digs_pos _)] at h
      have := ih (m / 10) (by omega) h
      omega
theorem num_lead (s : List UInt8) (h : s[0]? = some 48) (hs : s ≠ [48]) : isNum s = false := by
  cases hn : isNum s with
  | false => rfl
  | true =>
    have h1 := (isNum_val hn).2
    rw [← h1] at h
    have h2 := digs_first _ h
    rw [h2, digs_lo 0 (by omega)] at h1
    exact absurd h1.symm hs
theorem digs_val (n : Nat) : ∀ s : List UInt8, s.length = n → s ≠ [] → (∀ c ∈ s, isDig c = true) → (s[0]? = some 48 → s = [48]) → digs (valN s) = s := by
  induction n with
  | zero => intro s hl hne; exact absurd (List.eq_nil_of_length_eq_zero hl) hne
  | succ n ih =>
    intro s hl hne hd h0
    rcases List.eq_nil_or_concat s with rfl | ⟨t, c, rfl⟩
    · exact absurd rfl hne
    · rw [List.concat_eq_append] at *
      have hc := hd c (by simp)
      simp only [isDig, Bool.and_eq_true, decide_eq_true_eq] at hc
      have hcc : UInt8.ofNat (48 + (c.toNat - 48)) = c := by
        apply UInt8.toNat_inj.1
        rw [dig_toNat _ (by omega)]; omega
      rw [valN_snoc]
      by_cases ht : t = []
      · subst ht
        rw [valN_nil, digs_lo _ (by omega)]
        simp [hcc]
      · have ht0 : 0 < t.length := List.length_pos_iff.2 ht
        have hlt : t.length = n := by simpa using hl
        have hf : t[0]? ≠ some 48 := fun h => by
          have := h0 (by rw [List.getElem?_append_left ht0]; exact h)
          have := congrArg List.length this
          exact ht (by simpa using this)
        have h1 := ih t hlt ht (fun c hc => hd c (by simp [hc])) (fun h => absurd h hf)
        have hpos : 0 < valN t := by
          rcases Nat.eq_zero_or_pos (valN t) with h | h
          · rw [h, digs_lo 0 (by omega)] at h1
            rw [← h1] at hf
            exact absurd rfl hf
          · exact h
        rw [digs_hi _ (by omega), show (10 * valN t + (c.toNat - 48)) / 10 = valN t from by omega, show (10 * valN t + (c.toNat - 48)) % 10 = c.toNat - 48 from by omega, h1, hcc]
theorem num_good (s : List UInt8) (hne : s ≠ []) (hd : ∀ c ∈ s, isDig c = true) (h0 : s[0]? = some 48 → s = [48]) (hv : valN s < 9223372036854775808) : isNum s = true := by
  have h1 := digs_val s.length s rfl hne hd h0
  have h2 := digs_length 19 (valN s) (by omega) (by omega)
  rw [h1] at h2
  have he : s.isEmpty = false := by cases s with | nil => exact absurd rfl hne | cons a l => rfl
  have hall : s.all isDig = true := List.all_eq_true.2 hd
  simp [isNum, he, h2, hall, hv, h1]
theorem wrap_nat (p : Nat) (h : p < 9223372036854775808) : IntKind.i64.wrap (p : Int) = (p : Int) := by rw [IntKind.wrap_i64]; omega
theorem next_i64 (k : Nat) (h : k + 1 < 9223372036854775808) : wrap64 ((k : Int) + 1) = ((k + 1 : Nat) : Int) := by rw [wrap64]; omega
theorem read_step (v g : Nat) (hg : g ≤ 9) : ∃ M D : Int, (9223372036854775807 : Int) - (g : Int) = M ∧ IntKind.i64.wrap M = M ∧ M / (10 : Int) = D ∧ IntKind.i64.wrap D = D ∧ M.tdiv 10 = D ∧
    (D < (v : Int) → 9223372036854775808 ≤ 10 * v + g) ∧ (¬ D < (v : Int) → 10 * v + g < 9223372036854775808) := by
  refine ⟨_, _, rfl, by rw [IntKind.wrap_i64]; omega, rfl, by rw [IntKind.wrap_i64]; omega, Int.tdiv_eq_ediv_of_nonneg (by omega), fun h => by omega, fun h => by omega⟩
/-- What holds where a text that is no number's is left. -/
def LeftRead (s : List UInt8) (w : World) : Act → World → Prop := fun a' w' => (∃ u0' u1' u2' u3' u4' u5' u6' u7' u8' u9' u10' u11' u12' u13' u14' u15' u16' u17' u18' u19' u20' u21' u22' u23' u24' u25' u26' u27' u28' u29' u30' u31' u32' u33' u34' u35' u36' u37' u38' u39' u40' u41' u42' u43' u44' u45' u46' : Value, a' = { tmps := #[u0', u1', u2', u3', u4', u5', u6', u7', u8', u9', u10', u11', u12', u13', u14', u15', u16', u17', u18', u19', u20', u21', u22', u23', u24', u25', u26', u27', u28', u29', u30', u31', u32', u33', u34', u35', u36', u37', u38', u39', u40', u41', u42', u43', u44', u45', u46'], defers := [] }) ∧ isNum s = false ∧ w' = w
set_option maxRecDepth 100000 in
set_option maxHeartbeats 8000000 in
theorem read_any (w : World) (s : List UInt8) (most : Int) (hs : s.length < 9223372036854775808) : Calls Tryd.prog 73 #[.string (str s), .int .i64 most] w fun e w' => e = .returned (.tuple #[.int .i64 (readN s most), .int .i64 (readErr s most)]) ∧ Below w.heap.size w w' := by
  obtain ⟨n, hn⟩ : ∃ n, n = s.length := ⟨_, rfl⟩
  have HN := Lib.hid hn
  have hsz : (str s).size = n := by rw [str_size, hn]
  have hl : (str s).toList = s := str_toList s
  have HS := Lib.hid hs
  clear hn hs
  go_enter Tryd.func73, Tryd.ntmps73
  go_wp2
  refine wp_scope_jumps 0 (LeftRead s w) (fun _ _ => 0) rfl ?_ ?_
  · by_cases he : s = []
    · subst he
      go_wp2
      go_step3
      exact ⟨rfl, ⟨_, _, _, _, _, _, _, _, _, _, _, _, _, _, _, _, _, _, _, _, _, _, _, _, _, _, _, _, _, _, _, _, _, _, _, _, _, _, _, _, _, _, _, _, _, _, _, rfl⟩, rfl, rfl⟩
    · obtain ⟨c0, hc0⟩ : ∃ c, s[0]? = some c := by cases s with | nil => exact absurd rfl he | cons a l => exact ⟨a, rfl⟩
      obtain ⟨x, hx⟩ : ∃ x, c0.toNat = x := ⟨_, rfl⟩
      have i0 : ∀ w, (Instr.index 9 (.string (str s)) (.int .i64 0)).run Tryd.prog w = .ok (.int .u8 (x : Int)) w := fun w => by rw [← hx]; exact index_str (P := Tryd.prog) w s .i64 0 c0 hc0 Tryd.underlying9
      have te : (s == []) = false := by rw [beq_eq_false_iff_ne]; exact he
      have HX := Lib.hid (And.intro hx hc0)
      have HE := Lib.hid he
      clear hx hc0 he
      by_cases h48 : x = 48
      · have hc48 : s[0]? = some 48 := by
          rw [HX.out.2]; congr 1; exact UInt8.toNat_inj.1 (by rw [HX.out.1, h48]; rfl)
        replace i0 : ∀ w, (Instr.index 9 (.string (str s)) (.int .i64 0)).run Tryd.prog w = .ok (.int .u8 48) w := fun w => by have := i0 w; rwa [h48] at this
        clear HX h48
        by_cases hs48 : s = [48]
        · have HL := Lib.hid (show s[0]? = some 48 → s = [48] from fun _ => hs48)
          have tb : (s == [48]) = true := by rw [beq_iff_eq]; exact hs48
          clear hs48 hc48
          go_wp2
          clear tb te i0
          go_loopw [6, 22] (fun x c wr => wr = w ∧ ∃ k : Nat, k ≤ n ∧ c = .int .i64 k ∧ (∃ v : Nat, v = valN (s.take k) ∧ v < 9223372036854775808 ∧ x = .int .i64 v) ∧ ∀ j, j < k → ∀ c, s[j]? = some c → isDig c = true) (fun _ c _ => n - (intOf c).toNat)
          case atStart => exact ⟨rfl, 0, by omega, rfl, ⟨0, by rw [List.take_zero, valN_nil], by omega, rfl⟩, fun j hj => by omega⟩
          case round =>
            obtain ⟨rfl, k, hk, rfl, ⟨v, hv, hv63, rfl⟩, hall⟩ := hrel
            have HA := Lib.hid hall
            have HV := Lib.hid (And.intro hv hv63)
            clear hall hv hv63
            by_cases hlt : k < n
            · obtain ⟨c, hc⟩ : ∃ c, s[k]? = some c := ⟨s[k]'(by have := HN.out; omega), List.getElem?_eq_getElem _⟩
              have i1 := fun w => index_str (P := Tryd.prog) w s .i64 k c hc Tryd.underlying9
              have HC := Lib.hid hc
              have q0 : (k : Int) < (n : Int) := by omega
              have w64 := next_i64 k (by have := HS.out; have := HN.out; omega)
              obtain ⟨g, hg⟩ : ∃ g, worthI c = g := ⟨_, rfl⟩
              have HW := Lib.hid (show ∀ w, Calls Tryd.prog 83 #[.int .u8 (c.toNat : Int)] w fun e w' => e = .returned (.int .u8 (g : Int)) ∧ w = w' from fun w => by have := worth_any c w; rwa [hg] at this)
              have HG := Lib.hid hg
              clear hc hg
              by_cases hdg : isDig c = true
              · have hw9 := worth_dig hdg
                rw [HG.out] at hw9
                have hg9 : g ≤ 9 := hw9.2
                have t1 : decide ((9 : Int) < (g : Int)) = false := decide_eq_false (by omega)
                have e1 := wrap_nat g (by omega)
                obtain ⟨M, D, hM, e2, hD, e3, e3', hlow, hhigh⟩ := read_step v g hg9
                have HDG := Lib.hid hdg
                by_cases hov : D < (v : Int)
                · have t2 : decide (D < (v : Int)) = true := decide_eq_true hov
                  have HBAD := Lib.hid (show isNum s = false from num_over s k c HC.out (by rw [← HV.out.1, ← hw9.1]; exact hlow hov))
                  clear hov hg9 hw9 hdg hlow hhigh
                  go_wp2_with (first | (go_at_call 83; refine (HW.out _).mono ?_; rintro e w' ⟨rfl, rfl⟩))
                  go_step3
                  exact ⟨rfl, ⟨_, _, _, _, _, _, _, _, _, _, _, _, _, _, _, _, _, _, _, _, _, _, _, _, _, _, _, _, _, _, _, _, _, _, _, _, _, _, _, _, _, _, _, _, _, _, _, rfl⟩, HBAD.out, rfl⟩
                · have t2 : decide (D < (v : Int)) = false := decide_eq_false hov
                  obtain ⟨p, hp⟩ : ∃ p : Nat, p = 10 * v := ⟨_, rfl⟩
                  obtain ⟨q, hq⟩ : ∃ q : Nat, q = p + g := ⟨_, rfl⟩
                  have f1 : (10 : Int) * (v : Int) = (p : Int) := by omega
                  have hpq := hhigh hov
                  have f2 := wrap_nat p (by omega)
                  have f3 : (p : Int) + (g : Int) = (q : Int) := by omega
                  have f4 := wrap_nat q (by omega)
                  have HQ := Lib.hid (show q = valN (s.take (k + 1)) ∧ q < 9223372036854775808 from ⟨by rw [val_next s k c HC.out, ← HV.out.1, ← hw9.1, hq, hp], by omega⟩)
                  clear hov hg9 hw9 hdg hp hq hlow hhigh hpq
                  go_wp2_with (first | (go_at_call 83; refine (HW.out _).mono ?_; rintro e w' ⟨rfl, rfl⟩))
                  clear hM e2 hD e3 e3' f1 f2 f3 f4 e1 t1 t2
                  refine ⟨⟨trivial, k + 1, by omega, by go_num, ⟨q, HQ.out.1, HQ.out.2, rfl⟩, fun j hj c' hc' => ?_⟩, by rw [w64]; show n - ((k + 1 : Nat) : Int).toNat < n - (k : Int).toNat; rw [Int.toNat_natCast, Int.toNat_natCast]; omega⟩
                  rcases Nat.lt_or_ge j k with h | h
                  · exact HA.out j h c' hc'
                  · obtain rfl : j = k := by omega
                    rw [HC.out] at hc'; cases hc'; exact HDG.out
              · have hw9 := worth_nodig hdg
                rw [HG.out] at hw9
                have t1 : decide ((9 : Int) < (g : Int)) = true := decide_eq_true (by omega)
                have HBAD := Lib.hid (show isNum s = false from num_nodig s c (List.mem_of_getElem? HC.out) hdg)
                clear hw9 hdg
                go_wp2_with (first | (go_at_call 83; refine (HW.out _).mono ?_; rintro e w' ⟨rfl, rfl⟩))
                go_step3
                exact ⟨rfl, ⟨_, _, _, _, _, _, _, _, _, _, _, _, _, _, _, _, _, _, _, _, _, _, _, _, _, _, _, _, _, _, _, _, _, _, _, _, _, _, _, _, _, _, _, _, _, _, _, rfl⟩, HBAD.out, rfl⟩
            · obtain rfl : k = n := by omega
              have hq : decide ((k : Int) < (k : Int)) = false := decide_eq_false (by omega)
              have hnum : isNum s = true ∧ v = valN s := by
                have hv := HV.out.1
                rw [HN.out, List.take_length] at hv
                exact ⟨num_good s HE.out (fun c hc => by
                  obtain ⟨j, hj, rfl⟩ := List.mem_iff_getElem.1 hc
                  exact HA.out j (by rw [HN.out]; exact hj) _ (List.getElem?_eq_getElem hj)) HL.out (by rw [← hv]; exact HV.out.2), hv⟩
              by_cases hmo : most < (v : Int)
              · obtain ⟨h1, h2⟩ := read_over hnum.1 (show most < (valN s : Int) from hnum.2 ▸ hmo)
                have HP := Lib.hid (And.intro h1 h2)
                have t2 : decide (most < (v : Int)) = true := decide_eq_true hmo
                clear h1 h2 hnum hmo
                go_wp2
                simp only [Exit.jump]
                go_ret2
                exact ⟨by rw [HP.out.1, HP.out.2]; try rfl, Below.refl _ _⟩
              · obtain ⟨h1, h2⟩ := read_good hnum.1 (show ¬ most < (valN s : Int) from hnum.2 ▸ hmo)
                rw [← hnum.2] at h1
                have HP := Lib.hid (And.intro h1 h2)
                have t2 : decide (most < (v : Int)) = false := decide_eq_false hmo
                clear h1 h2 hnum hmo
                go_wp2
                simp only [Exit.jump]
                go_ret2
                exact ⟨by rw [HP.out.1, HP.out.2]; try rfl, Below.refl _ _⟩
        · have HBAD := Lib.hid (num_lead s hc48 hs48)
          have tb : (s == [48]) = false := by rw [beq_eq_false_iff_ne]; exact hs48
          clear hs48 hc48
          go_wp2
          go_step3
          exact ⟨rfl, ⟨_, _, _, _, _, _, _, _, _, _, _, _, _, _, _, _, _, _, _, _, _, _, _, _, _, _, _, _, _, _, _, _, _, _, _, _, _, _, _, _, _, _, _, _, _, _, _, rfl⟩, HBAD.out, rfl⟩
      · have tb : ((x : Int) == 48) = false := by rw [beq_eq_false_iff_ne]; omega
        have HL := Lib.hid (show s[0]? = some 48 → s = [48] from fun h => by
          rw [HX.out.2] at h; have h1 := HX.out.1; cases h; exact absurd h1.symm h48)
        clear HX h48
        go_wp2
        clear tb te i0
        go_loopw [6, 22] (fun x c wr => wr = w ∧ ∃ k : Nat, k ≤ n ∧ c = .int .i64 k ∧ (∃ v : Nat, v = valN (s.take k) ∧ v < 9223372036854775808 ∧ x = .int .i64 v) ∧ ∀ j, j < k → ∀ c, s[j]? = some c → isDig c = true) (fun _ c _ => n - (intOf c).toNat)
        case atStart => exact ⟨rfl, 0, by omega, rfl, ⟨0, by rw [List.take_zero, valN_nil], by omega, rfl⟩, fun j hj => by omega⟩
        case round =>
          obtain ⟨rfl, k, hk, rfl, ⟨v, hv, hv63, rfl⟩, hall⟩ := hrel
          have HA := Lib.hid hall
          have HV := Lib.hid (And.intro hv hv63)
          clear hall hv hv63
          by_cases hlt : k < n
          · obtain ⟨c, hc⟩ : ∃ c, s[k]? = some c := ⟨s[k]'(by have := HN.out; omega), List.getElem?_eq_getElem _⟩
            have i1 := fun w => index_str (P := Tryd.prog) w s .i64 k c hc Tryd.underlying9
            have HC := Lib.hid hc
            have q0 : (k : Int) < (n : Int) := by omega
            have w64 := next_i64 k (by have := HS.out; have := HN.out; omega)
            obtain ⟨g, hg⟩ : ∃ g, worthI c = g := ⟨_, rfl⟩
            have HW := Lib.hid (show ∀ w, Calls Tryd.prog 83 #[.int .u8 (c.toNat : Int)] w fun e w' => e = .returned (.int .u8 (g : Int)) ∧ w = w' from fun w => by have := worth_any c w; rwa [hg] at this)
            have HG := Lib.hid hg
            clear hc hg
            by_cases hdg : isDig c = true
            · have hw9 := worth_dig hdg
              rw [HG.out] at hw9
              have hg9 : g ≤ 9 := hw9.2
              have t1 : decide ((9 : Int) < (g : Int)) = false := decide_eq_false (by omega)
              have e1 := wrap_nat g (by omega)
              obtain ⟨M, D, hM, e2, hD, e3, e3', hlow, hhigh⟩ := read_step v g hg9
              have HDG := Lib.hid hdg
              by_cases hov : D < (v : Int)
              · have t2 : decide (D < (v : Int)) = true := decide_eq_true hov
                have HBAD := Lib.hid (show isNum s = false from num_over s k c HC.out (by rw [← HV.out.1, ← hw9.1]; exact hlow hov))
                clear hov hg9 hw9 hdg hlow hhigh
                go_wp2_with (first | (go_at_call 83; refine (HW.out _).mono ?_; rintro e w' ⟨rfl, rfl⟩))
                go_step3
                exact ⟨rfl, ⟨_, _, _, _, _, _, _, _, _, _, _, _, _, _, _, _, _, _, _, _, _, _, _, _, _, _, _, _, _, _, _, _, _, _, _, _, _, _, _, _, _, _, _, _, _, _, _, rfl⟩, HBAD.out, rfl⟩
              · have t2 : decide (D < (v : Int)) = false := decide_eq_false hov
                obtain ⟨p, hp⟩ : ∃ p : Nat, p = 10 * v := ⟨_, rfl⟩
                obtain ⟨q, hq⟩ : ∃ q : Nat, q = p + g := ⟨_, rfl⟩
                have f1 : (10 : Int) * (v : Int) = (p : Int) := by omega
                have hpq := hhigh hov
                have f2 := wrap_nat p (by omega)
                have f3 : (p : Int) + (g : Int) = (q : Int) := by omega
                have f4 := wrap_nat q (by omega)
                have HQ := Lib.hid (show q = valN (s.take (k + 1)) ∧ q < 9223372036854775808 from ⟨by rw [val_next s k c HC.out, ← HV.out.1, ← hw9.1, hq, hp], by omega⟩)
                clear hov hg9 hw9 hdg hp hq hlow hhigh hpq
                go_wp2_with (first | (go_at_call 83; refine (HW.out _).mono ?_; rintro e w' ⟨rfl, rfl⟩))
                clear hM e2 hD e3 e3' f1 f2 f3 f4 e1 t1 t2
                refine ⟨⟨trivial, k + 1, by omega, by go_num, ⟨q, HQ.out.1, HQ.out.2, rfl⟩, fun j hj c' hc' => ?_⟩, by rw [w64]; show n - ((k + 1 : Nat) : Int).toNat < n - (k : Int).toNat; rw [Int.toNat_natCast, Int.toNat_natCast]; omega⟩
                rcases Nat.lt_or_ge j k with h | h
                · exact HA.out j h c' hc'
                · obtain rfl : j = k := by omega
                  rw [HC.out] at hc'; cases hc'; exact HDG.out
            · have hw9 := worth_nodig hdg
              rw [HG.out] at hw9
              have t1 : decide ((9 : Int) < (g : Int)) = true := decide_eq_true (by omega)
              have HBAD := Lib.hid (show isNum s = false from num_nodig s c (List.mem_of_getElem? HC.out) hdg)
              clear hw9 hdg
              go_wp2_with (first | (go_at_call 83; refine (HW.out _).mono ?_; rintro e w' ⟨rfl, rfl⟩))
              go_step3
              exact ⟨rfl, ⟨_, _, _, _, _, _, _, _, _, _, _, _, _, _, _, _, _, _, _, _, _, _, _, _, _, _, _, _, _, _, _, _, _, _, _, _, _, _, _, _, _, _, _, _, _, _, _, rfl⟩, HBAD.out, rfl⟩
          · obtain rfl : k = n := by omega
            have hq : decide ((k : Int) < (k : Int)) = false := decide_eq_false (by omega)
            have hnum : isNum s = true ∧ v = valN s := by
              have hv := HV.out.1
              rw [HN.out, List.take_length] at hv
              exact ⟨num_good s HE.out (fun c hc => by
                obtain ⟨j, hj, rfl⟩ := List.mem_iff_getElem.1 hc
                exact HA.out j (by rw [HN.out]; exact hj) _ (List.getElem?_eq_getElem hj)) HL.out (by rw [← hv]; exact HV.out.2), hv⟩
            by_cases hmo : most < (v : Int)
            · obtain ⟨h1, h2⟩ := read_over hnum.1 (show most < (valN s : Int) from hnum.2 ▸ hmo)
              have HP := Lib.hid (And.intro h1 h2)
              have t2 : decide (most < (v : Int)) = true := decide_eq_true hmo
              clear h1 h2 hnum hmo
              go_wp2
              simp only [Exit.jump]
              go_ret2
              exact ⟨by rw [HP.out.1, HP.out.2]; try rfl, Below.refl _ _⟩
            · obtain ⟨h1, h2⟩ := read_good hnum.1 (show ¬ most < (valN s : Int) from hnum.2 ▸ hmo)
              rw [← hnum.2] at h1
              have HP := Lib.hid (And.intro h1 h2)
              have t2 : decide (most < (v : Int)) = false := decide_eq_false hmo
              clear h1 h2 hnum hmo
              go_wp2
              simp only [Exit.jump]
              go_ret2
              exact ⟨by rw [HP.out.1, HP.out.2]; try rfl, Below.refl _ _⟩
  · rintro a' w1 ⟨⟨u0', u1', u2', u3', u4', u5', u6', u7', u8', u9', u10', u11', u12', u13', u14', u15', u16', u17', u18', u19', u20', u21', u22', u23', u24', u25', u26', u27', u28', u29', u30', u31', u32', u33', u34', u35', u36', u37', u38', u39', u40', u41', u42', u43', u44', u45', u46', rfl⟩, hbad, rfl⟩
    obtain ⟨hp1, hp2⟩ := read_bad hbad most
    have HP := Lib.hid (And.intro hp1 hp2)
    clear hbad hp1 hp2 hl hsz
    go_wp2
    simp only [Exit.jump]
    go_ret2
    exact ⟨by rw [HP.out.1, HP.out.2]; try rfl, Below.refl _ _⟩
end Go.Proofs.YtcnjgdnokiindaaDoor
namespace Go.Proofs.YtcnjgdnokiindaaDoor
open Go.RowKit
set_option maxRecDepth 100000 in
set_option maxHeartbeats 4000000 in
theorem text_any9 (r q : Int) (hr : I64 r) (hq : I64 q) (w : World) (hT : PowTab w) : Calls Tryd.prog 52 #[.agg #[.int .i64 r, .int .i64 q]] w fun e w' => e = .returned (.string (str (textD r q))) ∧ Below w.heap.size w w' := by
  have HT := Lib.hid hT
  have N1 := Lib.hid (fun w hT => number_any w r hr.1 hr.2 hT)
  have N2 := Lib.hid (fun w hT => number_any w q hq.1 hq.2 hT)
  have HL := Lib.hid (And.intro (numL_length r hr.1 hr.2) (numL_length q hq.1 hq.2))
  obtain ⟨R, hR⟩ : ∃ R, numL r = R := ⟨_, rfl⟩
  obtain ⟨Q, hQ⟩ : ∃ Q, numL q = Q := ⟨_, rfl⟩
  obtain ⟨A1, hA1⟩ : ∃ A1, R ++ [58] = A1 := ⟨_, rfl⟩
  obtain ⟨A2, hA2⟩ : ∃ A2, A1 ++ Q = A2 := ⟨_, rfl⟩
  have HE := Lib.hid (show A2 = textD r q by rw [← hA2, ← hA1, ← hR, ← hQ]; simp [textD])
  have hA := Lib.hid (And.intro hA1 hA2)
  rw [hR] at N1 HL
  rw [hQ] at N2 HL
  have c0 : (w.alloc (.cells #[.int .i64 r, .int .i64 q] 44 (0, 0))).cell? ⟨w.heap.size, 0, none⟩ = some (.int .i64 r) := by rw [cell_of_row _ _ 0 _ _ _ (heap_last w _)]; rfl
  have c1 : (w.alloc (.cells #[.int .i64 r, .int .i64 q] 44 (0, 0))).cell? ⟨w.heap.size, 1, none⟩ = some (.int .i64 q) := by rw [cell_of_row _ _ 1 _ _ _ (heap_last w _)]; rfl
  have B0 := Lib.hid ((Below.refl w.heap.size w).alloc (Nat.le_refl _) (.cells #[.int .i64 r, .int .i64 q] 44 (0, 0)))
  clear hr hq hR hQ hA1 hA2 hT
  go_enter Tryd.func52, Tryd.ntmps52
  go_wp2
  refine wp_region_held_drew (S := fun w' => Below (w.alloc (.cells #[.int .i64 r, .int .i64 q] 44 (0, 0))).heap.size (w.alloc (.cells #[.int .i64 r, .int .i64 q] 44 (0, 0))) w') (by kernel_rfl) (below_draws (Below.refl _ _) 1) (fun hHeld => ?_)
  generalize (w.alloc (.cells #[.int .i64 r, .int .i64 q] 44 (0, 0))).drew = wd at hHeld ⊢
  refine take_at (i := 0) 3 rfl rfl (by kernel_rfl) (by kernel_rfl) (by kernel_rfl) (fun _ _ _ h => h) (sure_yes (by rfl) (fun w => by go_simp; try with_reducible rfl)) hHeld ?_
  simp only [List.setIfInBounds_toArray, List.set_cons_zero, List.set_cons_succ]
  refine take_at (i := 4) 7 rfl rfl (by kernel_rfl) (by kernel_rfl) (by kernel_rfl) (fun _ _ _ h => h) (sure_yes (by rfl) (fun w => by go_simp; try with_reducible rfl)) hHeld ?_
  simp only [List.setIfInBounds_toArray, List.set_cons_zero, List.set_cons_succ]
  refine take_at (i := 1) 4 rfl rfl (by kernel_rfl) (by kernel_rfl) (by kernel_rfl) (fun _ _ _ h => h) (cell_yields (by rfl) 3 (.tmp 3) rfl w.heap.size 0 rfl .i64 r Tryd.underlying3 (fun w' h => (cell_same (h.block w.heap.size (by simp)) 0).trans c0)) hHeld ?_
  simp only [List.setIfInBounds_toArray, List.set_cons_zero, List.set_cons_succ]
  refine take_at (i := 5) 8 rfl rfl (by kernel_rfl) (by kernel_rfl) (by kernel_rfl) (fun _ _ _ h => h) (cell_yields (by rfl) 2 (.tmp 7) rfl w.heap.size 1 rfl .i64 q Tryd.underlying2 (fun w' h => (cell_same (h.block w.heap.size (by simp)) 1).trans c1)) hHeld ?_
  simp only [List.setIfInBounds_toArray, List.set_cons_zero, List.set_cons_succ]
  refine wpAnyH_ready (rs := [2]) (by kernel_rfl) (by simp) ?_
  refine AllReadyH.cons rfl (fun K hK => ?_) AllReadyH.nil
  go_simp
  go_at_call 68
  refine (N1.out _ (powTab_below HT.out (below_next B0.out hHeld))).mono ?_
  rintro e w2 ⟨rfl, hb⟩
  dsimp only
  refine hK.out _ _ (below_next hHeld hb) (fun hHeld => ?_)
  clear hK K hb
  refine take_at (i := 3) 6 rfl rfl (by kernel_rfl) (by kernel_rfl) (by kernel_rfl) (fun _ _ _ h => h) (sure_yes (by rfl) (add_as (l := R) (m := [58]) rfl rfl rfl (by have h1 := HL.out.1; have h2 := HL.out.2; have e1 := congrArg List.length hA.out.1; simp at e1 ⊢; omega) hA.out.1)) hHeld ?_
  simp only [List.setIfInBounds_toArray, List.set_cons_zero, List.set_cons_succ]
  refine wpAnyH_ready (rs := [6]) (by kernel_rfl) (by simp) ?_
  refine AllReadyH.cons rfl (fun K hK => ?_) AllReadyH.nil
  go_simp
  go_at_call 68
  refine (N2.out _ (powTab_below HT.out (below_next B0.out hHeld))).mono ?_
  rintro e w2 ⟨rfl, hb⟩
  dsimp only
  refine hK.out _ _ (below_next hHeld hb) (fun hHeld => ?_)
  clear hK K hb
  refine take_at (i := 7) 10 rfl rfl (by kernel_rfl) (by kernel_rfl) (by kernel_rfl) (fun _ _ _ h => h) (sure_yes (by rfl) (add_as (l := A1) (m := Q) rfl rfl rfl (by have h1 := HL.out.1; have h2 := HL.out.2; have e1 := congrArg List.length hA.out.1; simp at e1 ⊢; omega) hA.out.2)) hHeld ?_
  simp only [List.setIfInBounds_toArray, List.set_cons_zero, List.set_cons_succ]
  refine take_at (i := 8) 2 rfl rfl (by kernel_rfl) (by kernel_rfl) (by kernel_rfl) (fun _ _ _ h => h) (sure_yes (by rfl) (fun w => by go_simp; try with_reducible rfl)) hHeld ?_
  simp only [List.setIfInBounds_toArray, List.set_cons_zero, List.set_cons_succ]
  refine wpAnyH_done (by kernel_rfl) ?_ _
  go_wp2
  go_ret
  exact ⟨by rw [← HE.out]; rfl, below_next B0.out hHeld⟩
end Go.Proofs.YtcnjgdnokiindaaDoor
namespace Go.Proofs.YtcnjgdnokiindaaDoor
open Go.RowKit
/-- The first colon. -/
theorem index_colon (s : List UInt8) : (s.contains 58 = false ∧ Lib.indexByte s 58 = -1 ∧ aheadD s = s ∧ behindD s = []) ∨ ∃ k : Nat, k < s.length ∧ Lib.indexByte s 58 = (k : Int) ∧ aheadD s = s.take k ∧ behindD s = s.drop (k + 1) ∧ s.contains 58 = true := by
  have hge := Lib.indexByte_ge s 58
  by_cases h : Lib.indexByte s 58 = -1
  · have hn : (58 : UInt8) ∉ s := fun hm => by
      obtain ⟨j, hj, e⟩ := List.mem_iff_getElem.1 hm
      exact absurd (by rw [List.getElem?_eq_getElem hj, e]) (Lib.indexByte_none h j)
    have ha : aheadD s = s := by
      unfold aheadD
      have : ∀ l : List UInt8, (58 : UInt8) ∉ l → l.takeWhile (· != 58) = l := by
        intro l
        induction l with
        | nil => intro _; rfl
        | cons c r ih =>
          intro hl
          have hc : c ≠ 58 := fun e => hl (by rw [e]; exact List.mem_cons_self)
          rw [List.takeWhile_cons_of_pos (by simpa using hc), ih fun hm => hl (List.mem_cons_of_mem _ hm)]
      exact this s hn
    refine .inl ⟨?_, h, ha, ?_⟩
    · rw [Bool.eq_false_iff, ne_eq, List.contains_iff_mem]; exact hn
    · unfold behindD; rw [ha]; exact List.drop_of_length_le (by omega)
  · obtain ⟨k, hk⟩ : ∃ k : Nat, Lib.indexByte s 58 = (k : Int) := ⟨(Lib.indexByte s 58).toNat, by omega⟩
    obtain ⟨h1, h2⟩ := Lib.indexByte_some hk
    have hlt : k < s.length := (List.getElem?_eq_some_iff.1 h1).1
    obtain ⟨a1, a2, a3⟩ := ahead_at (s := s) (k := k) hlt (by rw [List.getD_eq_getElem?_getD, h1]; rfl) (fun j hj e => by
      refine h2 j hj ?_
      rw [List.getD_eq_getElem?_getD] at e
      rw [List.getElem?_eq_getElem (by omega)] at e ⊢
      exact congrArg some e)
    exact .inr ⟨k, hlt, hk, a1, a2, a3⟩
set_option maxRecDepth 100000 in
set_option maxHeartbeats 4000000 in
theorem liteCut_any (s : List UInt8) (hs : s.length < 1152921504606846976) (w : World) : Calls Tryd.prog 82 #[.string (str s), .string ⟨#[58]⟩] w fun e w' => e = .returned (.tuple #[.string (str (aheadD s)), .string (str (behindD s)), .bool (s.contains 58)]) ∧ Below w.heap.size w w' := by
  have HX := Lib.hid (show ∀ w, Calls Tryd.prog 81 #[.string (str s), .string ⟨#[58]⟩] w fun e w' => e = .returned (.int .i64 (Lib.indexByte s 58)) ∧ w = w' from fun w => by
    refine (Tryd.stringslite_Index_one (str s) 58 w).mono fun e w' h => ?_
    rw [show (str s).data.toList = s from by simp [str]] at h
    exact ⟨h.1, h.2.symm⟩)
  have s2 : (ByteArray.mk #[58]).size = 1 := rfl
  rcases index_colon s with ⟨c1, c2, c3, c4⟩ | ⟨k, hk, c2, c3, c4, c1⟩
  · rw [c2] at HX
    rw [c1, c3, c4]
    clear c1 c2 c3 c4
    go_enter Tryd.func82, Tryd.ntmps82
    go_wp2_with (first | (go_at_call 81; refine (HX.out _).mono ?_; rintro e w1 ⟨rfl, rfl⟩))
    go_ret3
    exact ⟨rfl, Below.refl _ _⟩
  · rw [c2] at HX
    rw [c1, c3, c4]
    have q1 : decide ((k : Int) ≥ 0) = true := decide_eq_true (by omega)
    obtain ⟨k1, hk1⟩ : ∃ k1, k1 = k + 1 := ⟨_, rfl⟩
    have e1 : wrap64 ((k : Int) + 1) = (k1 : Int) := by rw [wrap64]; omega
    have s3 : ∀ w, (Instr.slice 9 (.string (str s)) none (some (.int .i64 (k : Int))) none).run Tryd.prog w = .ok (.string (str (s.take k))) w := fun w => slice_upto w 9 s k (by omega) Tryd.underlying9
    have s4 : ∀ w, (Instr.slice 9 (.string (str s)) (some (.int .i64 (k1 : Int))) none none).run Tryd.prog w = .ok (.string (str (s.drop k1))) w := fun w => slice_rest w 9 s k1 (by omega) Tryd.underlying9
    rw [← hk1]
    generalize s.take k = X at *
    generalize s.drop k1 = Y at *
    clear c1 c2 c3 c4 hk hk1 hs
    go_enter Tryd.func82, Tryd.ntmps82
    go_wp2_with (first | (go_at_call 81; refine (HX.out _).mono ?_; rintro e w1 ⟨rfl, rfl⟩))
    go_quiet (fail)
    have B1 := Lib.hid (below_draws (Below.refl w.heap.size w) nq)
    generalize w.drewN nq = W1 at *
    go_wp2
    go_ret3
    exact ⟨rfl, B1.out⟩
set_option maxRecDepth 100000 in
set_option maxHeartbeats 4000000 in
theorem cut_any (s : List UInt8) (hs : s.length < 1152921504606846976) (w : World) : Calls Tryd.prog 72 #[.string (str s), .string ⟨#[58]⟩] w fun e w' => e = .returned (.tuple #[.string (str (aheadD s)), .string (str (behindD s)), .bool (s.contains 58)]) ∧ Below w.heap.size w w' := by
  have HC := Lib.hid (fun w => liteCut_any s hs w)
  generalize aheadD s = X at *
  generalize behindD s = Y at *
  generalize s.contains 58 = c at *
  clear hs
  go_enter Tryd.func72, Tryd.ntmps72
  go_wp2_with (first | (go_at_call 82; refine (HC.out _).mono ?_; rintro e W1 ⟨rfl, hb⟩; have B1 := Lib.hid hb; clear hb))
  go_ret3
  exact ⟨rfl, B1.out⟩
end Go.Proofs.YtcnjgdnokiindaaDoor
namespace Go.Proofs.YtcnjgdnokiindaaDoor
open Go.RowKit
theorem ahead_le (s : List UInt8) : (aheadD s).length ≤ s.length := (List.takeWhile_sublist _).length_le
theorem behind_le (s : List UInt8) : (behindD s).length ≤ s.length := by unfold behindD; rw [List.length_drop]; omega
set_option maxRecDepth 100000 in
set_option maxHeartbeats 8000000 in
theorem parse_any9 (s : List UInt8) (hs : s.length < 1152921504606846976) (w : World) : Calls Tryd.prog 54 #[.string (str s)] w fun e w' => e = .returned (.tuple #[.agg #[.int .i64 (parR s), .int .i64 (parQ s)], .int .i64 (parErr s)]) ∧ Below w.heap.size w w' := by
  have HC := Lib.hid (fun w => cut_any s hs w)
  have RA := Lib.hid (fun w => read_any w (aheadD s) 31 (by have := ahead_le s; omega))
  have RB := Lib.hid (fun w => read_any w (behindD s) 1099511627776 (by have := behind_le s; omega))
  have HD := Lib.hid (show isDot s = (s.contains 58 && (readErr (aheadD s) 31 == 0 && (readErr (behindD s) 1099511627776 == 0 && mayD (readN (aheadD s) 31) (readN (behindD s) 1099511627776)))) from rfl)
  have HP := Lib.hid (show parErr s = (if isDot s then 0 else 2) ∧ parR s = (if isDot s then readN (aheadD s) 31 else 0) ∧ parQ s = (if isDot s then readN (behindD s) 1099511627776 else 0) from ⟨rfl, rfl, rfl⟩)
  clear hs
  generalize readN (aheadD s) 31 = r at *
  generalize readN (behindD s) 1099511627776 = q at *
  generalize readErr (aheadD s) 31 = e1 at *
  generalize readErr (behindD s) 1099511627776 = e2 at *
  generalize aheadD s = X at *
  generalize behindD s = Y at *
  generalize s.contains 58 = c at *
  have M1 := Lib.hid (fun w => may_any9 r q w)
  have B0 := Lib.hid ((Below.refl w.heap.size w).alloc (Nat.le_refl _) (.cells #[.int .i64 0, .int .i64 0] 44 (0, 0)))
  have H0 := Lib.hid (heap_last w (.cells #[.int .i64 0, .int .i64 0] 44 (0, 0)))
  go_enter Tryd.func54, Tryd.ntmps54
  go_upto_region 1 with fail
  generalize w.alloc (.cells #[.int .i64 0, .int .i64 0] 44 (0, 0)) = W0 at *
  go_upto_region 2 with (first | (go_at_call 72; refine (HC.out _).mono ?_; rintro e W1 ⟨rfl, hb⟩; have G1 := Lib.hid (row_kept H0.out hb); have B1 := Lib.hid (below_next B0.out hb); clear hb))
  go_upto_region 3 with (first | (go_at_call 73; refine (RA.out _).mono ?_; rintro e W2 ⟨rfl, hb⟩; have G2 := Lib.hid (row_kept G1.out hb); have B2 := Lib.hid (below_next B1.out hb); clear hb))
  go_upto_region 4 with (first | (go_at_call 73; refine (RB.out _).mono ?_; rintro e W3 ⟨rfl, hb⟩; have G3 := Lib.hid (row_kept G2.out hb); have B3 := Lib.hid (below_next B2.out hb); clear hb))
  cases c with
  | false =>
    have hd : isDot s = false := by rw [HD.out]; rfl
    have HR := Lib.hid (show parR s = 0 ∧ parQ s = 0 ∧ parErr s = 2 by have h := HP.out; rw [hd] at h; exact ⟨h.2.1, h.2.2, h.1⟩)
    clear hd
    go_wp2_with (first
      | (refine build_on (by rfl) 44 #[] rfl _ _ dot_built0 (by simp [Act.eval]) ?_)
      | (refine wpList_store_row rfl 44 (.tmp 2) (.tmp 38) rfl w.heap.size _ rfl rfl 44 _ G3.out (by kernel_rfl) rfl (dot_one _ _) ?_))
    exact bodyPost_ret (results_cell2 Tryd.results54 _ _ w.heap.size 44 _ (0, 0) _ _ rfl rfl (setRow_heap _ _ _ _ _ _ G3.out) Tryd.underlying44 rfl (by kernel_rfl)) rfl ⟨by rw [HR.out.1, HR.out.2.1, HR.out.2.2]; rfl, below_setRow B3.out (Nat.le_refl _) _⟩
  | true =>
    by_cases z1 : e1 = 0
    · subst z1
      by_cases z2 : e2 = 0
      · subst z2
        go_upto_region 7 with (first
          | (refine build_on (by rfl) 44 #[(0, .tmp 39), (1, .tmp 40)] rfl _ _ (dot_built _ _) (by simp [Act.eval]) ?_))
        have H4 := Lib.hid (heap_last W3 (.cells #[.int .i64 r, .int .i64 q] 44 (0, 0)))
        have G4 := Lib.hid (row_kept G3.out ((Below.refl W3.heap.size W3).alloc (Nat.le_refl _) (.cells #[.int .i64 r, .int .i64 q] 44 (0, 0))))
        have B4 := Lib.hid (B3.out.alloc B3.out.size (.cells #[.int .i64 r, .int .i64 q] 44 (0, 0)))
        generalize W3.alloc (.cells #[.int .i64 r, .int .i64 q] 44 (0, 0)) = W4 at *
        cases hm : mayD r q with
        | true =>
          have hd : isDot s = true := by rw [HD.out, hm]; rfl
          have HR := Lib.hid (show parR s = r ∧ parQ s = q ∧ parErr s = 0 by have h := HP.out; rw [hd] at h; exact ⟨h.2.1, h.2.2, h.1⟩)
          rw [hm] at M1
          clear hd hm
          go_wp2_with (first
            | (refine load_row_on (by rfl) 44 (.tmp 11) rfl W3.heap.size rfl 44 _ (0, 0) _ H4.out Tryd.underlying44 rfl (by kernel_rfl) ?_)
            | (go_at_call 45; refine (M1.out _).mono ?_; rintro e W5 ⟨rfl, hb⟩; have G5 := Lib.hid (row_kept G4.out hb); have H5 := Lib.hid (row_kept H4.out hb); have B5 := Lib.hid (below_next B4.out hb); clear hb)
            | (refine load_row_on (by rfl) 44 (.tmp 11) rfl W3.heap.size rfl 44 _ (0, 0) _ H5.out Tryd.underlying44 rfl (by kernel_rfl) ?_)
            | (refine wpList_store_row rfl 44 (.tmp 2) (.tmp 46) rfl w.heap.size _ rfl rfl 44 _ G5.out (by kernel_rfl) rfl (dot_one _ _) ?_))
          exact bodyPost_ret (results_cell2 Tryd.results54 _ _ w.heap.size 44 _ (0, 0) _ _ rfl rfl (setRow_heap _ _ _ _ _ _ G5.out) Tryd.underlying44 rfl (by kernel_rfl)) rfl ⟨by rw [HR.out.1, HR.out.2.1, HR.out.2.2]; rfl, below_setRow B5.out (Nat.le_refl _) _⟩
        | false =>
          have hd : isDot s = false := by rw [HD.out, hm]; rfl
          have HR := Lib.hid (show parR s = 0 ∧ parQ s = 0 ∧ parErr s = 2 by have h := HP.out; rw [hd] at h; exact ⟨h.2.1, h.2.2, h.1⟩)
          rw [hm] at M1
          clear hd hm
          go_wp2_with (first
            | (refine load_row_on (by rfl) 44 (.tmp 11) rfl W3.heap.size rfl 44 _ (0, 0) _ H4.out Tryd.underlying44 rfl (by kernel_rfl) ?_)
            | (go_at_call 45; refine (M1.out _).mono ?_; rintro e W5 ⟨rfl, hb⟩; have G5 := Lib.hid (row_kept G4.out hb); have B5 := Lib.hid (below_next B4.out hb); clear hb)
            | (refine build_on (by rfl) 44 #[] rfl _ _ dot_built0 (by simp [Act.eval]) ?_)
            | (refine wpList_store_row rfl 44 (.tmp 2) (.tmp 45) rfl w.heap.size _ rfl rfl 44 _ G5.out (by kernel_rfl) rfl (dot_one _ _) ?_))
          exact bodyPost_ret (results_cell2 Tryd.results54 _ _ w.heap.size 44 _ (0, 0) _ _ rfl rfl (setRow_heap _ _ _ _ _ _ G5.out) Tryd.underlying44 rfl (by kernel_rfl)) rfl ⟨by rw [HR.out.1, HR.out.2.1, HR.out.2.2]; rfl, below_setRow B5.out (Nat.le_refl _) _⟩
      · have t2 : (e2 != 0) = true := bne_iff_ne.2 z2
        have hd : isDot s = false := by rw [HD.out, show (e2 == 0) = false from beq_eq_false_iff_ne.2 z2]; simp
        have HR := Lib.hid (show parR s = 0 ∧ parQ s = 0 ∧ parErr s = 2 by have h := HP.out; rw [hd] at h; exact ⟨h.2.1, h.2.2, h.1⟩)
        clear z2 hd
        go_wp2_with (first
          | (refine build_on (by rfl) 44 #[] rfl _ _ dot_built0 (by simp [Act.eval]) ?_)
          | (refine wpList_store_row rfl 44 (.tmp 2) (.tmp 38) rfl w.heap.size _ rfl rfl 44 _ G3.out (by kernel_rfl) rfl (dot_one _ _) ?_))
        exact bodyPost_ret (results_cell2 Tryd.results54 _ _ w.heap.size 44 _ (0, 0) _ _ rfl rfl (setRow_heap _ _ _ _ _ _ G3.out) Tryd.underlying44 rfl (by kernel_rfl)) rfl ⟨by rw [HR.out.1, HR.out.2.1, HR.out.2.2]; rfl, below_setRow B3.out (Nat.le_refl _) _⟩
    · have t1 : (e1 != 0) = true := bne_iff_ne.2 z1
      have hd : isDot s = false := by rw [HD.out, show (e1 == 0) = false from beq_eq_false_iff_ne.2 z1]; simp
      have HR := Lib.hid (show parR s = 0 ∧ parQ s = 0 ∧ parErr s = 2 by have h := HP.out; rw [hd] at h; exact ⟨h.2.1, h.2.2, h.1⟩)
      clear z1 hd
      go_wp2_with (first
        | (refine build_on (by rfl) 44 #[] rfl _ _ dot_built0 (by simp [Act.eval]) ?_)
        | (refine wpList_store_row rfl 44 (.tmp 2) (.tmp 38) rfl w.heap.size _ rfl rfl 44 _ G3.out (by kernel_rfl) rfl (dot_one _ _) ?_))
      exact bodyPost_ret (results_cell2 Tryd.results54 _ _ w.heap.size 44 _ (0, 0) _ _ rfl rfl (setRow_heap _ _ _ _ _ _ G3.out) Tryd.underlying44 rfl (by kernel_rfl)) rfl ⟨by rw [HR.out.1, HR.out.2.1, HR.out.2.2]; rfl, below_setRow B3.out (Nat.le_refl _) _⟩
end Go.Proofs.YtcnjgdnokiindaaDoor
namespace Go.Proofs.YtcnjgdnokiindaaDoor
open Go.RowKit Go.Shelf
attribute [local go_sem] Oper.semAt_some
/-- A row loaded in a round. -/
theorem load_row_in {F : Fence} {n : Nat} {P : Program} {ops : Array Oper} {rest : List Oper} {o : Oper} {a : Act} {w : World} {Q : Exit → Act → World → Prop} (hw : Region.wanted o (yielded ops a.tmps) = true) (ty : TypeId) (x : Operand) (ho : o.op = .load ty x)
    (g : Nat) (hx : a.eval x = .pointer (some ⟨g, 0, none⟩)) (t : TypeId) (cs : Array Value) (fr : Nat × Nat) (d : TypeDesc) (hg : w.heap[g]? = some (.cells cs t fr))
    (hu : P.underlying ty = some d) (hd : (match d with | .struct _ | .array _ _ => true | _ => false) = true) (hi : (P.info? ty).map (·.size) = some cs.size)
    (h : wpListIn F n P ops Q rest (a.put o.dst (.agg cs)) w) : wpListIn F n P ops Q (o :: rest) a w := by
  refine wpListIn_step fun K hK => ?_
  rw [if_pos hw]
  unfold Oper.wpIn
  refine ⟨by simp [Oper.about, ho], ?_⟩
  rw [Oper.semAt_plain F _ _ (by rw [ho]; intro c hc'; cases hc')]
  simp [execOp, ho, hx, Instr.loadAt, Instr.sureAddr, run_loadVar_row w g t ty cs fr d hg hu hd hi, Result.andThen]
  exact hK _ _ h
/-- A dot appended to a slice of dots of the call's own, in a round. -/
theorem append_dot_in {F : Fence} {n : Nat} {P : Program} {w : World} {ops : Array Oper} {rest : List Oper} {o : Oper} {a : Act} {Q : Exit → Act → World → Prop} (hgd : o.guard = none) (s x : Operand) (t : TypeId)
    (ho : o.op = .call { callee := .builtin .append, args := #[s, x], argTypes := #[t, t] })
    (base : Nat) (e : TypeId) (i : TypeInfo) (ht : P.underlying t = some (.slice e)) (hi : P.info? e = some i) (hz : (i.zero.map (·.cells.size), i.size, i.bytes) = (some 2, 2, 16))
    (v : Value) (l : List D2) (d : D2) (hs : a.eval s = v) (hown : w.ownsRow base e 2 v l.length (dotsC l)) (g c : Nat) (hx : a.eval x = .slice (some ⟨g, 0, none⟩) 1 c)
    (u : TypeId) (hg : w.heap[g]? = some (.cells #[.int .i64 d.1, .int .i64 d.2] u (0, 0))) (hlen : l.length + 1 ≤ 2000000) (hbase : base ≤ w.heap.size)
    (h : ∀ v' w', w'.ownsRow base e 2 v' (l ++ [d]).length (dotsC (l ++ [d])) → w.grownBy w' v.ownBlock → wpListIn F n P ops Q rest (a.put o.dst v') w') : wpListIn F n P ops Q (o :: rest) a w := by
  simp only [Prod.mk.injEq] at hz
  obtain ⟨hz1, hz2, hz3⟩ := hz
  cases hzz : i.zero with
  | none => rw [hzz] at hz1; cases hz1
  | some z =>
    rw [hzz] at hz1
    simp only [Option.map_some, Option.some.injEq] at hz1
    refine wpListIn_append_own w hgd s x t ho base e i z 2 16 ht hi hzz hz2 hz3 hz1 (by decide) v l.length (dotsC l) hs hown ⟨g, 0, none⟩ 1 c (dotsC [d]) hx rfl (fun j u hj => ?_) (fun u hu => dotsC_one [d] u hu)
      (by unfold maxLen; omega) (by omega) hbase fun v' w' h1 h2 _ => h v' w' (by rw [dotsC_append, List.length_append]; exact h1) h2
    match j, hj with
    | 0, hj => exact ((cell_of_row _ _ 0 _ _ _ hg).trans rfl).trans hj
    | 1, hj => rw [Addr.add_lit]; exact ((cell_of_row _ _ (0 + 1) _ _ _ hg).trans rfl).trans hj
theorem keeps_below {n : Nat} {W W' : World} (h : Below n W W') (hn : n = W.heap.size) : KeepsOthers W W' :=
  ⟨h.size, fun k o hk _ => (h.block k (by rw [hn]; exact (Array.getElem?_eq_some_iff.1 hk).1)).trans hk⟩
theorem keep3_low {B g : Nat} (W : World) (v : Value) (hg : g < B) : Keep3 B W (W.setCell ⟨g, 0, none⟩ v) := fun k h1 _ => heap_setCell_other _ _ _ _ (by show k ≠ g; omega)
/-- Behind an append to a slice that a variable holds: the variable, the row, and what lay ahead of both. -/
theorem appended10 {W w1 : World} {n₀ B size : Nat} {t e : TypeId} {v v' : Value} {k m : Nat} {xs ys : List Value} {tmp : Obj} (hv : Boxed W B t v) (hte : t ≠ e) (hrow : W.ownsRow n₀ e size v k xs) (hn : n₀ ≤ W.heap.size) (hown' : w1.ownsRow n₀ e size v' m ys) (hgrow : (W.alloc tmp).grownBy w1 v.ownBlock) :
    Boxed w1 B t v ∧ Boxed (w1.setCell ⟨B, 0, none⟩ v') B t v' ∧ (w1.setCell ⟨B, 0, none⟩ v').ownsRow n₀ e size v' m ys ∧ KeepsOthers W (w1.setCell ⟨B, 0, none⟩ v') ∧ Below n₀ W w1 := by
  have h1 : Boxed w1 B t v := (hv.alloc tmp).kept hgrow (hv.not_row hte hrow)
  have hcells : ∀ j o, v.ownBlock = some j → (W.alloc tmp).heap[j]? = some o → o.isCells = true ∧ n₀ ≤ j := fun j o ej hj => by
    rcases (hrow.alloc tmp).2 with ⟨rfl, _⟩ | ⟨g, cap, cur, rfl, hb, hgb, _⟩
    · simp [Value.ownBlock] at ej
    · obtain rfl : g = j := by simpa [Value.ownBlock] using ej
      rw [hgb] at hj; cases hj; exact ⟨rfl, hb⟩
  have hrows : ∀ j, v.ownBlock = some j → n₀ ≤ j := fun j ej => (hrow.lt j ej).1
  exact ⟨h1, h1.set v', hown'.kept (grownBy_setCell' w1 B v') (.inr (h1.not_row hte hown').symm),
    ((KeepsOthers.alloc W tmp).trans (KeepsOthers.of_grownBy hgrow fun j o ej hj => (hcells j o ej hj).1)).trans (KeepsOthers.setCell _ _ _),
    ((Below.refl n₀ W).alloc hn tmp).grown hgrow (by simp; omega) fun j ej => hrows j ej⟩
/-- The two results' blocks. -/
def Res2 (g : Nat) (W : World) (x y : Value) : Prop := Boxed W g 37 x ∧ Boxed W (g + 1) 25 y
theorem res2_below {g n : Nat} {W W' : World} {x y : Value} (h : Res2 g W x y) (hb : Below n W W') (hn : g + 2 ≤ n) : Res2 g W' x y := ⟨(hb.block g (by omega)).trans h.1, (hb.block (g + 1) (by omega)).trans h.2⟩
theorem res2_set {g : Nat} {W : World} {x y : Value} (h : Res2 g W x y) (x' y' : Value) : Res2 g ((W.setCell ⟨g, 0, none⟩ x').setCell ⟨g + 1, 0, none⟩ y') x' y' := ⟨(h.1.set x').other (by omega) y', (h.2.other (by omega) x').set y'⟩
theorem res2_far {g k : Nat} {W : World} {x y : Value} (h : Res2 g W x y) (hk : g + 2 ≤ k) (u : Value) : Res2 g (W.setCell ⟨k, 0, none⟩ u) x y := ⟨h.1.other (by omega) u, h.2.other (by omega) u⟩
theorem res2_own {g : Nat} {A B : World} {x y : Value} {row : Option Nat} (h : Res2 g A x y) (hg : A.grownBy B row) (hr : ∀ r, row = some r → ∃ o : Obj, A.heap[r]? = some o ∧ o.isCells = false) : Res2 g B x y := by
  have key : ∀ {b : Nat} {t : TypeId} {v : Value}, Boxed A b t v → Boxed B b t v := fun hv => hv.kept hg (fun e => by
    obtain ⟨o, ho, hc⟩ := hr _ e.symm
    rw [show A.heap[_]? = _ from hv] at ho; cases ho; cases hc)
  exact ⟨key h.1, key h.2⟩
theorem set2_below {n g : Nat} {A B : World} (h : Below n A B) (hg : n ≤ g) (x y : Value) : Below n A ((B.setCell ⟨g, 0, none⟩ x).setCell ⟨g + 1, 0, none⟩ y) := (h.setCell (p := ⟨g, 0, none⟩) hg x).setCell (p := ⟨g + 1, 0, none⟩) (by show n ≤ g + 1; omega) y
/-- The pieces that have come, and the dots of them. -/
def got {s : List UInt8} (pre : List (Pc s)) : List (List UInt8) := pre.map (·.1)
def gotD {s : List UInt8} (pre : List (Pc s)) : List D2 := (got pre).map dotOf
theorem got_snoc {s : List UInt8} (pre : List (Pc s)) (x : Pc s) : got (pre ++ [x]) = got pre ++ [x.1] := List.map_append
theorem gotD_snoc {s : List UInt8} (pre : List (Pc s)) (x : Pc s) : gotD (pre ++ [x]) = gotD pre ++ [dotOf x.1] := by rw [gotD, got_snoc, List.map_append]; rfl
theorem good_len {ps : List (List UInt8)} (h : goodP ps = true) : (ps.map dotOf).length ≤ 32 := by
  rw [goodP, Bool.and_eq_true] at h; exact rising_length h.2
set_option maxRecDepth 100000 in
set_option maxHeartbeats 16000000 in
theorem vecParse_typ (s : List UInt8) (hs : s.length < 1152921504606846976) (w : World) : Calls Tryd.prog 29 #[.string (str s)] w fun e w' => ∃ v, e = .returned (.tuple #[v, .int .i64 (parVErr s)]) ∧ TypDots w' v (parV s) ∧ Below w.heap.size w w' := by
  obtain ⟨i0, hi, hz⟩ := infoDot
  have s2 : (str s).toList = s := str_toList s
  have s3 : (ByteArray.mk #[45]).toList = [45] := ByteArray.toList_mk _
  by_cases h45 : s = [45]
  · have HP := Lib.hid (show parVErr s = 0 ∧ parV s = [] by rw [h45]; exact par_hyphen)
    have q1 : (s == [45]) = true := by rw [h45]; rfl
    clear h45 hs
    go_enter Tryd.func29, Tryd.ntmps29
    go_wp2
    have r0 := cell_of_one (alloc2_0 w (.cells #[.slice none 0 0] 37 (0, 0)) (.cells #[.int .i64 0] 25 (0, 0)))
    have r1 := cell_of_one (alloc2_1 w (.cells #[.slice none 0 0] 37 (0, 0)) (.cells #[.int .i64 0] 25 (0, 0)))
    refine bodyPost_ret (v := .tuple #[.slice none 0 0, .int .i64 0]) (by simp [results, Tryd.f29, go_sem, r0, r1]) rfl ?_
    exact ⟨_, by rw [HP.out.1], by rw [HP.out.2]; exact typ_nil _, ((Below.refl w.heap.size w).alloc (Nat.le_refl _) _).alloc (by simp) _⟩
  · have q1 : (s == [45]) = false := by rw [beq_eq_false_iff_ne]; exact h45
    have HH := Lib.hid h45
    have HS := Lib.hid hs
    have SQ := Lib.hid (fun w => splitSeq_any s w)
    have PX := Lib.hid (fun (x : Pc s) w => parse_any9 x.1 (Nat.lt_of_le_of_lt x.2 hs) w)
    have H0 := Lib.hid (And.intro (alloc3_0 w (.cells #[.slice none 0 0] 37 (0, 0)) (.cells #[.int .i64 0] 25 (0, 0)) (.cells #[.slice none 0 0] 37 (0, 0))) (And.intro (alloc3_1 w (.cells #[.slice none 0 0] 37 (0, 0)) (.cells #[.int .i64 0] 25 (0, 0)) (.cells #[.slice none 0 0] 37 (0, 0))) (alloc3_2 w (.cells #[.slice none 0 0] 37 (0, 0)) (.cells #[.int .i64 0] 25 (0, 0)) (.cells #[.slice none 0 0] 37 (0, 0)))))
    have Z0 := Lib.hid (show (((w.alloc (.cells #[.slice none 0 0] 37 (0, 0))).alloc (.cells #[.int .i64 0] 25 (0, 0))).alloc (.cells #[.slice none 0 0] 37 (0, 0))).heap.size = w.heap.size + 3 by simp)
    have B0 := Lib.hid ((((Below.refl w.heap.size w).alloc (Nat.le_refl _) (.cells #[.slice none 0 0] 37 (0, 0))).alloc (by simp) (.cells #[.int .i64 0] 25 (0, 0))).alloc (by simp; omega) (.cells #[.slice none 0 0] 37 (0, 0)))
    clear h45 hs
    refine (callsIn_wide (n := 6)).1 ?_
    refine callsIn_of_wp_marks Tryd.func29 rfl trivial ?_ rfl
    simp only [Tryd.ntmps29, List.size_toArray, List.length_cons, List.length_nil, Nat.reduceAdd, Nat.reduceSub, Array.replicate_succ, Array.replicate_zero, List.push_toArray, List.append_toArray, List.nil_append, List.cons_append]
    refine wpIn_wide.2 ?_
    go_wp2_with (first | (go_at_call 28; generalize (((w.alloc (.cells #[.slice none 0 0] 37 (0, 0))).alloc (.cells #[.int .i64 0] 25 (0, 0))).alloc (.cells #[.slice none 0 0] 37 (0, 0))) = W0 at *; refine (SQ.out _).mono ?_; rintro e w1 ⟨rfl, hb⟩; have HQ := Lib.hid hb; clear hb))
    have b0 := HQ.out.2.2.1
    have b1 := HQ.out.2.2.2.1
    have b2 := HQ.out.2.2.2.2
    have hsz : w1.heap.size = w.heap.size + 3 + 3 := by rw [HQ.out.2.1, Z0.out]
    rw [Z0.out] at b0 b1 b2
    have R0 := Lib.hid (show Res2 w.heap.size w1 (.slice none 0 0) (.int .i64 0) from ⟨(HQ.out.1.block _ (by rw [Z0.out]; omega)).trans H0.out.1, (HQ.out.1.block _ (by rw [Z0.out]; omega)).trans H0.out.2.1⟩)
    have V0 := Lib.hid (show Boxed w1 (w.heap.size + 1 + 1) 37 (.slice none 0 0) from (HQ.out.1.block _ (by rw [Z0.out]; omega)).trans H0.out.2.2)
    have B1 := Lib.hid (B0.out.trans (HQ.out.1.mono (by rw [Z0.out]; omega)))
    rw [Z0.out]
    clear q1 s2 s3
    refine (wpIn_wide (n := 6)).1 ?_
    refine range_cells (F := Fence.wide) rfl (by decide) (gf := 69) (lb := #[.pointer (some ⟨w.heap.size + 3 + 1, 0, none⟩), .pointer (some ⟨w.heap.size + 3, 0, none⟩), .pointer (some ⟨w.heap.size + 3 + 2, 0, none⟩)]) rfl trivial (enters_of Tryd.func69 (by kernel_rfl) rfl)
      (B := w.heap.size + 3) (by omega) (seq10 5 (by decide) (w.heap.size + 3) s HS.out w1 (by omega) b0 b1 b2) (fun _ => rfl)
      (fun pre W => ((∃ v, Boxed W (w.heap.size + 1 + 1) 37 v ∧ W.ownsRow w1.heap.size 44 2 v (gotD pre).length (dotsC (gotD pre)) ∧ True) ∧ (Res2 w.heap.size W (.slice none 0 0) (.int .i64 0) ∧ goodP (got pre) = true ∧ w1.heap.size ≤ W.heap.size)) ∧ Below w.heap.size w W)
      (fun pre W => (Res2 w.heap.size W (.slice none 0 0) (.int .i64 2) ∧ goodP (got pre) = false) ∧ Below w.heap.size w W)
      (OwnFrom.and (OwnFrom.and (Own.from (holdsRow_own w1.heap.size (w.heap.size + 1 + 1) 37 44 2 (fun pre => (gotD pre).length) (fun pre => dotsC (gotD pre)) (fun _ _ => True)) _) (Own.from (fun _ A B row hs hg hr => ⟨res2_own hs.1 hg hr, hs.2.1, Nat.le_trans hs.2.2 hg.size⟩) _)) (ownFrom_below (Nat.le_refl _) (by omega)))
      (OwnFrom.and (Own.from (fun _ A B row hs hg hr => ⟨res2_own hs.1 hg hr, hs.2⟩) _) (ownFrom_below (Nat.le_refl _) (by omega)))
      (fun pre W u h => by
        obtain ⟨⟨⟨v, hv, hr, -⟩, hR, hg, hz⟩, hB⟩ := h
        exact ⟨⟨⟨v, hv.other (by omega) u, ownsRow_setCell_other hr (a := ⟨w.heap.size + 3, 0, none⟩) (fun e => by have := (hr.lt _ e).1; simp only at this; omega) u, trivial⟩, res2_far hR (by omega) u, hg, Nat.le_trans hz (KeepsOthers.setCell W _ _).size⟩, hB.setCell (p := ⟨w.heap.size + 3, 0, none⟩) (by show w.heap.size ≤ w.heap.size + 3; omega) u⟩)
      ⟨⟨⟨.slice none 0 0, V0.out, World.ownsRow_nil _ _ _ _, trivial⟩, R0.out, goodP_nil, Nat.le_refl _⟩, B1.out⟩
      (fun x => { tmps := #[.string (str s), undef, .pointer (some ⟨w.heap.size, 0, none⟩), .pointer (some ⟨w.heap.size + 1, 0, none⟩), .pointer (some ⟨w.heap.size + 1 + 1, 0, none⟩), .string (str x.1), undef, undef, .string (str s), .bool false, .string (str s),
        .func (.func 69) #[] #[.pointer (some ⟨w.heap.size + 3 + 1, 0, none⟩), .pointer (some ⟨w.heap.size + 3, 0, none⟩), .pointer (some ⟨w.heap.size + 3 + 2, 0, none⟩)], .string (str x.1), undef, undef, undef, undef, undef, undef, undef, undef, undef, undef, undef, undef, undef, undef, undef, undef, undef, undef], defers := [] }) ?assign ?body ?done ?stop
    case assign =>
      intro l x W K hK
      gi_wp2
      exact hK
    case body =>
      rintro l pre x W ⟨⟨⟨v, hv, hr, -⟩, hR, hg, hlow⟩, hB⟩ hlen
      obtain ⟨ao, cap, rfl⟩ := own_slice hr
      obtain ⟨k, hk⟩ : ∃ k, k = (gotD pre).length := ⟨_, rfl⟩
      have HK := Lib.hid hk
      have HL := Lib.hid (good_len hg)
      have HO := Lib.hid (show W.ownsRow w1.heap.size 44 2 (.slice ao k cap) (gotD pre).length (dotsC (gotD pre)) by rw [hk]; exact hr)
      rw [← hk] at hv
      have HV := Lib.hid hv
      have HR := Lib.hid hR
      have HG := Lib.hid hg
      have HB := Lib.hid hB
      have HSZ := Lib.hid (show w.heap.size + 2 ≤ W.heap.size by omega)
      have HSZ2 := Lib.hid (show w.heap.size + 1 + 1 < W.heap.size by omega)
      have HLOW := Lib.hid (And.intro hlow hsz)
      have PXx := Lib.hid (fun w => PX.out x w)
      obtain ⟨r, hr'⟩ : ∃ r, r = parR x.1 := ⟨_, rfl⟩
      obtain ⟨q, hq'⟩ : ∃ q, q = parQ x.1 := ⟨_, rfl⟩
      obtain ⟨E, hE⟩ : ∃ E, E = parErr x.1 := ⟨_, rfl⟩
      rw [← hr', ← hq', ← hE] at PXx
      have HD := Lib.hid (show dotOf x.1 = (r, q) by rw [dotOf, hr', hq'])
      have HGS := Lib.hid (goodP_snoc (got pre) x.1)
      rw [← got_snoc, ← hE, HD.out] at HGS
      clear hv hr hR hg hB hlen hlow hk hr' hq' b0 b1 b2 hsz
      by_cases hE0 : E = 0
      · subst hE0
        have DD := Lib.hid (dots_of_own HO.out)
        have MF := Lib.hid (fun w hv => mayFollow_any (gotD pre) (by have h : (gotD pre).length ≤ 32 := HL.out; omega) r q (.slice ao k cap) w hv)
        obtain ⟨B, hB'⟩ : ∃ B, B = fol (gotD pre) (r, q) := ⟨_, rfl⟩
        rw [← hB'] at MF
        have HGB := Lib.hid (show goodP (got (pre ++ [x])) = B by rw [HGS.out, HG.out, hB']; rfl)
        clear hE hB'
        cases B with
        | false =>
          gi_wp2_with (first
            | (refine ⟨trivial, ?_⟩; gi_at_call 54; refine (CallsIn.inRound l (callsIn_wide.2 (PXx.out _))).mono ?_; rintro e w2 ⟨rfl, hb⟩; have B2 := Lib.hid hb; have K3 := Lib.hid ((hb.alloc hb.size (.cells #[.int .i64 r, .int .i64 q] 44 (0, 0)))); have R3 := Lib.hid (res2_below HR.out K3.out HSZ.out); have V3 := Lib.hid (show Boxed (w2.alloc (.cells #[.int .i64 r, .int .i64 q] 44 (0, 0))) (w.heap.size + 1 + 1) 37 (.slice ao k cap) from (K3.out.block _ HSZ2.out).trans HV.out); have O3 := Lib.hid (own_below HO.out K3.out); have c0 := R3.out.1.cell; have f0 := R3.out.1.frozen; have c1 := R3.out.2.cell; have f1 := R3.out.2.frozen; have c2 := V3.out.cell; have f2 := V3.out.frozen; clear hb)
            | (refine load_row_in (by rfl) 44 (.tmp 6) rfl w2.heap.size rfl 44 _ (0, 0) _ (heap_last w2 _) Tryd.underlying44 rfl (by kernel_rfl) ?_)
            | (refine ⟨trivial, ?_⟩; gi_at_call 55; refine (CallsIn.inRound l (callsIn_wide.2 (MF.out _ (dots_below DD.out K3.out)))).mono ?_; rintro e w4 ⟨rfl, hb⟩; have B4 := Lib.hid hb; have K4 := Lib.hid (K3.out.trans (hb.mono K3.out.size)); have R4 := Lib.hid (res2_below HR.out K4.out HSZ.out); have V4 := Lib.hid (show Boxed w4 (w.heap.size + 1 + 1) 37 (.slice ao k cap) from (K4.out.block _ HSZ2.out).trans HV.out); have O4 := Lib.hid (own_below HO.out K4.out); have D4 := Lib.hid (row_kept (heap_last w2 (.cells #[.int .i64 r, .int .i64 q] 44 (0, 0))) hb); have c0 := R4.out.1.cell; have f0 := R4.out.1.frozen; have c1 := R4.out.2.cell; have f1 := R4.out.2.frozen; have c2 := V4.out.cell; have f2 := V4.out.frozen; clear hb))
          exact ⟨(keeps_below K4.out rfl).trans ((KeepsOthers.setCell _ _ _).trans (KeepsOthers.setCell _ _ _)), ⟨res2_set R4.out _ _, HGB.out⟩, set2_below (HB.out.trans (K4.out.mono HB.out.size)) (Nat.le_refl _) _ _⟩
        | true =>
          gi_wp2_with (first
            | (refine ⟨trivial, ?_⟩; gi_at_call 54; refine (CallsIn.inRound l (callsIn_wide.2 (PXx.out _))).mono ?_; rintro e w2 ⟨rfl, hb⟩; have B2 := Lib.hid hb; have K3 := Lib.hid ((hb.alloc hb.size (.cells #[.int .i64 r, .int .i64 q] 44 (0, 0)))); have R3 := Lib.hid (res2_below HR.out K3.out HSZ.out); have V3 := Lib.hid (show Boxed (w2.alloc (.cells #[.int .i64 r, .int .i64 q] 44 (0, 0))) (w.heap.size + 1 + 1) 37 (.slice ao k cap) from (K3.out.block _ HSZ2.out).trans HV.out); have O3 := Lib.hid (own_below HO.out K3.out); have c0 := R3.out.1.cell; have f0 := R3.out.1.frozen; have c1 := R3.out.2.cell; have f1 := R3.out.2.frozen; have c2 := V3.out.cell; have f2 := V3.out.frozen; clear hb)
            | (refine load_row_in (by rfl) 44 (.tmp 6) rfl w2.heap.size rfl 44 _ (0, 0) _ (heap_last w2 _) Tryd.underlying44 rfl (by kernel_rfl) ?_)
            | (refine ⟨trivial, ?_⟩; gi_at_call 55; refine (CallsIn.inRound l (callsIn_wide.2 (MF.out _ (dots_below DD.out K3.out)))).mono ?_; rintro e w4 ⟨rfl, hb⟩; have B4 := Lib.hid hb; have K4 := Lib.hid (K3.out.trans (hb.mono K3.out.size)); have R4 := Lib.hid (res2_below HR.out K4.out HSZ.out); have V4 := Lib.hid (show Boxed w4 (w.heap.size + 1 + 1) 37 (.slice ao k cap) from (K4.out.block _ HSZ2.out).trans HV.out); have O4 := Lib.hid (own_below HO.out K4.out); have D4 := Lib.hid (row_kept (heap_last w2 (.cells #[.int .i64 r, .int .i64 q] 44 (0, 0))) hb); have c0 := R4.out.1.cell; have f0 := R4.out.1.frozen; have c1 := R4.out.2.cell; have f1 := R4.out.2.frozen; have c2 := V4.out.cell; have f2 := V4.out.frozen; clear hb)
            | (refine load_row_in (by rfl) 44 (.tmp 6) rfl w2.heap.size rfl 44 _ (0, 0) _ D4.out Tryd.underlying44 rfl (by kernel_rfl) ?_)
            | (gi_at_builtin; refine append_dot_in rfl (.tmp 26) (.tmp 28) 37 rfl w1.heap.size 44 i0 Tryd.underlying37 hi hz (.slice ao k cap) (gotD pre) (r, q) rfl (O4.out.alloc _) w4.heap.size 1 rfl 44 (heap_last w4 _) (by have h : (gotD pre).length ≤ 32 := HL.out; omega) (by have h1 := HLOW.out.1; have h2 := K4.out.size; simp <;> omega) ?_; intro v' w5 hown' hgrow; obtain ⟨g', cap', rfl⟩ := ownsRow_succ (by simpa using hown'); have HA := Lib.hid (appended10 V4.out (by decide) O4.out (Nat.le_trans HLOW.out.1 K4.out.size) hown' hgrow); have c2 := HA.out.1.cell; have f2 := HA.out.1.frozen; clear hown' hgrow))
          have h5 : Below w1.heap.size W w5 := (K4.out.mono HLOW.out.1).trans HA.out.2.2.2.2
          have hz2 := HLOW.out.2
          refine ⟨(keeps_below K4.out rfl).trans HA.out.2.2.2.1, keep3_trans (keep3_below h5 (by omega)) (keep3_low _ _ (by omega)), ⟨⟨_, HA.out.2.1, ?_, trivial⟩, res2_far (res2_below HR.out h5 (by omega)) (by omega) _, HGB.out, Nat.le_trans HLOW.out.1 (Nat.le_trans h5.size (KeepsOthers.setCell _ _ _).size)⟩, (HB.out.trans (h5.mono (by omega))).setCell (p := ⟨w.heap.size + 1 + 1, 0, none⟩) (by show w.heap.size ≤ w.heap.size + 1 + 1; omega) _⟩
          rw [gotD_snoc, HD.out]
          exact HA.out.2.2.1
      · have t1 : (E != 0) = true := bne_iff_ne.2 hE0
        have HF := Lib.hid (show goodP (got (pre ++ [x])) = false by rw [HGS.out, beq_eq_false_iff_ne.2 hE0]; simp)
        clear hE hE0
        gi_wp2_with (first | (refine ⟨trivial, ?_⟩; gi_at_call 54; refine (CallsIn.inRound l (callsIn_wide.2 (PXx.out _))).mono ?_; rintro e w2 ⟨rfl, hb⟩; have B2 := Lib.hid hb; have K3 := Lib.hid ((hb.alloc hb.size (.cells #[.int .i64 r, .int .i64 q] 44 (0, 0)))); have R3 := Lib.hid (res2_below HR.out K3.out HSZ.out); have V3 := Lib.hid (show Boxed (w2.alloc (.cells #[.int .i64 r, .int .i64 q] 44 (0, 0))) (w.heap.size + 1 + 1) 37 (.slice ao k cap) from (K3.out.block _ HSZ2.out).trans HV.out); have O3 := Lib.hid (own_below HO.out K3.out); have c0 := R3.out.1.cell; have f0 := R3.out.1.frozen; have c1 := R3.out.2.cell; have f1 := R3.out.2.frozen; have c2 := V3.out.cell; have f2 := V3.out.frozen; clear hb))
        refine ⟨trivial, ?_⟩
        gi_wp2
        exact ⟨((keeps_below B2.out rfl).trans (KeepsOthers.alloc _ _)).trans ((KeepsOthers.setCell _ _ _).trans (KeepsOthers.setCell _ _ _)), ⟨res2_set R3.out _ _, HF.out⟩, set2_below (HB.out.trans (K3.out.mono HB.out.size)) (Nat.le_refl _) _ _⟩
    case done =>
      rintro D ys W hD hys ⟨⟨⟨v, hv, hr, -⟩, hR, hg, -⟩, hB⟩ hK
      have hgot : got ys = piecesB 44 s := hys
      have HP := Lib.hid (par_good HH.out (by rw [← hgot]; exact hg))
      have HO := Lib.hid (show W.ownsRow w1.heap.size 44 2 v (parV s).length (dotsC (parV s)) by rw [HP.out.2, ← hgot]; exact hr)
      obtain ⟨ao, cap, rfl⟩ := own_slice HO.out
      have HB := Lib.hid hB
      have HR := Lib.hid hR
      have HK := Lib.hid hK
      have HD := Lib.hid (show w1.heap.size ≤ D from hD)
      have HZ := Lib.hid hsz
      have c2 := hv.cell
      have c0 := hR.1.cell
      have f0 := hR.1.frozen
      have c1 := hR.2.cell
      have f1 := hR.2.frozen
      clear hD hB hys hK hR hr hv hg hgot b0 b1 b2 hsz
      obtain ⟨k, hk⟩ : ∃ k, (parV s).length = k := ⟨_, rfl⟩
      rw [hk] at HO c2
      have HKK := Lib.hid hk
      clear hk
      go_wp2
      have hK' := ((KeepsOthers.setCell W ⟨w.heap.size, 0, none⟩ (.slice ao k cap)).trans (KeepsOthers.setCell _ ⟨w.heap.size + 1, 0, none⟩ (.int .i64 0))).same D _ HK.out rfl
      have hC := res2_own (res2_set HR.out (.slice ao k cap) (.int .i64 0)) (grownBy_putObj' _ D (.deferred none)) (fun r e => by cases e; exact ⟨_, hK', rfl⟩)
      have r0 := hC.1.cell
      have r1 := hC.2.cell
      refine ⟨by simp, .inl ⟨_, _, rfl, run_takeDeferred hK', ?_⟩⟩
      refine ⟨.tuple #[.slice ao k cap, .int .i64 0], by simp [results, Tryd.f29, go_sem, r0, r1], _, by rw [HP.out.1], ?_, ?_⟩
      · refine typ_of_own (base := w1.heap.size) ?_
        have hz := HZ.out
        rw [HKK.out]
        exact ownsRow_putObj (ownsRow_setCell_other (ownsRow_setCell_other HO.out (a := ⟨w.heap.size, 0, none⟩) (fun e => by have := (HO.out.lt _ e).1; simp only at this; omega) _) (a := ⟨w.heap.size + 1, 0, none⟩) (fun e => by have := (HO.out.lt _ e).1; simp only at this; omega) _) _ hK' rfl
      · exact (set2_below HB.out (Nat.le_refl _) _ _).trans (belowK_b (w := w) (Nat.le_refl _) _ D _ _ (by have h1 := HZ.out; have h2 := HD.out; omega) hK' rfl rfl)
    case stop =>
      rintro D pre W hD hpre ⟨⟨hR, hg⟩, hB⟩ hK
      have HP := Lib.hid (par_bad HH.out (goodP_prefix (show got pre <+: piecesB 44 s from hpre) hg))
      have hC := res2_own hR (grownBy_putObj' W D (.deferred none)) (fun r e => by cases e; exact ⟨_, hK, rfl⟩)
      have r0 := hC.1.cell
      have r1 := hC.2.cell
      have HB := Lib.hid hB
      have HK := Lib.hid hK
      have HD := Lib.hid (show w.heap.size ≤ D by omega)
      clear hD hB hpre hK hR hg b0 b1 b2 hsz hC
      gi_wp2
      refine ⟨by simp, .inl ⟨_, _, rfl, run_takeDeferred HK.out, ?_⟩⟩
      refine ⟨.tuple #[.slice none 0 0, .int .i64 2], by simp [results, Tryd.f29, go_sem, r0, r1], _, by rw [HP.out.1], by rw [HP.out.2]; exact typ_nil _, ?_⟩
      exact HB.out.trans (belowK_b (w := w) (Nat.le_refl _) _ D _ _ HD.out HK.out rfl rfl)
end Go.Proofs.YtcnjgdnokiindaaDoor
