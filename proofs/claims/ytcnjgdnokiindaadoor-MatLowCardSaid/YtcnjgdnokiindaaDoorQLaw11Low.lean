/-
The walk of the statement on what all replicas are known to know.
-/
import Derived.Test.YtcnjgdnokiindaaDoorPk6
namespace Go.Proofs.YtcnjgdnokiindaaDoor
open Go.RowKit
theorem low_join {a b : M2} (h : a.length = b.length) : leqV (lowM a) (lowM (joinM a b)) = true := by
  refine low_rises (by rw [joinM_length, ← h, Nat.max_self]) fun i => ?_
  by_cases hi : i < a.length
  · rw [joinM_row a b h i hi]; exact (leq_join _ _).1
  · rw [List.getD_eq_getElem?_getD, List.getD_eq_getElem?_getD, List.getElem?_eq_none (by omega), List.getElem?_eq_none (by rw [joinM_length]; omega)]
    exact leq_refl _
theorem low_raise (a : M2) (r : Int) (l : List D2) : leqV (lowM a) (lowM (raiseM a r l)) = true := by
  refine low_rises (by rw [raiseM_length]) fun i => ?_
  by_cases hr : 0 ≤ r
  · obtain ⟨k, rfl⟩ : ∃ k : Nat, r = (k : Int) := ⟨r.toNat, by omega⟩
    rw [raiseM_row]
    split
    · rename_i h; rw [h.1]; exact (leq_join _ _).1
    · exact leq_refl _
  · rw [raiseM, if_neg (by omega)]; exact leq_refl _
theorem hasAll_take (a : M2) (r q : Int) (k : Nat) (l : List D2) (hl : a[k]? = some l) : (a.take (k + 1)).all (fun l => hasV l r q) = ((a.take k).all (fun l => hasV l r q) && hasV l r q) := by
  rw [List.take_add_one, hl, List.all_append]; simp
theorem rowM_at {m : M2} {k : Nat} {l : List D2} (h : m[k]? = some l) : rowM m (k : Int) = l := by
  rw [rowM, if_pos (by omega), Int.toNat_natCast, List.getD_eq_getElem?_getD, h]; rfl
set_option maxRecDepth 100000 in
set_option maxHeartbeats 32000000 in
theorem matLow_walk (a b : M2) (r q : Int) (v u : Value) (w : World) (hv : HasMat w v a) (hu : HasMat w u b) (hT : PowTab w) :
    Calls Tryd.prog 5 #[v, u, .agg #[.int .i64 r, .int .i64 q]] w fun e w' => e = .returned (.bool true) ∧ Below w.heap.size w w' := by
  have HT := Lib.hid hT
  have AW := Lib.hid (fun w hT => awake11_any w hT)
  have HB0 := (Below.refl w.heap.size w).alloc (Nat.le_refl _) (.cells #[.int .i64 r, .int .i64 q] 44 (0, 0))
  have B0 := Lib.hid HB0
  have E_0 := Lib.hid (show (w.alloc (.cells #[.int .i64 r, .int .i64 q] 44 (0, 0))).heap[w.heap.size]? = some (.cells #[.int .i64 r, .int .i64 q] 44 (0, 0)) from one_box w r q)
  have SA := Lib.hid (fun w v hv => small_any a v w hv)
  have SB := Lib.hid (fun w v hv => small_any b v w hv)
  replace hv := mat_below hv HB0
  replace hu := mat_below hu HB0
  clear hT HB0
  have MA_0 := Lib.hid hv
  obtain ⟨ao, ac, rfl⟩ := mat_shape hv a.length rfl
  obtain ⟨n, hn⟩ : ∃ n, n = a.length := ⟨_, rfl⟩
  have HLn := Lib.hid hn
  rw [← hn] at MA_0 ⊢
  clear hv hn
  have MB_0 := Lib.hid hu
  obtain ⟨bo, bc, rfl⟩ := mat_shape hu b.length rfl
  obtain ⟨m, hm⟩ : ∃ m, m = b.length := ⟨_, rfl⟩
  have HLm := Lib.hid hm
  rw [← hm] at MB_0 ⊢
  clear hu hm
  generalize hW0 : w.alloc (.cells #[.int .i64 r, .int .i64 q] 44 (0, 0)) = W0 at *
  by_cases hn0 : n = 0
  · have he : a = [] := List.eq_nil_of_length_eq_zero (by rw [← HLn.out]; exact hn0)
    subst hn0
    subst he
    have LO := Lib.hid (fun w v hv => matLow_any [] ⟨Nat.zero_le _, fun _ h => by cases h⟩ v w hv)
    rw [show smallM [] = true from rfl] at SA
    cases hb : smallM b with
    | false =>
      rw [hb] at SB
      clear hb
      go_enter Tryd.func5, Tryd.ntmps5
      go_upto_region 1 with fail
      clear hW0
      go_wp2_with (first
        | (go_at_call 8; with_reducible refine (AW.out W0 (powTab_below HT.out B0.out)).mono ?_; rintro e w1 ⟨rfl, hb⟩; have B1 := Lib.hid (below_next B0.out hb); have MA_1 := Lib.hid (mat_below MA_0.out hb); have MB_1 := Lib.hid (mat_below MB_0.out hb); have E_1 := Lib.hid (row_kept E_0.out hb); clear hb)
        | (go_at_call 9; with_reducible refine (SA.out w1 _ MA_1.out).mono ?_; rintro e w2 ⟨rfl, e2⟩; subst e2)
        | (go_at_call 9; with_reducible refine (SB.out w1 _ MB_1.out).mono ?_; rintro e w2 ⟨rfl, e2⟩; subst e2)
        | (go_at_call 20; with_reducible refine (LO.out w1 _ MA_1.out).mono ?_; rintro e w2 ⟨x2, rfl, hx, hb⟩; have DL_2 := Lib.hid hx; obtain ⟨xo2, xc2, rfl⟩ := dots_shape hx 0 rfl; have B2 := Lib.hid (below_next B1.out hb); clear hb hx))
      go_ret
      exact ⟨rfl, B2.out⟩
    | true =>
      rw [hb] at SB
      clear hb
      go_enter Tryd.func5, Tryd.ntmps5
      go_upto_region 1 with fail
      clear hW0
      go_wp2_with (first
        | (go_at_call 8; with_reducible refine (AW.out W0 (powTab_below HT.out B0.out)).mono ?_; rintro e w1 ⟨rfl, hb⟩; have B1 := Lib.hid (below_next B0.out hb); have MA_1 := Lib.hid (mat_below MA_0.out hb); have MB_1 := Lib.hid (mat_below MB_0.out hb); have E_1 := Lib.hid (row_kept E_0.out hb); clear hb)
        | (go_at_call 9; with_reducible refine (SA.out w1 _ MA_1.out).mono ?_; rintro e w2 ⟨rfl, e2⟩; subst e2)
        | (go_at_call 9; with_reducible refine (SB.out w1 _ MB_1.out).mono ?_; rintro e w2 ⟨rfl, e2⟩; subst e2)
        | (go_at_call 20; with_reducible refine (LO.out w1 _ MA_1.out).mono ?_; rintro e w2 ⟨x2, rfl, hx, hb⟩; have DL_2 := Lib.hid hx; obtain ⟨xo2, xc2, rfl⟩ := dots_shape hx 0 rfl; have B2 := Lib.hid (below_next B1.out hb); clear hb hx))
      go_ret
      exact ⟨rfl, B2.out⟩
  · have d0 : decide (0 < n) = true := decide_eq_true (by omega)
    have t0 : ((n : Int) == 0) = false := beq_eq_false_iff_ne.2 (by omega)
    cases ha : smallM a with
    | false =>
      rw [ha] at SA
      clear ha hn0
      go_enter Tryd.func5, Tryd.ntmps5
      go_upto_region 1 with fail
      clear hW0
      go_wp2_with (first
        | (go_at_call 8; with_reducible refine (AW.out W0 (powTab_below HT.out B0.out)).mono ?_; rintro e w1 ⟨rfl, hb⟩; have B1 := Lib.hid (below_next B0.out hb); have MA_1 := Lib.hid (mat_below MA_0.out hb); have MB_1 := Lib.hid (mat_below MB_0.out hb); have E_1 := Lib.hid (row_kept E_0.out hb); clear hb)
        | (go_at_call 9; with_reducible refine (SA.out w1 _ MA_1.out).mono ?_; rintro e w2 ⟨rfl, e2⟩; subst e2))
      go_ret
      exact ⟨rfl, B1.out⟩
    | true =>
      rw [ha] at SA
      cases hb : smallM b with
      | false =>
        rw [hb] at SB
        clear ha hb hn0
        go_enter Tryd.func5, Tryd.ntmps5
        go_upto_region 1 with fail
        clear hW0
        go_wp2_with (first
          | (go_at_call 8; with_reducible refine (AW.out W0 (powTab_below HT.out B0.out)).mono ?_; rintro e w1 ⟨rfl, hb⟩; have B1 := Lib.hid (below_next B0.out hb); have MA_1 := Lib.hid (mat_below MA_0.out hb); have MB_1 := Lib.hid (mat_below MB_0.out hb); have E_1 := Lib.hid (row_kept E_0.out hb); clear hb)
          | (go_at_call 9; with_reducible refine (SA.out w1 _ MA_1.out).mono ?_; rintro e w2 ⟨rfl, e2⟩; subst e2)
          | (go_at_call 9; with_reducible refine (SB.out w1 _ MB_1.out).mono ?_; rintro e w2 ⟨rfl, e2⟩; subst e2))
        go_ret
        exact ⟨rfl, B1.out⟩
      | true =>
        rw [hb] at SB
        by_cases hnm : n = m
        · have t1 : ((n : Int) != (m : Int)) = false := by rw [hnm]; simp
          have hab : a.length = b.length := by rw [← HLn.out, ← HLm.out]; exact hnm
          have hfa := small_fits ha
          have hfb := small_fits hb
          have hn4 : n ≤ 1000 := by rw [HLn.out]; exact hfa.1
          have RW := Lib.hid (fun k w v hv => matRow_any a hfa (k : Int) v w hv)
          have LO := Lib.hid (fun w v hv => matLow_any a hfa v w hv)
          have JN := Lib.hid (fun w v u hv hu => matJoin_any a b hfa hfb v u w hv hu)
          have LJ := Lib.hid (fun w v hv => matLow_any (joinM a b) (fits_join hfa hfb) v w hv)
          have QJ := Lib.hid (fun w v u hv hu => vecLeq_any (lowM a) (lowM (joinM a b)) (by have := rising_length (mayV_low a); omega) (by have := rising_length (mayV_low (joinM a b)); omega) v u w hv hu)
          rw [low_join hab] at QJ
          obtain ⟨b0, hb0⟩ : ∃ b0, b[0]? = some b0 := ⟨_, List.getElem?_eq_getElem (by have := HLm.out; omega)⟩
          have RS := Lib.hid (fun w v u hv hu => matRaise_any a hfa r b0 (fits_at hfb hb0) v u w hv hu)
          have LR := Lib.hid (fun w v hv => matLow_any (raiseM a r b0) (fits_raise hfa r b0) v w hv)
          have QR := Lib.hid (fun w v u hv hu => vecLeq_any (lowM a) (lowM (raiseM a r b0)) (by have := rising_length (mayV_low a); omega) (by have := rising_length (mayV_low (raiseM a r b0)); omega) v u w hv hu)
          rw [low_raise] at QR
          have HS := Lib.hid (fun w v hv => vecHas_any (lowM a) (by have := rising_length (mayV_low a); omega) r q v w hv)
          rw [has_low (fun e => hn0 (by rw [HLn.out, e]; rfl)) r q] at HS
          have HX := Lib.hid (fun (l : List D2) (hl : l.length < 2000000) w v hv => vecHas_any l hl r q v w hv)
          have HFA := Lib.hid (fun k l (hl : a[k]? = some l) => fits_at hfa hl)
          have HTK := Lib.hid (show (a.take n).all (fun l => hasV l r q) = a.all (fun l => hasV l r q) by rw [HLn.out, List.take_length])
          obtain ⟨bd, bc', x0, e0, d0c, hd0⟩ := mat_at MB_0.out m 0 HLm.out.symm b0 hb0
          simp only [Value.slice.injEq] at e0
          obtain ⟨rfl, -, rfl⟩ := e0
          obtain ⟨zo, zc, rfl⟩ := dots_shape hd0 b0.length rfl
          have hadd : bd.add 0 = bd := by unfold Addr.add; split <;> simp_all
          rw [hadd] at d0c
          have C_0 := Lib.hid d0c
          have DB_0 := Lib.hid hd0
          have q7 : 0 < m := by omega
          generalize hJJ : joinM a b = J at *
          generalize hRR : raiseM a r b0 = RM at *
          generalize hLL : lowM a = LA at *
          clear ha hb hab hfa hfb hb0 d0c hd0 hadd hJJ hRR hLL hn0 hnm
          go_enter Tryd.func5, Tryd.ntmps5
          go_upto_region 1 with fail
          clear hW0
          go_wp2_with (first
            | (go_at_call 8; with_reducible refine (AW.out W0 (powTab_below HT.out B0.out)).mono ?_; rintro e w1 ⟨rfl, hb⟩; have B1 := Lib.hid (below_next B0.out hb); have MA_1 := Lib.hid (mat_below MA_0.out hb); have MB_1 := Lib.hid (mat_below MB_0.out hb); have E_1 := Lib.hid (row_kept E_0.out hb); have C_1 := Lib.hid (cell_under C_0.out hb); have DB_1 := Lib.hid (dots_below DB_0.out hb); clear hb)
            | (go_at_call 9; with_reducible refine (SA.out w1 _ MA_1.out).mono ?_; rintro e w2 ⟨rfl, e2⟩; subst e2)
            | (go_at_call 9; with_reducible refine (SB.out w1 _ MB_1.out).mono ?_; rintro e w2 ⟨rfl, e2⟩; subst e2))
          go_loopw [8, 9] (fun all c wr => ∃ k : Nat, k ≤ n ∧ c = .int .i64 (k : Int) ∧ all = .bool ((a.take k).all (fun l => hasV l r q)) ∧ Below w1.heap.size w1 wr) (fun _ c _ => n - (intOf c).toNat)
          case atStart => exact ⟨0, Nat.zero_le _, rfl, rfl, Below.refl _ _⟩
          case round =>
            obtain ⟨k, hk, rfl, rfl, hb⟩ := hrel
            have HB := Lib.hid hb
            by_cases hlt : k < n
            · have q0 : (k : Int) < (n : Int) := by omega
              have KK := Lib.hid (show k + 1 ≤ n ∧ n - (k + 1) < n - k by omega)
              obtain ⟨l, hl⟩ : ∃ l, a[k]? = some l := ⟨_, List.getElem?_eq_getElem (by have := HLn.out; omega)⟩
              have HN2 := Lib.hid (hasAll_take a r q k l hl)
              have RK := Lib.hid (fun w v hv => RW.out k w v hv)
              rw [rowM_at hl] at RK
              have HL := Lib.hid (fun w v hv => HX.out l (HFA.out k l hl) w v hv)
              have MAR := Lib.hid (mat_below MA_1.out hb)
              have ER := Lib.hid (row_kept E_1.out hb)
              obtain ⟨B, hB⟩ : ∃ B, B = (a.take k).all (fun l => hasV l r q) := ⟨_, rfl⟩
              rw [← hB] at HN2 ⊢
              clear hb hl hB hlt hk
              cases B with
              | true =>
                go_upto_region 8 with fail
                refine wp_region_held_drew (S := fun w' => Below wr.heap.size wr w') (by kernel_rfl) (drawS (Below.refl _ _)) (fun hHeld => ?_)
                generalize wr.drew = wd at hHeld ⊢
                refine take_at (i := 0) 50 rfl rfl (by kernel_rfl) (by kernel_rfl) (by kernel_rfl) (fun _ _ _ h => h) (sure_yes (by rfl) (fun w => by go_simp; try with_reducible rfl)) hHeld ?_
                simp only [List.setIfInBounds_toArray, List.set_cons_zero, List.set_cons_succ]
                refine take_at (i := 1) 51 rfl rfl (by kernel_rfl) (by kernel_rfl) (by kernel_rfl) (fun _ _ _ h => h) (sure_yes (by rfl) (fun w => by go_simp; try with_reducible rfl)) hHeld ?_
                simp only [List.setIfInBounds_toArray, List.set_cons_zero, List.set_cons_succ]
                refine take_at (i := 2) 52 rfl rfl (by kernel_rfl) (by kernel_rfl) (by kernel_rfl) (fun _ _ _ h => h) (sure_yes (by rfl) (fun w => by go_simp; try with_reducible rfl)) hHeld ?_
                simp only [List.setIfInBounds_toArray, List.set_cons_zero, List.set_cons_succ]
                refine take_at (i := 3) 53 rfl rfl (by kernel_rfl) (by kernel_rfl) (by kernel_rfl) (fun _ _ _ h => h) (sure_yes (by rfl) (fun w => by go_simp; try with_reducible rfl)) hHeld ?_
                simp only [List.setIfInBounds_toArray, List.set_cons_zero, List.set_cons_succ]
                refine take_at (i := 5) 55 rfl rfl (by kernel_rfl) (by kernel_rfl) (by kernel_rfl) (fun _ _ _ h => h) (row_yields (by rfl) 44 (.tmp 5) rfl w.heap.size rfl 44 _ (0, 0) _ Tryd.underlying44 rfl (by kernel_rfl) (fun _ h => row_kept ER.out h)) hHeld ?_
                simp only [List.setIfInBounds_toArray, List.set_cons_zero, List.set_cons_succ]
                refine wpAnyH_ready (rs := [4]) (by kernel_rfl) (by simp) ?_
                refine AllReadyH.cons rfl (fun K hK => ?_) AllReadyH.nil
                go_simp
                go_at_call 22
                refine (RK.out _ _ (mat_below MAR.out hHeld)).mono ?_
                rintro e w6 ⟨xXR, rfl, hxXR, hb⟩
                have XR := Lib.hid hxXR
                obtain ⟨xoXR, xcXR, rfl⟩ := dots_shape hxXR _ rfl
                clear hxXR
                dsimp only
                refine hK.out _ _ (below_next hHeld hb) (fun hHeld => ?_)
                clear hK K hb
                refine wpAnyH_ready (rs := [6]) (by kernel_rfl) (by simp) ?_
                refine AllReadyH.cons rfl (fun K hK => ?_) AllReadyH.nil
                go_simp
                go_at_call 21
                refine (HL.out _ _ XR.out).mono ?_
                rintro e w7 ⟨rfl, hb⟩
                dsimp only
                refine hK.out _ _ (below_next hHeld hb) (fun hHeld => ?_)
                clear hK K hb
                refine take_at (i := 7) 57 rfl rfl (by kernel_rfl) (by kernel_rfl) (by kernel_rfl) (fun _ _ _ h => h) (sure_yes (by rfl) (fun w => by go_simp; try with_reducible rfl)) hHeld ?_
                simp only [List.setIfInBounds_toArray, List.set_cons_zero, List.set_cons_succ]
                refine take_at (i := 8) 8 rfl rfl (by kernel_rfl) (by kernel_rfl) (by kernel_rfl) (fun _ _ _ h => h) (sure_yes (by rfl) (fun w => by go_simp; try with_reducible rfl)) hHeld ?_
                simp only [List.setIfInBounds_toArray, List.set_cons_zero, List.set_cons_succ]
                refine wpAnyH_done (by kernel_rfl) ?_ _
                have HB9 := Lib.hid (below_next HB.out hHeld)
                clear hHeld
                go_wp2
                refine ⟨⟨k + 1, KK.out.1, by simp, by rw [HN2.out, Bool.true_and], HB9.out⟩, ?_⟩
                have := KK.out.2; simp [intOf] <;> omega
              | false =>
                go_upto_region 8 with fail
                refine wp_region_held_drew (S := fun w' => Below wr.heap.size wr w') (by kernel_rfl) (drawS (Below.refl _ _)) (fun hHeld => ?_)
                generalize wr.drew = wd at hHeld ⊢
                refine take_at (i := 0) 50 rfl rfl (by kernel_rfl) (by kernel_rfl) (by kernel_rfl) (fun _ _ _ h => h) (sure_yes (by rfl) (fun w => by go_simp; try with_reducible rfl)) hHeld ?_
                simp only [List.setIfInBounds_toArray, List.set_cons_zero, List.set_cons_succ]
                refine take_at (i := 1) 51 rfl rfl (by kernel_rfl) (by kernel_rfl) (by kernel_rfl) (fun _ _ _ h => h) (sure_yes (by rfl) (fun w => by go_simp; try with_reducible rfl)) hHeld ?_
                simp only [List.setIfInBounds_toArray, List.set_cons_zero, List.set_cons_succ]
                refine take_at (i := 2) 52 rfl rfl (by kernel_rfl) (by kernel_rfl) (by kernel_rfl) (fun _ _ _ h => h) (.inr ⟨by rfl, rfl⟩) hHeld ?_
                simp only [List.setIfInBounds_toArray, List.set_cons_zero, List.set_cons_succ]
                refine take_at (i := 3) 53 rfl rfl (by kernel_rfl) (by kernel_rfl) (by kernel_rfl) (fun _ _ _ h => h) (.inr ⟨by rfl, rfl⟩) hHeld ?_
                simp only [List.setIfInBounds_toArray, List.set_cons_zero, List.set_cons_succ]
                refine take_at (i := 4) 54 rfl rfl (by kernel_rfl) (by kernel_rfl) (by kernel_rfl) (fun _ _ _ h => h) (.inr ⟨by rfl, rfl⟩) hHeld ?_
                simp only [List.setIfInBounds_toArray, List.set_cons_zero, List.set_cons_succ]
                refine take_at (i := 5) 55 rfl rfl (by kernel_rfl) (by kernel_rfl) (by kernel_rfl) (fun _ _ _ h => h) (.inr ⟨by rfl, rfl⟩) hHeld ?_
                simp only [List.setIfInBounds_toArray, List.set_cons_zero, List.set_cons_succ]
                refine take_at (i := 6) 56 rfl rfl (by kernel_rfl) (by kernel_rfl) (by kernel_rfl) (fun _ _ _ h => h) (.inr ⟨by rfl, rfl⟩) hHeld ?_
                simp only [List.setIfInBounds_toArray, List.set_cons_zero, List.set_cons_succ]
                refine take_at (i := 7) 57 rfl rfl (by kernel_rfl) (by kernel_rfl) (by kernel_rfl) (fun _ _ _ h => h) (sure_yes (by rfl) (fun w => by go_simp; try with_reducible rfl)) hHeld ?_
                simp only [List.setIfInBounds_toArray, List.set_cons_zero, List.set_cons_succ]
                refine take_at (i := 8) 8 rfl rfl (by kernel_rfl) (by kernel_rfl) (by kernel_rfl) (fun _ _ _ h => h) (sure_yes (by rfl) (fun w => by go_simp; try with_reducible rfl)) hHeld ?_
                simp only [List.setIfInBounds_toArray, List.set_cons_zero, List.set_cons_succ]
                refine wpAnyH_done (by kernel_rfl) ?_ _
                have HB9 := Lib.hid (below_next HB.out hHeld)
                clear hHeld
                go_wp2
                refine ⟨⟨k + 1, KK.out.1, by simp, by rw [HN2.out, Bool.false_and], HB9.out⟩, ?_⟩
                have := KK.out.2; simp [intOf] <;> omega
            · have q0 : ¬ (k : Int) < (n : Int) := by omega
              obtain rfl : k = n := by omega
              rw [HTK.out]
              generalize a.all (fun l => hasV l r q) = AL at *
              have MA_2 := Lib.hid (mat_below MA_1.out hb)
              have MB_2 := Lib.hid (mat_below MB_1.out hb)
              have DB_2 := Lib.hid (dots_below DB_1.out hb)
              have C_2 := Lib.hid (cell_under C_1.out hb)
              have E_2 := Lib.hid (row_kept E_1.out hb)
              have B2 := Lib.hid (below_next B1.out hb)
              clear hb hlt hk
              go_upto_region 10 with (first
                | (go_at_call 20; refine (LO.out wr _ MA_2.out).mono ?_; rintro e w3 ⟨x3, rfl, hx, hb⟩; have DL_3 := Lib.hid hx; obtain ⟨xo3, xc3, rfl⟩ := dots_shape hx _ rfl; have MA_3 := Lib.hid (mat_below MA_2.out hb); have MB_3 := Lib.hid (mat_below MB_2.out hb); have DB_3 := Lib.hid (dots_below DB_2.out hb); have C_3 := Lib.hid (cell_under C_2.out hb); have E_3 := Lib.hid (row_kept E_2.out hb); have B3 := Lib.hid (below_next B2.out hb); clear hb hx))
              obtain ⟨e0, e1⟩ := dot_cells (show _ = some (dotO r q) from E_3.out)
              have C1 := Lib.hid e0
              clear e0 e1
              refine wp_region_held_drew (S := fun w' => Below w3.heap.size w3 w') (by kernel_rfl) (drawS (Below.refl _ _)) (fun hHeld => ?_)
              generalize w3.drew = wd at hHeld ⊢
              refine take_at (i := 0) 60 rfl rfl (by kernel_rfl) (by kernel_rfl) (by kernel_rfl) (fun _ _ _ h => h) (sure_yes (by rfl) (fun w => by go_simp; try with_reducible rfl)) hHeld ?_
              simp only [List.setIfInBounds_toArray, List.set_cons_zero, List.set_cons_succ]
              refine take_at (i := 1) 61 rfl rfl (by kernel_rfl) (by kernel_rfl) (by kernel_rfl) (fun _ _ _ h => h) (sure_yes (by rfl) (fun w => by go_simp; try with_reducible rfl)) hHeld ?_
              simp only [List.setIfInBounds_toArray, List.set_cons_zero, List.set_cons_succ]
              refine take_at (i := 2) 62 rfl rfl (by kernel_rfl) (by kernel_rfl) (by kernel_rfl) (fun _ _ _ h => h) (sure_yes (by rfl) (fun w => by go_simp; try with_reducible rfl)) hHeld ?_
              simp only [List.setIfInBounds_toArray, List.set_cons_zero, List.set_cons_succ]
              refine take_at (i := 5) 65 rfl rfl (by kernel_rfl) (by kernel_rfl) (by kernel_rfl) (fun _ _ _ h => h) (sure_yes (by rfl) (fun w => by go_simp; try with_reducible rfl)) hHeld ?_
              simp only [List.setIfInBounds_toArray, List.set_cons_zero, List.set_cons_succ]
              refine take_at (i := 3) 63 rfl rfl (by kernel_rfl) (by kernel_rfl) (by kernel_rfl) (fun _ _ _ h => h) (row_yields (by rfl) 44 (.tmp 5) rfl w.heap.size rfl 44 _ (0, 0) _ Tryd.underlying44 rfl (by kernel_rfl) (fun _ h => row_kept E_3.out h)) hHeld ?_
              simp only [List.setIfInBounds_toArray, List.set_cons_zero, List.set_cons_succ]
              refine wpAnyH_ready (rs := [4]) (by kernel_rfl) (by simp) ?_
              refine AllReadyH.cons rfl (fun K hK => ?_) AllReadyH.nil
              go_simp
              go_at_call 21
              refine (HS.out _ _ (dots_below DL_3.out hHeld)).mono ?_
              rintro e w4 ⟨rfl, hb⟩
              dsimp only
              refine hK.out _ _ (below_next hHeld hb) (fun hHeld => ?_)
              clear hK K hb
              refine take_at (i := 6) 66 rfl rfl (by kernel_rfl) (by kernel_rfl) (by kernel_rfl) (fun _ _ _ h => h) (sure_yes (by rfl) (fun w => by go_simp; try with_reducible rfl)) hHeld ?_
              simp only [List.setIfInBounds_toArray, List.set_cons_zero, List.set_cons_succ]
              refine take_at (i := 7) 67 rfl rfl (by kernel_rfl) (by kernel_rfl) (by kernel_rfl) (fun _ _ _ h => h) (sure_yes (by rfl) (fun w => by go_simp; try with_reducible rfl)) hHeld ?_
              simp only [List.setIfInBounds_toArray, List.set_cons_zero, List.set_cons_succ]
              refine take_at (i := 8) 68 rfl rfl (by kernel_rfl) (by kernel_rfl) (by kernel_rfl) (fun _ _ _ h => h) (sure_yes (by rfl) (fun w => by go_simp; try with_reducible rfl)) hHeld ?_
              simp only [List.setIfInBounds_toArray, List.set_cons_zero, List.set_cons_succ]
              refine take_at (i := 9) 69 rfl rfl (by kernel_rfl) (by kernel_rfl) (by kernel_rfl) (fun _ _ _ h => h) (sure_yes (by rfl) (fun w => by go_simp; try with_reducible rfl)) hHeld ?_
              simp only [List.setIfInBounds_toArray, List.set_cons_zero, List.set_cons_succ]
              refine take_at (i := 10) 70 rfl rfl (by kernel_rfl) (by kernel_rfl) (by kernel_rfl) (fun _ _ _ h => h) (sure_yes (by rfl) (fun w => by go_simp; try with_reducible rfl)) hHeld ?_
              simp only [List.setIfInBounds_toArray, List.set_cons_zero, List.set_cons_succ]
              refine take_at (i := 11) 71 rfl rfl (by kernel_rfl) (by kernel_rfl) (by kernel_rfl) (fun _ _ _ h => h) (sure_yes (by rfl) (fun w => by go_simp; try with_reducible rfl)) hHeld ?_
              simp only [List.setIfInBounds_toArray, List.set_cons_zero, List.set_cons_succ]
              refine wpAnyH_ready (rs := [12]) (by kernel_rfl) (by simp) ?_
              refine AllReadyH.cons rfl (fun K hK => ?_) AllReadyH.nil
              go_simp
              go_at_call 13
              refine (JN.out _ _ _ (mat_below MA_3.out hHeld) (mat_below MB_3.out hHeld)).mono ?_
              rintro e w5 ⟨xXJ, rfl, hxXJ, hb⟩
              have XJ := Lib.hid hxXJ
              obtain ⟨xoXJ, xcXJ, rfl⟩ := mat_shape hxXJ _ rfl
              clear hxXJ
              dsimp only
              refine hK.out _ _ (below_next hHeld hb) (fun hHeld => ?_)
              clear hK K hb
              refine wpAnyH_ready (rs := [13]) (by kernel_rfl) (by simp) ?_
              refine AllReadyH.cons rfl (fun K hK => ?_) AllReadyH.nil
              go_simp
              go_at_call 20
              refine (LJ.out _ _ XJ.out).mono ?_
              rintro e w6 ⟨xXL, rfl, hxXL, hb⟩
              have XL := Lib.hid hxXL
              obtain ⟨xoXL, xcXL, rfl⟩ := dots_shape hxXL _ rfl
              clear hxXL
              dsimp only
              refine hK.out _ _ (below_next hHeld hb) (fun hHeld => ?_)
              clear hK K hb
              refine wpAnyH_ready (rs := [14]) (by kernel_rfl) (by simp) ?_
              refine AllReadyH.cons rfl (fun K hK => ?_) AllReadyH.nil
              go_simp
              go_at_call 23
              refine (QJ.out _ _ _ (dots_below DL_3.out hHeld) XL.out).mono ?_
              rintro e w7 ⟨rfl, hb⟩
              dsimp only
              refine hK.out _ _ (below_next hHeld hb) (fun hHeld => ?_)
              clear hK K hb
              refine take_at (i := 15) 75 rfl rfl (by kernel_rfl) (by kernel_rfl) (by kernel_rfl) (fun _ _ _ h => h) (sure_yes (by rfl) (fun w => by go_simp; try with_reducible rfl)) hHeld ?_
              simp only [List.setIfInBounds_toArray, List.set_cons_zero, List.set_cons_succ]
              refine take_at (i := 16) 76 rfl rfl (by kernel_rfl) (by kernel_rfl) (by kernel_rfl) (fun _ _ _ h => h) (sure_yes (by rfl) (fun w => by go_simp; try with_reducible rfl)) hHeld ?_
              simp only [List.setIfInBounds_toArray, List.set_cons_zero, List.set_cons_succ]
              refine take_at (i := 17) 77 rfl rfl (by kernel_rfl) (by kernel_rfl) (by kernel_rfl) (fun _ _ _ h => h) (sure_yes (by rfl) (fun w => by go_simp; try with_reducible rfl)) hHeld ?_
              simp only [List.setIfInBounds_toArray, List.set_cons_zero, List.set_cons_succ]
              refine take_at (i := 18) 78 rfl rfl (by kernel_rfl) (by kernel_rfl) (by kernel_rfl) (fun _ _ _ h => h) (sure_yes (by rfl) (fun w => by go_simp; try with_reducible rfl)) hHeld ?_
              simp only [List.setIfInBounds_toArray, List.set_cons_zero, List.set_cons_succ]
              refine take_at (i := 19) 79 rfl rfl (by kernel_rfl) (by kernel_rfl) (by kernel_rfl) (fun _ _ _ h => h) (sure_yes (by rfl) (fun w => by go_simp; try with_reducible rfl)) hHeld ?_
              simp only [List.setIfInBounds_toArray, List.set_cons_zero, List.set_cons_succ]
              refine take_at (i := 21) 81 rfl rfl (by kernel_rfl) (by kernel_rfl) (by kernel_rfl) (fun _ _ _ h => h) (sure_yes (by rfl) (fun w => by go_simp; try with_reducible rfl)) hHeld ?_
              simp only [List.setIfInBounds_toArray, List.set_cons_zero, List.set_cons_succ]
              refine take_at (i := 22) 82 rfl rfl (by kernel_rfl) (by kernel_rfl) (by kernel_rfl) (fun _ _ _ h => h) (sure_yes (by rfl) (fun w => by go_simp; try with_reducible rfl)) hHeld ?_
              simp only [List.setIfInBounds_toArray, List.set_cons_zero, List.set_cons_succ]
              refine take_at (i := 20) 80 rfl rfl (by kernel_rfl) (by kernel_rfl) (by kernel_rfl) (fun _ _ _ h => h) (cell_yields (by rfl) 3 (.tmp 79) rfl w.heap.size 0 rfl .i64 r Tryd.underlying3 (fun w h => (World.cell?_of_block (h.block _ (World.block_lt_of_cell? _ _ C1.out))).trans C1.out)) hHeld ?_
              simp only [List.setIfInBounds_toArray, List.set_cons_zero, List.set_cons_succ]
              refine take_at (i := 23) 83 rfl rfl (by kernel_rfl) (by kernel_rfl) (by kernel_rfl) (fun _ _ _ h => h) (slice_yields (by rfl) 37 (.tmp 82) rfl bd rfl zo b0.length zc Tryd.underlying37 (fun w h => cell_under C_3.out h)) hHeld ?_
              simp only [List.setIfInBounds_toArray, List.set_cons_zero, List.set_cons_succ]
              refine wpAnyH_ready (rs := [24]) (by kernel_rfl) (by simp) ?_
              refine AllReadyH.cons rfl (fun K hK => ?_) AllReadyH.nil
              go_simp
              go_at_call 18
              refine (RS.out _ _ _ (mat_below MA_3.out hHeld) (dots_below DB_3.out hHeld)).mono ?_
              rintro e w8 ⟨xXS, rfl, hxXS, hb⟩
              have XS := Lib.hid hxXS
              obtain ⟨xoXS, xcXS, rfl⟩ := mat_shape hxXS _ rfl
              clear hxXS
              dsimp only
              refine hK.out _ _ (below_next hHeld hb) (fun hHeld => ?_)
              clear hK K hb
              refine wpAnyH_ready (rs := [25]) (by kernel_rfl) (by simp) ?_
              refine AllReadyH.cons rfl (fun K hK => ?_) AllReadyH.nil
              go_simp
              go_at_call 20
              refine (LR.out _ _ XS.out).mono ?_
              rintro e w9 ⟨xXM, rfl, hxXM, hb⟩
              have XM := Lib.hid hxXM
              obtain ⟨xoXM, xcXM, rfl⟩ := dots_shape hxXM _ rfl
              clear hxXM
              dsimp only
              refine hK.out _ _ (below_next hHeld hb) (fun hHeld => ?_)
              clear hK K hb
              refine wpAnyH_ready (rs := [26]) (by kernel_rfl) (by simp) ?_
              refine AllReadyH.cons rfl (fun K hK => ?_) AllReadyH.nil
              go_simp
              go_at_call 23
              refine (QR.out _ _ _ (dots_below DL_3.out hHeld) XM.out).mono ?_
              rintro e w10 ⟨rfl, hb⟩
              dsimp only
              refine hK.out _ _ (below_next hHeld hb) (fun hHeld => ?_)
              clear hK K hb
              refine take_at (i := 27) 87 rfl rfl (by kernel_rfl) (by kernel_rfl) (by kernel_rfl) (fun _ _ _ h => h) (sure_yes (by rfl) (fun w => by go_simp; try with_reducible rfl)) hHeld ?_
              simp only [List.setIfInBounds_toArray, List.set_cons_zero, List.set_cons_succ]
              refine take_at (i := 28) 6 rfl rfl (by kernel_rfl) (by kernel_rfl) (by kernel_rfl) (fun _ _ _ h => h) (sure_yes (by rfl) (fun w => by go_simp; try with_reducible rfl)) hHeld ?_
              simp only [List.setIfInBounds_toArray, List.set_cons_zero, List.set_cons_succ]
              refine wpAnyH_done (by kernel_rfl) ?_ _
              have HB9 := Lib.hid (below_next B3.out hHeld)
              clear hHeld
              go_wp2
              go_ret
              exact ⟨by simp <;> rfl, HB9.out⟩
        · have t1 : ((n : Int) != (m : Int)) = true := bne_iff_ne.2 (by omega)
          clear ha hb hn0 hnm
          go_enter Tryd.func5, Tryd.ntmps5
          go_upto_region 1 with fail
          clear hW0
          go_wp2_with (first
            | (go_at_call 8; with_reducible refine (AW.out W0 (powTab_below HT.out B0.out)).mono ?_; rintro e w1 ⟨rfl, hb⟩; have B1 := Lib.hid (below_next B0.out hb); have MA_1 := Lib.hid (mat_below MA_0.out hb); have MB_1 := Lib.hid (mat_below MB_0.out hb); have E_1 := Lib.hid (row_kept E_0.out hb); clear hb)
            | (go_at_call 9; with_reducible refine (SA.out w1 _ MA_1.out).mono ?_; rintro e w2 ⟨rfl, e2⟩; subst e2)
            | (go_at_call 9; with_reducible refine (SB.out w1 _ MB_1.out).mono ?_; rintro e w2 ⟨rfl, e2⟩; subst e2))
          go_ret
          exact ⟨rfl, B1.out⟩
end Go.Proofs.YtcnjgdnokiindaaDoor
