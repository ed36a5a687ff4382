/-
The walk of the statement on a row that is raised.
-/
import Derived.Test.YtcnjgdnokiindaaDoorPk6
namespace Go.Proofs.YtcnjgdnokiindaaDoor
open Go.RowKit
theorem sameV_self (l : List D2) : sameV l l = true := (sameV_iff l l).2 fun _ _ => rfl
theorem joinV_self (p l : List D2) : joinV (joinV p l) (joinV p l) = joinV p l := by
  have h : joinV (joinV p l) (joinV p l) = vecOf (joinV p l) := ofN_congr fun j _ => by simp only [joinN]; omega
  rw [h, rising_vec (mayV_join p l)]
theorem raise_at {m : M2} {k : Nat} {p : List D2} (l : List D2) (h : m[k]? = some p) : raiseM m (k : Int) l = m.set k (joinV p l) := by
  have hk := (List.getElem?_eq_some_iff.1 h).1
  rw [raiseM, if_pos ⟨by omega, by omega⟩, Int.toNat_natCast, List.getD_eq_getElem?_getD, h]; rfl
theorem raise_self {m : M2} {k : Nat} {p : List D2} (l : List D2) (h : m[k]? = some p) : (raiseM m (k : Int) l)[k]? = some (joinV p l) ∧ raiseM (raiseM m (k : Int) l) (k : Int) (joinV p l) = raiseM m (k : Int) l ∧ ∀ i, i ≠ k → (raiseM m (k : Int) l)[i]? = m[i]? := by
  have hk := (List.getElem?_eq_some_iff.1 h).1
  have h1 : (raiseM m (k : Int) l)[k]? = some (joinV p l) := by rw [raise_at l h, List.getElem?_set_self hk]
  refine ⟨h1, ?_, fun i hi => by rw [raise_at l h, List.getElem?_set_ne (fun e => hi e.symm)]⟩
  rw [raise_at (joinV p l) h1, joinV_self, raise_at l h, List.set_set]
theorem wrap_byte (c n : Nat) (hc : c < 256) (hn : 0 < n) : wrap64 (c : Int) = (c : Int) ∧ ∃ k : Nat, k < n ∧ (c : Int).tmod (n : Int) = (k : Int) ∧ (c : Int) % (n : Int) = (k : Int) := by
  refine ⟨by rw [wrap64]; omega, c % n, Nat.mod_lt _ hn, ?_, rfl⟩
  rw [Int.tmod_eq_emod_of_nonneg (by omega)]; rfl
set_option maxRecDepth 100000 in
set_option maxHeartbeats 32000000 in
theorem matRaised_walk (m : M2) (c : Nat) (hc : c < 256) (l : List D2) (v u : Value) (w : World) (hv : HasMat w v m) (hu : HasDots w u l) (hT : PowTab w) :
    Calls Tryd.prog 7 #[v, .int .u8 (c : Int), u] w fun e w' => e = .returned (.bool true) ∧ Below w.heap.size w w' := by
  have HT := Lib.hid hT
  have AW := Lib.hid (fun w hT => awake11_any w hT)
  have B0 := Lib.hid (Below.refl w.heap.size w)
  have SA := Lib.hid (fun w v hv => small_any m v w hv)
  have DV_0 := Lib.hid hu
  obtain ⟨uo, uc, rfl⟩ := dots_shape hu l.length rfl
  obtain ⟨ll, hll⟩ : ∃ ll, ll = l.length := ⟨_, rfl⟩
  rw [← hll] at DV_0 ⊢
  have HLL := Lib.hid hll
  clear hT hu hll
  have MA_0 := Lib.hid hv
  obtain ⟨ao, ac, rfl⟩ := mat_shape hv m.length rfl
  obtain ⟨n, hn⟩ : ∃ n, n = m.length := ⟨_, rfl⟩
  have HLn := Lib.hid hn
  rw [← hn] at MA_0 ⊢
  clear hv hn
  cases ha : smallM m with
  | false =>
    rw [ha] at SA
    clear ha
    go_enter Tryd.func7, Tryd.ntmps7
    go_wp2_with (first
      | (go_at_call 8; with_reducible refine (AW.out w (powTab_below HT.out B0.out)).mono ?_; rintro e w1 ⟨rfl, hb⟩; have B1 := Lib.hid (below_next B0.out hb); have MA_1 := Lib.hid (mat_below MA_0.out hb); have DV_1 := Lib.hid (dots_below DV_0.out hb); clear hb)
      | (go_at_call 9; with_reducible refine (SA.out w1 _ MA_1.out).mono ?_; rintro e w2 ⟨rfl, e2⟩; subst e2))
    go_ret
    exact ⟨rfl, B1.out⟩
  | true =>
    rw [ha] at SA
    by_cases hn0 : n = 0
    · subst hn0
      clear ha
      go_enter Tryd.func7, Tryd.ntmps7
      go_wp2_with (first
        | (go_at_call 8; with_reducible refine (AW.out w (powTab_below HT.out B0.out)).mono ?_; rintro e w1 ⟨rfl, hb⟩; have B1 := Lib.hid (below_next B0.out hb); have MA_1 := Lib.hid (mat_below MA_0.out hb); have DV_1 := Lib.hid (dots_below DV_0.out hb); clear hb)
        | (go_at_call 9; with_reducible refine (SA.out w1 _ MA_1.out).mono ?_; rintro e w2 ⟨rfl, e2⟩; subst e2))
      go_ret
      exact ⟨rfl, B1.out⟩
    · have t0 : ((n : Int) == 0) = false := beq_eq_false_iff_ne.2 (by omega)
      by_cases h60 : 60 < ll
      · have d0 : decide ((60 : Int) < (ll : Int)) = true := decide_eq_true (by omega)
        have d1 : decide (60 < ll) = true := decide_eq_true h60
        clear ha hn0 h60
        go_enter Tryd.func7, Tryd.ntmps7
        go_wp2_with (first
          | (go_at_call 8; with_reducible refine (AW.out w (powTab_below HT.out B0.out)).mono ?_; rintro e w1 ⟨rfl, hb⟩; have B1 := Lib.hid (below_next B0.out hb); have MA_1 := Lib.hid (mat_below MA_0.out hb); have DV_1 := Lib.hid (dots_below DV_0.out hb); clear hb)
          | (go_at_call 9; with_reducible refine (SA.out w1 _ MA_1.out).mono ?_; rintro e w2 ⟨rfl, e2⟩; subst e2))
        go_ret
        exact ⟨rfl, B1.out⟩
      · have d0 : decide ((60 : Int) < (ll : Int)) = false := decide_eq_false (by omega)
        have d1 : decide (60 < ll) = false := decide_eq_false h60
        obtain ⟨wc, k, hk, tm, te⟩ := wrap_byte c n hc (by omega)
        have hfm := small_fits ha
        have hn4 : n ≤ 1000 := by rw [HLn.out]; exact hfm.1
        have hl4 : l.length < 2000000 := by have := HLL.out; omega
        obtain ⟨p, hp⟩ : ∃ p, m[k]? = some p := ⟨_, List.getElem?_eq_getElem (by have := HLn.out; omega)⟩
        obtain ⟨hs1, hs2, hs3⟩ := raise_self l hp
        have hfr := fits_raise hfm (k : Int) l
        have RS := Lib.hid (fun w v u hv hu => matRaise_any m hfm (k : Int) l hl4 v u w hv hu)
        have RR := Lib.hid (fun w v u hv hu => matRaise_any (raiseM m (k : Int) l) hfr (k : Int) (joinV p l) (by have := joinV_ok p l; omega) v u w hv hu)
        rw [hs2] at RR
        have JN := Lib.hid (fun w v u hv hu => vecJoin_any p l (fits_at hfm hp) hl4 v u w hv hu)
        have SX := Lib.hid (fun w v u hv hu => vecSame_any (joinV p l) (joinV p l) (by have := joinV_ok p l; omega) (by have := joinV_ok p l; omega) v u w hv hu)
        rw [sameV_self] at SX
        have SR := Lib.hid (fun (x : List D2) (hx : x.length < 2000000) w v u hv hu => vecSame_any x x hx hx v u w hv hu)
        have ES := Lib.hid (fun w v u hv hu => same_self (raiseM m (k : Int) l) (fits_two hfr) v u w hv hu)
        have HRL := Lib.hid (show n = (raiseM m (k : Int) l).length by rw [raiseM_length]; exact HLn.out)
        have HFA := Lib.hid (fun i x (hx : m[i]? = some x) => fits_at hfm hx)
        have q9 : (k : Int) < (n : Int) := by omega
        obtain ⟨X, hX⟩ : ∃ X, X = joinV p l := ⟨_, rfl⟩
        obtain ⟨R, hR⟩ : ∃ R, R = raiseM m (k : Int) l := ⟨_, rfl⟩
        rw [← hX] at JN SX RR hs1
        rw [← hR] at RS RR ES HRL hs1 hs3
        have HS1 := Lib.hid hs1
        have HS3 := Lib.hid hs3
        have HP := Lib.hid hp
        clear hs1 hs2 hs3 hfr hfm hp hX hR ha hn0 h60 hl4 hk
        go_enter Tryd.func7, Tryd.ntmps7
        go_wp2_with (first
          | (go_at_call 8; with_reducible refine (AW.out w (powTab_below HT.out B0.out)).mono ?_; rintro e w1 ⟨rfl, hb⟩; have B1 := Lib.hid (below_next B0.out hb); have MA_1 := Lib.hid (mat_below MA_0.out hb); have DV_1 := Lib.hid (dots_below DV_0.out hb); clear hb)
          | (go_at_call 9; with_reducible refine (SA.out w1 _ MA_1.out).mono ?_; rintro e w2 ⟨rfl, e2⟩; subst e2)
          | (go_at_call 18; with_reducible refine (RS.out w1 _ _ MA_1.out DV_1.out).mono ?_; rintro e w2 ⟨x2, rfl, hx, hb⟩; have MR_2 := Lib.hid hx; obtain ⟨xo2, xc2, rfl⟩ := mat_shape hx n HRL.out; have MA_2 := Lib.hid (mat_below MA_1.out hb); have DV_2 := Lib.hid (dots_below DV_1.out hb); have B2 := Lib.hid (below_next B1.out hb); clear hb hx))
        obtain ⟨rd, rc', y0, e0, d0c, hd0⟩ := mat_at MR_2.out n k HRL.out.symm X HS1.out
        simp only [Value.slice.injEq] at e0
        obtain ⟨rfl, -, rfl⟩ := e0
        obtain ⟨md, mc', z0, e1, d1c, hd1⟩ := mat_at MA_2.out n k HLn.out.symm p HP.out
        simp only [Value.slice.injEq] at e1
        obtain ⟨rfl, -, rfl⟩ := e1
        obtain ⟨yo, yc, rfl⟩ := dots_shape hd0 X.length rfl
        obtain ⟨zo, zc, rfl⟩ := dots_shape hd1 p.length rfl
        have CR_2 := Lib.hid d0c
        have CM_2 := Lib.hid d1c
        have DR_2 := Lib.hid hd0
        have DM_2 := Lib.hid hd1
        clear d0c d1c hd0 hd1
        go_loopw [10] (fun c wr => ∃ i : Nat, i ≤ n ∧ c = .int .i64 (i : Int) ∧ Below w2.heap.size w2 wr) (fun c _ => n - (intOf c).toNat)
        case atStart => exact ⟨0, Nat.zero_le _, rfl, Below.refl _ _⟩
        case round =>
          obtain ⟨i, hi, rfl, hb⟩ := hrel
          have HB := Lib.hid hb
          by_cases hlt : i < n
          · have q0 : (i : Int) < (n : Int) := by omega
            have KK := Lib.hid (show i + 1 ≤ n ∧ n - (i + 1) < n - i by omega)
            by_cases hik : i = k
            · have t1 : ((i : Int) != (k : Int)) = false := by rw [hik]; simp
              clear hb hik hlt hi
              go_upto_region 11 with fail
              refine wp_region_held_drew (S := fun w' => Below wr.heap.size wr w') (by kernel_rfl) (drawS (Below.refl _ _)) (fun hHeld => ?_)
              generalize wr.drew = wd at hHeld ⊢
              refine take_at (i := 0) 47 rfl rfl (by kernel_rfl) (by kernel_rfl) (by kernel_rfl) (fun _ _ _ h => h) (sure_yes (by rfl) (fun w => by go_simp; try with_reducible rfl)) hHeld ?_
              simp only [List.setIfInBounds_toArray, List.set_cons_zero, List.set_cons_succ]
              refine take_at (i := 1) 48 rfl rfl (by kernel_rfl) (by kernel_rfl) (by kernel_rfl) (fun _ _ _ h => h) (sure_yes (by rfl) (fun w => by go_simp; try with_reducible rfl)) hHeld ?_
              simp only [List.setIfInBounds_toArray, List.set_cons_zero, List.set_cons_succ]
              refine take_at (i := 2) 49 rfl rfl (by kernel_rfl) (by kernel_rfl) (by kernel_rfl) (fun _ _ _ h => h) (sure_yes (by rfl) (fun w => by go_simp; try with_reducible rfl)) hHeld ?_
              simp only [List.setIfInBounds_toArray, List.set_cons_zero, List.set_cons_succ]
              refine take_at (i := 3) 50 rfl rfl (by kernel_rfl) (by kernel_rfl) (by kernel_rfl) (fun _ _ _ h => h) (sure_yes (by rfl) (fun w => by go_simp; try with_reducible rfl)) hHeld ?_
              simp only [List.setIfInBounds_toArray, List.set_cons_zero, List.set_cons_succ]
              refine take_at (i := 4) 51 rfl rfl (by kernel_rfl) (by kernel_rfl) (by kernel_rfl) (fun _ _ _ h => h) (.inr ⟨by rfl, rfl⟩) hHeld ?_
              simp only [List.setIfInBounds_toArray, List.set_cons_zero, List.set_cons_succ]
              refine take_at (i := 5) 52 rfl rfl (by kernel_rfl) (by kernel_rfl) (by kernel_rfl) (fun _ _ _ h => h) (.inr ⟨by rfl, rfl⟩) hHeld ?_
              simp only [List.setIfInBounds_toArray, List.set_cons_zero, List.set_cons_succ]
              refine take_at (i := 6) 53 rfl rfl (by kernel_rfl) (by kernel_rfl) (by kernel_rfl) (fun _ _ _ h => h) (.inr ⟨by rfl, rfl⟩) hHeld ?_
              simp only [List.setIfInBounds_toArray, List.set_cons_zero, List.set_cons_succ]
              refine take_at (i := 7) 54 rfl rfl (by kernel_rfl) (by kernel_rfl) (by kernel_rfl) (fun _ _ _ h => h) (.inr ⟨by rfl, rfl⟩) hHeld ?_
              simp only [List.setIfInBounds_toArray, List.set_cons_zero, List.set_cons_succ]
              refine take_at (i := 8) 55 rfl rfl (by kernel_rfl) (by kernel_rfl) (by kernel_rfl) (fun _ _ _ h => h) (.inr ⟨by rfl, rfl⟩) hHeld ?_
              simp only [List.setIfInBounds_toArray, List.set_cons_zero, List.set_cons_succ]
              refine take_at (i := 9) 56 rfl rfl (by kernel_rfl) (by kernel_rfl) (by kernel_rfl) (fun _ _ _ h => h) (.inr ⟨by rfl, rfl⟩) hHeld ?_
              simp only [List.setIfInBounds_toArray, List.set_cons_zero, List.set_cons_succ]
              refine take_at (i := 10) 57 rfl rfl (by kernel_rfl) (by kernel_rfl) (by kernel_rfl) (fun _ _ _ h => h) (.inr ⟨by rfl, rfl⟩) hHeld ?_
              simp only [List.setIfInBounds_toArray, List.set_cons_zero, List.set_cons_succ]
              refine take_at (i := 11) 58 rfl rfl (by kernel_rfl) (by kernel_rfl) (by kernel_rfl) (fun _ _ _ h => h) (.inr ⟨by rfl, rfl⟩) hHeld ?_
              simp only [List.setIfInBounds_toArray, List.set_cons_zero, List.set_cons_succ]
              refine take_at (i := 12) 59 rfl rfl (by kernel_rfl) (by kernel_rfl) (by kernel_rfl) (fun _ _ _ h => h) (.inr ⟨by rfl, rfl⟩) hHeld ?_
              simp only [List.setIfInBounds_toArray, List.set_cons_zero, List.set_cons_succ]
              refine take_at (i := 13) 60 rfl rfl (by kernel_rfl) (by kernel_rfl) (by kernel_rfl) (fun _ _ _ h => h) (.inr ⟨by rfl, rfl⟩) hHeld ?_
              simp only [List.setIfInBounds_toArray, List.set_cons_zero, List.set_cons_succ]
              refine take_at (i := 14) 61 rfl rfl (by kernel_rfl) (by kernel_rfl) (by kernel_rfl) (fun _ _ _ h => h) (sure_yes (by rfl) (fun w => by go_simp; try with_reducible rfl)) hHeld ?_
              simp only [List.setIfInBounds_toArray, List.set_cons_zero, List.set_cons_succ]
              refine wpAnyH_done (by kernel_rfl) ?_ _
              have HB9 := Lib.hid (below_next HB.out hHeld)
              clear hHeld
              go_wp2
              refine ⟨⟨i + 1, KK.out.1, by simp, HB9.out⟩, ?_⟩
              have := KK.out.2; simp [intOf] <;> omega
            · have t1 : ((i : Int) != (k : Int)) = true := bne_iff_ne.2 (by omega)
              obtain ⟨x, hx⟩ : ∃ x, m[i]? = some x := ⟨_, List.getElem?_eq_getElem (by have := HLn.out; omega)⟩
              obtain ⟨rd', rc2, y, e0, d0c, hd0⟩ := mat_at MR_2.out n i HRL.out.symm x (by rw [HS3.out i hik]; exact hx)
              simp only [Value.slice.injEq, Option.some.injEq] at e0
              obtain ⟨rfl, -, rfl⟩ := e0
              obtain ⟨md', mc2, z, e1, d1c, hd1⟩ := mat_at MA_2.out n i HLn.out.symm x hx
              simp only [Value.slice.injEq, Option.some.injEq] at e1
              obtain ⟨rfl, -, rfl⟩ := e1
              obtain ⟨yo1, yc1, rfl⟩ := dots_shape hd0 x.length rfl
              obtain ⟨zo1, zc1, rfl⟩ := dots_shape hd1 x.length rfl
              have C0 := Lib.hid (cell_under d0c hb)
              have C1 := Lib.hid (cell_under d1c hb)
              have D0 := Lib.hid (dots_below hd0 hb)
              have D1 := Lib.hid (dots_below hd1 hb)
              have SS := Lib.hid (fun w v u hv hu => SR.out x (HFA.out i x hx) w v u hv hu)
              rw [sameV_self] at SS
              clear hb hik hlt hi d0c d1c hd0 hd1 hx
              go_upto_region 11 with fail
              refine wp_region_held_drew (S := fun w' => Below wr.heap.size wr w') (by kernel_rfl) (drawS (Below.refl _ _)) (fun hHeld => ?_)
              generalize wr.drew = wd at hHeld ⊢
              refine take_at (i := 0) 47 rfl rfl (by kernel_rfl) (by kernel_rfl) (by kernel_rfl) (fun _ _ _ h => h) (sure_yes (by rfl) (fun w => by go_simp; try with_reducible rfl)) hHeld ?_
              simp only [List.setIfInBounds_toArray, List.set_cons_zero, List.set_cons_succ]
              refine take_at (i := 1) 48 rfl rfl (by kernel_rfl) (by kernel_rfl) (by kernel_rfl) (fun _ _ _ h => h) (sure_yes (by rfl) (fun w => by go_simp; try with_reducible rfl)) hHeld ?_
              simp only [List.setIfInBounds_toArray, List.set_cons_zero, List.set_cons_succ]
              refine take_at (i := 2) 49 rfl rfl (by kernel_rfl) (by kernel_rfl) (by kernel_rfl) (fun _ _ _ h => h) (sure_yes (by rfl) (fun w => by go_simp; try with_reducible rfl)) hHeld ?_
              simp only [List.setIfInBounds_toArray, List.set_cons_zero, List.set_cons_succ]
              refine take_at (i := 3) 50 rfl rfl (by kernel_rfl) (by kernel_rfl) (by kernel_rfl) (fun _ _ _ h => h) (sure_yes (by rfl) (fun w => by go_simp; try with_reducible rfl)) hHeld ?_
              simp only [List.setIfInBounds_toArray, List.set_cons_zero, List.set_cons_succ]
              refine take_at (i := 4) 51 rfl rfl (by kernel_rfl) (by kernel_rfl) (by kernel_rfl) (fun _ _ _ h => h) (sure_yes (by rfl) (fun w => by go_simp; try with_reducible rfl)) hHeld ?_
              simp only [List.setIfInBounds_toArray, List.set_cons_zero, List.set_cons_succ]
              refine take_at (i := 5) 52 rfl rfl (by kernel_rfl) (by kernel_rfl) (by kernel_rfl) (fun _ _ _ h => h) (sure_yes (by rfl) (fun w => by go_simp; try with_reducible rfl)) hHeld ?_
              simp only [List.setIfInBounds_toArray, List.set_cons_zero, List.set_cons_succ]
              refine take_at (i := 6) 53 rfl rfl (by kernel_rfl) (by kernel_rfl) (by kernel_rfl) (fun _ _ _ h => h) (sure_yes (by rfl) (fun w => by go_simp; try with_reducible rfl)) hHeld ?_
              simp only [List.setIfInBounds_toArray, List.set_cons_zero, List.set_cons_succ]
              refine take_at (i := 8) 55 rfl rfl (by kernel_rfl) (by kernel_rfl) (by kernel_rfl) (fun _ _ _ h => h) (sure_yes (by rfl) (fun w => by go_simp; try with_reducible rfl)) hHeld ?_
              simp only [List.setIfInBounds_toArray, List.set_cons_zero, List.set_cons_succ]
              refine take_at (i := 9) 56 rfl rfl (by kernel_rfl) (by kernel_rfl) (by kernel_rfl) (fun _ _ _ h => h) (sure_yes (by rfl) (fun w => by go_simp; try with_reducible rfl)) hHeld ?_
              simp only [List.setIfInBounds_toArray, List.set_cons_zero, List.set_cons_succ]
              refine take_at (i := 10) 57 rfl rfl (by kernel_rfl) (by kernel_rfl) (by kernel_rfl) (fun _ _ _ h => h) (sure_yes (by rfl) (fun w => by go_simp; try with_reducible rfl)) hHeld ?_
              simp only [List.setIfInBounds_toArray, List.set_cons_zero, List.set_cons_succ]
              refine take_at (i := 7) 54 rfl rfl (by kernel_rfl) (by kernel_rfl) (by kernel_rfl) (fun _ _ _ h => h) (slice_yields (by rfl) 37 (.tmp 53) rfl (rd.add i) rfl yo1 x.length yc1 Tryd.underlying37 (fun w h => cell_under C0.out h)) hHeld ?_
              simp only [List.setIfInBounds_toArray, List.set_cons_zero, List.set_cons_succ]
              refine take_at (i := 11) 58 rfl rfl (by kernel_rfl) (by kernel_rfl) (by kernel_rfl) (fun _ _ _ h => h) (slice_yields (by rfl) 37 (.tmp 57) rfl (md.add i) rfl zo1 x.length zc1 Tryd.underlying37 (fun w h => cell_under C1.out h)) hHeld ?_
              simp only [List.setIfInBounds_toArray, List.set_cons_zero, List.set_cons_succ]
              refine wpAnyH_ready (rs := [12]) (by kernel_rfl) (by simp) ?_
              refine AllReadyH.cons rfl (fun K hK => ?_) AllReadyH.nil
              go_simp
              go_at_call 24
              refine (SS.out _ _ _ (dots_below D0.out hHeld) (dots_below D1.out hHeld)).mono ?_
              rintro e w6 ⟨rfl, hb⟩
              dsimp only
              refine hK.out _ _ (below_next hHeld hb) (fun hHeld => ?_)
              clear hK K hb
              refine take_at (i := 13) 60 rfl rfl (by kernel_rfl) (by kernel_rfl) (by kernel_rfl) (fun _ _ _ h => h) (sure_yes (by rfl) (fun w => by go_simp; try with_reducible rfl)) hHeld ?_
              simp only [List.setIfInBounds_toArray, List.set_cons_zero, List.set_cons_succ]
              refine take_at (i := 14) 61 rfl rfl (by kernel_rfl) (by kernel_rfl) (by kernel_rfl) (fun _ _ _ h => h) (sure_yes (by rfl) (fun w => by go_simp; try with_reducible rfl)) hHeld ?_
              simp only [List.setIfInBounds_toArray, List.set_cons_zero, List.set_cons_succ]
              refine wpAnyH_done (by kernel_rfl) ?_ _
              have HB9 := Lib.hid (below_next HB.out hHeld)
              clear hHeld
              go_wp2
              refine ⟨⟨i + 1, KK.out.1, by simp, HB9.out⟩, ?_⟩
              have := KK.out.2; simp [intOf] <;> omega
          · have q0 : ¬ (i : Int) < (n : Int) := by omega
            have c3 := cell_under CR_2.out hb
            have MR_3 := Lib.hid (mat_below MR_2.out hb)
            have MA_3 := Lib.hid (mat_below MA_2.out hb)
            have DV_3 := Lib.hid (dots_below DV_2.out hb)
            have DR_3 := Lib.hid (dots_below DR_2.out hb)
            have DM_3 := Lib.hid (dots_below DM_2.out hb)
            have CR_3 := Lib.hid (cell_under CR_2.out hb)
            have CM_3 := Lib.hid (cell_under CM_2.out hb)
            have B3 := Lib.hid (below_next B2.out hb)
            clear hb hlt hi
            go_upto_region 14 with (first
              | (go_at_call 18; refine (RR.out wr _ _ MR_3.out DR_3.out).mono ?_; rintro e w4 ⟨x4, rfl, hx, hb⟩; have MX_4 := Lib.hid hx; obtain ⟨xo4, xc4, rfl⟩ := mat_shape hx n HRL.out; have MR_4 := Lib.hid (mat_below MR_3.out hb); have DV_4 := Lib.hid (dots_below DV_3.out hb); have DR_4 := Lib.hid (dots_below DR_3.out hb); have DM_4 := Lib.hid (dots_below DM_3.out hb); have CR_4 := Lib.hid (cell_under CR_3.out hb); have CM_4 := Lib.hid (cell_under CM_3.out hb); have B4 := Lib.hid (below_next B3.out hb); clear hb hx))
            clear c3
            refine wp_region_held_drew (S := fun w' => Below w4.heap.size w4 w') (by kernel_rfl) (drawS (Below.refl _ _)) (fun hHeld => ?_)
            generalize w4.drew = wd at hHeld ⊢
            refine take_at (i := 0) 69 rfl rfl (by kernel_rfl) (by kernel_rfl) (by kernel_rfl) (fun _ _ _ h => h) (sure_yes (by rfl) (fun w => by go_simp; try with_reducible rfl)) hHeld ?_
            simp only [List.setIfInBounds_toArray, List.set_cons_zero, List.set_cons_succ]
            refine take_at (i := 1) 70 rfl rfl (by kernel_rfl) (by kernel_rfl) (by kernel_rfl) (fun _ _ _ h => h) (sure_yes (by rfl) (fun w => by go_simp; try with_reducible rfl)) hHeld ?_
            simp only [List.setIfInBounds_toArray, List.set_cons_zero, List.set_cons_succ]
            refine take_at (i := 2) 71 rfl rfl (by kernel_rfl) (by kernel_rfl) (by kernel_rfl) (fun _ _ _ h => h) (sure_yes (by rfl) (fun w => by go_simp; try with_reducible rfl)) hHeld ?_
            simp only [List.setIfInBounds_toArray, List.set_cons_zero, List.set_cons_succ]
            refine take_at (i := 3) 72 rfl rfl (by kernel_rfl) (by kernel_rfl) (by kernel_rfl) (fun _ _ _ h => h) (sure_yes (by rfl) (fun w => by go_simp; try with_reducible rfl)) hHeld ?_
            simp only [List.setIfInBounds_toArray, List.set_cons_zero, List.set_cons_succ]
            refine take_at (i := 4) 73 rfl rfl (by kernel_rfl) (by kernel_rfl) (by kernel_rfl) (fun _ _ _ h => h) (sure_yes (by rfl) (fun w => by go_simp; try with_reducible rfl)) hHeld ?_
            simp only [List.setIfInBounds_toArray, List.set_cons_zero, List.set_cons_succ]
            refine take_at (i := 6) 75 rfl rfl (by kernel_rfl) (by kernel_rfl) (by kernel_rfl) (fun _ _ _ h => h) (sure_yes (by rfl) (fun w => by go_simp; try with_reducible rfl)) hHeld ?_
            simp only [List.setIfInBounds_toArray, List.set_cons_zero, List.set_cons_succ]
            refine take_at (i := 7) 76 rfl rfl (by kernel_rfl) (by kernel_rfl) (by kernel_rfl) (fun _ _ _ h => h) (sure_yes (by rfl) (fun w => by go_simp; try with_reducible rfl)) hHeld ?_
            simp only [List.setIfInBounds_toArray, List.set_cons_zero, List.set_cons_succ]
            refine take_at (i := 8) 77 rfl rfl (by kernel_rfl) (by kernel_rfl) (by kernel_rfl) (fun _ _ _ h => h) (sure_yes (by rfl) (fun w => by go_simp; try with_reducible rfl)) hHeld ?_
            simp only [List.setIfInBounds_toArray, List.set_cons_zero, List.set_cons_succ]
            refine take_at (i := 10) 79 rfl rfl (by kernel_rfl) (by kernel_rfl) (by kernel_rfl) (fun _ _ _ h => h) (sure_yes (by rfl) (fun w => by go_simp; try with_reducible rfl)) hHeld ?_
            simp only [List.setIfInBounds_toArray, List.set_cons_zero, List.set_cons_succ]
            refine take_at (i := 5) 74 rfl rfl (by kernel_rfl) (by kernel_rfl) (by kernel_rfl) (fun _ _ _ h => h) (slice_yields (by rfl) 37 (.tmp 73) rfl (rd.add k) rfl yo X.length yc Tryd.underlying37 (fun w h => cell_under CR_4.out h)) hHeld ?_
            simp only [List.setIfInBounds_toArray, List.set_cons_zero, List.set_cons_succ]
            refine take_at (i := 9) 78 rfl rfl (by kernel_rfl) (by kernel_rfl) (by kernel_rfl) (fun _ _ _ h => h) (slice_yields (by rfl) 37 (.tmp 77) rfl (md.add k) rfl zo p.length zc Tryd.underlying37 (fun w h => cell_under CM_4.out h)) hHeld ?_
            simp only [List.setIfInBounds_toArray, List.set_cons_zero, List.set_cons_succ]
            refine wpAnyH_ready (rs := [11]) (by kernel_rfl) (by simp) ?_
            refine AllReadyH.cons rfl (fun K hK => ?_) AllReadyH.nil
            go_simp
            go_at_call 25
            refine (JN.out _ _ _ (dots_below DM_4.out hHeld) (dots_below DV_4.out hHeld)).mono ?_
            rintro e w5 ⟨xXJ, rfl, hxXJ, hb⟩
            have XJ := Lib.hid hxXJ
            obtain ⟨xoXJ, xcXJ, rfl⟩ := dots_shape hxXJ _ rfl
            clear hxXJ
            dsimp only
            refine hK.out _ _ (below_next hHeld hb) (fun hHeld => ?_)
            clear hK K hb
            refine wpAnyH_ready (rs := [12]) (by kernel_rfl) (by simp) ?_
            refine AllReadyH.cons rfl (fun K hK => ?_) AllReadyH.nil
            go_simp
            go_at_call 24
            refine (SX.out _ _ _ (dots_below DR_4.out hHeld) XJ.out).mono ?_
            rintro e w6 ⟨rfl, hb⟩
            dsimp only
            refine hK.out _ _ (below_next hHeld hb) (fun hHeld => ?_)
            clear hK K hb
            refine take_at (i := 13) 82 rfl rfl (by kernel_rfl) (by kernel_rfl) (by kernel_rfl) (fun _ _ _ h => h) (sure_yes (by rfl) (fun w => by go_simp; try with_reducible rfl)) hHeld ?_
            simp only [List.setIfInBounds_toArray, List.set_cons_zero, List.set_cons_succ]
            refine take_at (i := 14) 83 rfl rfl (by kernel_rfl) (by kernel_rfl) (by kernel_rfl) (fun _ _ _ h => h) (sure_yes (by rfl) (fun w => by go_simp; try with_reducible rfl)) hHeld ?_
            simp only [List.setIfInBounds_toArray, List.set_cons_zero, List.set_cons_succ]
            refine take_at (i := 15) 84 rfl rfl (by kernel_rfl) (by kernel_rfl) (by kernel_rfl) (fun _ _ _ h => h) (sure_yes (by rfl) (fun w => by go_simp; try with_reducible rfl)) hHeld ?_
            simp only [List.setIfInBounds_toArray, List.set_cons_zero, List.set_cons_succ]
            refine take_at (i := 16) 85 rfl rfl (by kernel_rfl) (by kernel_rfl) (by kernel_rfl) (fun _ _ _ h => h) (sure_yes (by rfl) (fun w => by go_simp; try with_reducible rfl)) hHeld ?_
            simp only [List.setIfInBounds_toArray, List.set_cons_zero, List.set_cons_succ]
            refine wpAnyH_ready (rs := [17]) (by kernel_rfl) (by simp) ?_
            refine AllReadyH.cons rfl (fun K hK => ?_) AllReadyH.nil
            go_simp
            go_at_call 12
            refine (ES.out _ _ _ (mat_below MX_4.out hHeld) (mat_below MR_4.out hHeld)).mono ?_
            rintro e w7 ⟨rfl, hb⟩
            dsimp only
            refine hK.out _ _ (below_next hHeld hb) (fun hHeld => ?_)
            clear hK K hb
            refine take_at (i := 18) 87 rfl rfl (by kernel_rfl) (by kernel_rfl) (by kernel_rfl) (fun _ _ _ h => h) (sure_yes (by rfl) (fun w => by go_simp; try with_reducible rfl)) hHeld ?_
            simp only [List.setIfInBounds_toArray, List.set_cons_zero, List.set_cons_succ]
            refine take_at (i := 19) 6 rfl rfl (by kernel_rfl) (by kernel_rfl) (by kernel_rfl) (fun _ _ _ h => h) (sure_yes (by rfl) (fun w => by go_simp; try with_reducible rfl)) hHeld ?_
            simp only [List.setIfInBounds_toArray, List.set_cons_zero, List.set_cons_succ]
            refine wpAnyH_done (by kernel_rfl) ?_ _
            have HB9 := Lib.hid (below_next B4.out hHeld)
            clear hHeld
            go_wp2
            go_ret
            exact ⟨rfl, HB9.out⟩
end Go.Proofs.YtcnjgdnokiindaaDoor
