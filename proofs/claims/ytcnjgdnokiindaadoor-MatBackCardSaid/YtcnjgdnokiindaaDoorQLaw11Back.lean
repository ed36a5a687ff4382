/-
The walk of the statement that a matrix is parsed as it was, and that what is parsed may be and has the very text.
-/
import Derived.Test.YtcnjgdnokiindaaDoorPk6
namespace Go.Proofs.YtcnjgdnokiindaaDoor
open Go.RowKit
theorem wrap_small (c : Nat) (h : c < 256) : wrap64 (c : Int) = (c : Int) := by rw [wrap64]; omega
set_option maxRecDepth 100000 in
set_option maxHeartbeats 32000000 in
theorem matBack_walk (m : M2) (s : List UInt8) (hs : s.length < 1152921504606846976) (c : Nat) (hc : c < 256) (v : Value) (w : World) (hv : HasMat w v m) (hT : PowTab w) :
    Calls Tryd.prog 6 #[v, .string (str s), .int .u8 (c : Int)] w fun e w' => e = .returned (.bool true) ∧ Below w.heap.size w w' := by
  have HT := Lib.hid hT
  have AW := Lib.hid (fun w hT => awake11_any w hT)
  have B0 := Lib.hid (Below.refl w.heap.size w)
  have SA := Lib.hid (fun w v hv => small_any m v w hv)
  have wc : wrap64 (c : Int) = (c : Int) := wrap_small c hc
  clear hT
  have MA_0 := Lib.hid hv
  obtain ⟨ao, ac, rfl⟩ := mat_shape hv m.length rfl
  obtain ⟨n, hn⟩ : ∃ n, n = m.length := ⟨_, rfl⟩
  have HLn := Lib.hid hn
  rw [← hn] at MA_0 ⊢
  clear hv hn
  cases ha : smallM m with
  | false =>
    rw [ha] at SA
    clear ha hs
    go_enter Tryd.func6, Tryd.ntmps6
    go_wp2_with (first
      | (go_at_call 8; with_reducible refine (AW.out w (powTab_below HT.out B0.out)).mono ?_; rintro e w1 ⟨rfl, hb⟩; have B1 := Lib.hid (below_next B0.out hb); have MA_1 := Lib.hid (mat_below MA_0.out hb); clear hb)
      | (go_at_call 9; with_reducible refine (SA.out w1 _ MA_1.out).mono ?_; rintro e w2 ⟨rfl, e2⟩; subst e2))
    go_ret
    exact ⟨rfl, B1.out⟩
  | true =>
    rw [ha] at SA
    have MY := Lib.hid (fun w v hv => matMay_any m (small_fits ha) (n : Int) v w hv)
    cases h0 : mayM m (n : Int) with
    | true =>
      rw [h0] at MY
      have hp := parse_textM (m := m) (by rw [← HLn.out]; exact h0)
      rw [← HLn.out] at hp
      have PM := Lib.hid (fun w => matParse_any (textM m) (by rw [← rowTs_all]; have h1 := rowTs_len m m.length (Nat.le_refl _); have h2 := (small_fits ha).1; omega) (n : Int) w)
      rw [hp.1, hp.2] at PM
      have TM := Lib.hid (fun w v hv hT => matText_any m (small_fits ha) v w hv hT)
      have ES := Lib.hid (fun w v u hv hu => same_self m (fits_two (small_fits ha)) v u w hv hu)
      obtain ⟨T, hTT⟩ : ∃ T, T = textM m := ⟨_, rfl⟩
      rw [← hTT] at PM TM
      clear hp hTT
      rcases parMErr_cases s (c : Int) with ⟨h1, h2⟩ | ⟨h1, h2, h3⟩
      · have hy := text_parseM h2
        have PS := Lib.hid (fun w => matParse_any s hs (c : Int) w)
        have MC := Lib.hid (fun w v hv => matMay_any (parM s (c : Int)) (parM_fits s _ (by omega)) (c : Int) v w hv)
        have TS := Lib.hid (fun w v hv hT => matText_any (parM s (c : Int)) (parM_fits s _ (by omega)) v w hv hT)
        rw [h1] at PS
        rw [hy.1] at MC
        rw [hy.2] at TS
        obtain ⟨Y, hY⟩ : ∃ Y, Y = parM s (c : Int) := ⟨_, rfl⟩
        rw [← hY] at PS MC TS
        have s4 : (str s).toList = s := str_toList s
        clear h0 h1 h2 hy hY ha hs
        go_enter Tryd.func6, Tryd.ntmps6
        go_wp2_with (first
          | (go_at_call 8; with_reducible refine (AW.out w (powTab_below HT.out B0.out)).mono ?_; rintro e w1 ⟨rfl, hb⟩; have B1 := Lib.hid (below_next B0.out hb); have MA_1 := Lib.hid (mat_below MA_0.out hb); clear hb)
          | (go_at_call 9; with_reducible refine (SA.out w1 _ MA_1.out).mono ?_; rintro e w2 ⟨rfl, e2⟩; subst e2)
          | (go_at_call 19; with_reducible refine (MY.out w1 _ MA_1.out).mono ?_; rintro e w2 ⟨rfl, hb⟩; have MA_2 := Lib.hid (mat_below MA_1.out hb); have B2 := Lib.hid (below_next B1.out hb); clear hb)
          | (go_at_call 15; with_reducible refine (TM.out w2 _ MA_2.out (powTab_below HT.out B2.out)).mono ?_; rintro e w3 ⟨rfl, hb⟩; have MA_3 := Lib.hid (mat_below MA_2.out hb); have B3 := Lib.hid (below_next B2.out hb); clear hb)
          | (go_at_call 10; with_reducible refine (PM.out w3).mono ?_; rintro e w4 ⟨x4, rfl, hx, hb⟩; have MX_4 := Lib.hid hx; obtain ⟨xo4, xc4, rfl⟩ := mat_shape hx _ rfl; have MA_4 := Lib.hid (mat_below MA_3.out hb); have B4 := Lib.hid (below_next B3.out hb); clear hb hx)
          | (go_at_call 12; with_reducible refine (ES.out w4 _ _ MX_4.out MA_4.out).mono ?_; rintro e w5 ⟨rfl, hb⟩; have B5 := Lib.hid (below_next B4.out hb); clear hb)
          | (go_at_call 10; with_reducible refine (PS.out w5).mono ?_; rintro e w6 ⟨x6, rfl, hx, hb⟩; have MYY_6 := Lib.hid hx; obtain ⟨xo6, xc6, rfl⟩ := mat_shape hx _ rfl; have B6 := Lib.hid (below_next B5.out hb); clear hb hx)
          | (go_at_call 19; with_reducible refine (MC.out w6 _ MYY_6.out).mono ?_; rintro e w7 ⟨rfl, hb⟩; have MYY_7 := Lib.hid (mat_below MYY_6.out hb); have B7 := Lib.hid (below_next B6.out hb); clear hb)
          | (go_at_call 15; with_reducible refine (TS.out w7 _ MYY_7.out (powTab_below HT.out B7.out)).mono ?_; rintro e w8 ⟨rfl, hb⟩; have B8 := Lib.hid (below_next B7.out hb); clear hb))
        go_ret
        exact ⟨rfl, B8.out⟩
      · have PS := Lib.hid (fun w => matParse_any s hs (c : Int) w)
        rw [h1, h3] at PS
        clear h0 h1 h2 h3 ha hs
        go_enter Tryd.func6, Tryd.ntmps6
        go_wp2_with (first
          | (go_at_call 8; with_reducible refine (AW.out w (powTab_below HT.out B0.out)).mono ?_; rintro e w1 ⟨rfl, hb⟩; have B1 := Lib.hid (below_next B0.out hb); have MA_1 := Lib.hid (mat_below MA_0.out hb); clear hb)
          | (go_at_call 9; with_reducible refine (SA.out w1 _ MA_1.out).mono ?_; rintro e w2 ⟨rfl, e2⟩; subst e2)
          | (go_at_call 19; with_reducible refine (MY.out w1 _ MA_1.out).mono ?_; rintro e w2 ⟨rfl, hb⟩; have MA_2 := Lib.hid (mat_below MA_1.out hb); have B2 := Lib.hid (below_next B1.out hb); clear hb)
          | (go_at_call 15; with_reducible refine (TM.out w2 _ MA_2.out (powTab_below HT.out B2.out)).mono ?_; rintro e w3 ⟨rfl, hb⟩; have MA_3 := Lib.hid (mat_below MA_2.out hb); have B3 := Lib.hid (below_next B2.out hb); clear hb)
          | (go_at_call 10; with_reducible refine (PM.out w3).mono ?_; rintro e w4 ⟨x4, rfl, hx, hb⟩; have MX_4 := Lib.hid hx; obtain ⟨xo4, xc4, rfl⟩ := mat_shape hx _ rfl; have MA_4 := Lib.hid (mat_below MA_3.out hb); have B4 := Lib.hid (below_next B3.out hb); clear hb hx)
          | (go_at_call 12; with_reducible refine (ES.out w4 _ _ MX_4.out MA_4.out).mono ?_; rintro e w5 ⟨rfl, hb⟩; have B5 := Lib.hid (below_next B4.out hb); clear hb)
          | (go_at_call 10; with_reducible refine (PS.out w5).mono ?_; rintro e w6 ⟨x6, rfl, hx, hb⟩; have MYY_6 := Lib.hid hx; obtain ⟨xo6, xc6, rfl⟩ := mat_shape hx 0 rfl; have B6 := Lib.hid (below_next B5.out hb); clear hb hx))
        go_ret
        exact ⟨rfl, B6.out⟩
    | false =>
      rw [h0] at MY
      rcases parMErr_cases s (c : Int) with ⟨h1, h2⟩ | ⟨h1, h2, h3⟩
      · have hy := text_parseM h2
        have PS := Lib.hid (fun w => matParse_any s hs (c : Int) w)
        have MC := Lib.hid (fun w v hv => matMay_any (parM s (c : Int)) (parM_fits s _ (by omega)) (c : Int) v w hv)
        have TS := Lib.hid (fun w v hv hT => matText_any (parM s (c : Int)) (parM_fits s _ (by omega)) v w hv hT)
        rw [h1] at PS
        rw [hy.1] at MC
        rw [hy.2] at TS
        obtain ⟨Y, hY⟩ : ∃ Y, Y = parM s (c : Int) := ⟨_, rfl⟩
        rw [← hY] at PS MC TS
        have s4 : (str s).toList = s := str_toList s
        clear h0 h1 h2 hy hY ha hs
        go_enter Tryd.func6, Tryd.ntmps6
        go_wp2_with (first
          | (go_at_call 8; with_reducible refine (AW.out w (powTab_below HT.out B0.out)).mono ?_; rintro e w1 ⟨rfl, hb⟩; have B1 := Lib.hid (below_next B0.out hb); have MA_1 := Lib.hid (mat_below MA_0.out hb); clear hb)
          | (go_at_call 9; with_reducible refine (SA.out w1 _ MA_1.out).mono ?_; rintro e w2 ⟨rfl, e2⟩; subst e2)
          | (go_at_call 19; with_reducible refine (MY.out w1 _ MA_1.out).mono ?_; rintro e w2 ⟨rfl, hb⟩; have MA_2 := Lib.hid (mat_below MA_1.out hb); have B2 := Lib.hid (below_next B1.out hb); clear hb)
          | (go_at_call 10; with_reducible refine (PS.out w2).mono ?_; rintro e w3 ⟨x3, rfl, hx, hb⟩; have MYY_3 := Lib.hid hx; obtain ⟨xo3, xc3, rfl⟩ := mat_shape hx _ rfl; have B3 := Lib.hid (below_next B2.out hb); clear hb hx)
          | (go_at_call 19; with_reducible refine (MC.out w3 _ MYY_3.out).mono ?_; rintro e w4 ⟨rfl, hb⟩; have MYY_4 := Lib.hid (mat_below MYY_3.out hb); have B4 := Lib.hid (below_next B3.out hb); clear hb)
          | (go_at_call 15; with_reducible refine (TS.out w4 _ MYY_4.out (powTab_below HT.out B4.out)).mono ?_; rintro e w5 ⟨rfl, hb⟩; have B5 := Lib.hid (below_next B4.out hb); clear hb))
        go_ret
        exact ⟨rfl, B5.out⟩
      · have PS := Lib.hid (fun w => matParse_any s hs (c : Int) w)
        rw [h1, h3] at PS
        clear h0 h1 h2 h3 ha hs
        go_enter Tryd.func6, Tryd.ntmps6
        go_wp2_with (first
          | (go_at_call 8; with_reducible refine (AW.out w (powTab_below HT.out B0.out)).mono ?_; rintro e w1 ⟨rfl, hb⟩; have B1 := Lib.hid (below_next B0.out hb); have MA_1 := Lib.hid (mat_below MA_0.out hb); clear hb)
          | (go_at_call 9; with_reducible refine (SA.out w1 _ MA_1.out).mono ?_; rintro e w2 ⟨rfl, e2⟩; subst e2)
          | (go_at_call 19; with_reducible refine (MY.out w1 _ MA_1.out).mono ?_; rintro e w2 ⟨rfl, hb⟩; have MA_2 := Lib.hid (mat_below MA_1.out hb); have B2 := Lib.hid (below_next B1.out hb); clear hb)
          | (go_at_call 10; with_reducible refine (PS.out w2).mono ?_; rintro e w3 ⟨x3, rfl, hx, hb⟩; have MYY_3 := Lib.hid hx; obtain ⟨xo3, xc3, rfl⟩ := mat_shape hx 0 rfl; have B3 := Lib.hid (below_next B2.out hb); clear hb hx))
        go_ret
        exact ⟨rfl, B3.out⟩
end Go.Proofs.YtcnjgdnokiindaaDoor
