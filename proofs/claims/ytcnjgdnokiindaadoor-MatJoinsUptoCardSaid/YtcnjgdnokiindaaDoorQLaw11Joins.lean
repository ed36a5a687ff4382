/-
The walk of the statement on any two matrices joined, any one's text, and any text's matrix.
-/
import Derived.Test.YtcnjgdnokiindaaDoorPk6
namespace Go.Proofs.YtcnjgdnokiindaaDoor
open Go.RowKit
set_option maxRecDepth 100000 in
set_option maxHeartbeats 32000000 in
theorem matJoins_walk (a b : M2) (s : List UInt8) (hs : s.length < 1048576) (v u : Value) (w : World) (hv : HasMat w v a) (hu : HasMat w u b) (hT : PowTab w) :
    Calls Tryd.prog 3 #[v, u, .string (str s)] w fun e w' => e = .returned (.bool true) ∧ Below w.heap.size w w' := by
  have HT := Lib.hid hT
  have AW := Lib.hid (fun w hT => awake11_any w hT)
  have B0 := Lib.hid (Below.refl w.heap.size w)
  have SA := Lib.hid (fun w v hv => small_any a v w hv)
  have SB := Lib.hid (fun w v hv => small_any b v w hv)
  clear hT
  have MA_0 := Lib.hid hv
  obtain ⟨ao, ac, rfl⟩ := mat_shape hv a.length rfl
  obtain ⟨n, hn⟩ : ∃ n, n = a.length := ⟨_, rfl⟩
  have HLn := Lib.hid hn
  rw [← hn] at MA_0 ⊢
  clear hv hn
  have MB_0 := Lib.hid hu
  obtain ⟨bo, bc, rfl⟩ := mat_shape hu b.length rfl
  obtain ⟨m, hm⟩ : ∃ m, m = b.length := ⟨_, rfl⟩
  have HLm := Lib.hid hm
  rw [← hm] at MB_0 ⊢
  clear hu hm
  cases ha : smallM a with
  | false =>
    rw [ha] at SA
    clear ha hs
    go_enter Tryd.func3, Tryd.ntmps3
    go_wp2_with (first
      | (go_at_call 8; with_reducible refine (AW.out w (powTab_below HT.out B0.out)).mono ?_; rintro e w1 ⟨rfl, hb⟩; have B1 := Lib.hid (below_next B0.out hb); have MA_1 := Lib.hid (mat_below MA_0.out hb); have MB_1 := Lib.hid (mat_below MB_0.out hb); clear hb)
      | (go_at_call 9; with_reducible refine (SA.out w1 _ MA_1.out).mono ?_; rintro e w2 ⟨rfl, e2⟩; subst e2))
    go_ret
    exact ⟨rfl, B1.out⟩
  | true =>
    rw [ha] at SA
    cases hb : smallM b with
    | false =>
      rw [hb] at SB
      clear ha hb hs
      go_enter Tryd.func3, Tryd.ntmps3
      go_wp2_with (first
        | (go_at_call 8; with_reducible refine (AW.out w (powTab_below HT.out B0.out)).mono ?_; rintro e w1 ⟨rfl, hb⟩; have B1 := Lib.hid (below_next B0.out hb); have MA_1 := Lib.hid (mat_below MA_0.out hb); have MB_1 := Lib.hid (mat_below MB_0.out hb); clear hb)
        | (go_at_call 9; with_reducible refine (SA.out w1 _ MA_1.out).mono ?_; rintro e w2 ⟨rfl, e2⟩; subst e2)
        | (go_at_call 9; with_reducible refine (SB.out w1 _ MB_1.out).mono ?_; rintro e w2 ⟨rfl, e2⟩; subst e2))
      go_ret
      exact ⟨rfl, B1.out⟩
    | true =>
      rw [hb] at SB
      have PM := Lib.hid (fun w => matParse_any s (by omega) (n : Int) w)
      have PR := Lib.hid (fun w => refParse_any11 s hs (n : Int) w)
      have JM := Lib.hid (fun w v u hv hu => matJoin_any a b (small_fits ha) (small_fits hb) v u w hv hu)
      have JR := Lib.hid (fun w v u hv hu => refJoin_any11 a b (small_fits ha) (small_fits hb) v u w hv hu)
      have ES := Lib.hid (fun w v u hv hu => same_self (joinM a b) (fits_two (fits_join (small_fits ha) (small_fits hb))) v u w hv hu)
      have EP := Lib.hid (fun w v u hv hu => same_self (parM s (n : Int)) (parM_two s _ hs) v u w hv hu)
      have TM := Lib.hid (fun w v hv hT => matText_any a (small_fits ha) v w hv hT)
      have TR := Lib.hid (fun w v hv => refText_any11 a (small_fits ha) v w hv)
      obtain ⟨J, hJ⟩ : ∃ J, J = joinM a b := ⟨_, rfl⟩
      obtain ⟨X, hX⟩ : ∃ X, X = parM s (n : Int) := ⟨_, rfl⟩
      obtain ⟨E, hE⟩ : ∃ E, E = parMErr s (n : Int) := ⟨_, rfl⟩
      obtain ⟨T, hTT⟩ : ∃ T, T = textM a := ⟨_, rfl⟩
      rw [← hJ] at JM JR ES
      rw [← hX] at PM PR EP
      rw [← hE] at PM PR
      rw [← hTT] at TM TR
      have s4 : (str T).toList = T := str_toList T
      clear ha hb hs hJ hX hE hTT
      go_enter Tryd.func3, Tryd.ntmps3
      go_wp2_with (first
        | (go_at_call 8; with_reducible refine (AW.out w (powTab_below HT.out B0.out)).mono ?_; rintro e w1 ⟨rfl, hb⟩; have B1 := Lib.hid (below_next B0.out hb); have MA_1 := Lib.hid (mat_below MA_0.out hb); have MB_1 := Lib.hid (mat_below MB_0.out hb); clear hb)
        | (go_at_call 9; with_reducible refine (SA.out w1 _ MA_1.out).mono ?_; rintro e w2 ⟨rfl, e2⟩; subst e2)
        | (go_at_call 9; with_reducible refine (SB.out w1 _ MB_1.out).mono ?_; rintro e w2 ⟨rfl, e2⟩; subst e2)
        | (go_at_call 10; with_reducible refine (PM.out w1).mono ?_; rintro e w2 ⟨x2, rfl, hx, hb⟩; have MX_2 := Lib.hid hx; obtain ⟨xo2, xc2, rfl⟩ := mat_shape hx _ rfl; have MA_2 := Lib.hid (mat_below MA_1.out hb); have MB_2 := Lib.hid (mat_below MB_1.out hb); have B2 := Lib.hid (below_next B1.out hb); clear hb hx)
        | (go_at_call 11; with_reducible refine (PR.out w2).mono ?_; rintro e w3 ⟨x3, rfl, hx, hb⟩; have MY_3 := Lib.hid hx; obtain ⟨xo3, xc3, rfl⟩ := mat_shape hx _ rfl; have MA_3 := Lib.hid (mat_below MA_2.out hb); have MB_3 := Lib.hid (mat_below MB_2.out hb); have MX_3 := Lib.hid (mat_below MX_2.out hb); have B3 := Lib.hid (below_next B2.out hb); clear hb hx)
        | (go_at_call 13; with_reducible refine (JM.out w3 _ _ MA_3.out MB_3.out).mono ?_; rintro e w4 ⟨x4, rfl, hx, hb⟩; have MJ_4 := Lib.hid hx; obtain ⟨xo4, xc4, rfl⟩ := mat_shape hx _ rfl; have MA_4 := Lib.hid (mat_below MA_3.out hb); have MB_4 := Lib.hid (mat_below MB_3.out hb); have MX_4 := Lib.hid (mat_below MX_3.out hb); have MY_4 := Lib.hid (mat_below MY_3.out hb); have B4 := Lib.hid (below_next B3.out hb); clear hb hx)
        | (go_at_call 14; with_reducible refine (JR.out w4 _ _ MA_4.out MB_4.out).mono ?_; rintro e w5 ⟨x5, rfl, hx, hb⟩; have MK_5 := Lib.hid hx; obtain ⟨xo5, xc5, rfl⟩ := mat_shape hx _ rfl; have MA_5 := Lib.hid (mat_below MA_4.out hb); have MX_5 := Lib.hid (mat_below MX_4.out hb); have MY_5 := Lib.hid (mat_below MY_4.out hb); have MJ_5 := Lib.hid (mat_below MJ_4.out hb); have B5 := Lib.hid (below_next B4.out hb); clear hb hx)
        | (go_at_call 12; with_reducible refine (ES.out w5 _ _ MJ_5.out MK_5.out).mono ?_; rintro e w6 ⟨rfl, hb⟩; have MA_6 := Lib.hid (mat_below MA_5.out hb); have MX_6 := Lib.hid (mat_below MX_5.out hb); have MY_6 := Lib.hid (mat_below MY_5.out hb); have B6 := Lib.hid (below_next B5.out hb); clear hb)
        | (go_at_call 15; with_reducible refine (TM.out w6 _ MA_6.out (powTab_below HT.out B6.out)).mono ?_; rintro e w7 ⟨rfl, hb⟩; have MA_7 := Lib.hid (mat_below MA_6.out hb); have MX_7 := Lib.hid (mat_below MX_6.out hb); have MY_7 := Lib.hid (mat_below MY_6.out hb); have B7 := Lib.hid (below_next B6.out hb); clear hb)
        | (go_at_call 16; with_reducible refine (TR.out w7 _ MA_7.out).mono ?_; rintro e w8 ⟨rfl, hb⟩; have MX_8 := Lib.hid (mat_below MX_7.out hb); have MY_8 := Lib.hid (mat_below MY_7.out hb); have B8 := Lib.hid (below_next B7.out hb); clear hb)
        | (go_at_call 12; with_reducible refine (EP.out w8 _ _ MX_8.out MY_8.out).mono ?_; rintro e w9 ⟨rfl, hb⟩; have B9 := Lib.hid (below_next B8.out hb); clear hb))
      go_ret
      exact ⟨rfl, B9.out⟩
end Go.Proofs.YtcnjgdnokiindaaDoor
