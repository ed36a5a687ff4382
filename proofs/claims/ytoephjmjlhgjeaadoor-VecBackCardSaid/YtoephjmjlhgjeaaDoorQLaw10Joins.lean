/-
The walk of the statement on joins and meets, on texts, and on what texts tell.
-/
import Derived.Test.YtoephjmjlhgjeaaDoorQLaw10Knows
import Derived.Test.YtoephjmjlhgjeaaDoorPk5
namespace Go.Proofs.YtoephjmjlhgjeaaDoor
open Go.RowKit
theorem parV_len (s : List UInt8) : (parV s).length < 2000000 := by
  rcases parVErr_cases s with ⟨-, h⟩ | ⟨-, -, h⟩
  · have := rising_length (text_parseV h).1; omega
  · rw [h]; decide
set_option maxRecDepth 100000 in
set_option maxHeartbeats 32000000 in
theorem vecJoins_walk (a b : List D2) (s : List UInt8) (hs : s.length < 1048576) (v u : Value) (w : World) (hv : HasDots w v a) (hu : HasDots w u b) (hT : PowTab w) :
    Calls Tryd.prog 4 #[v, u, .string (str s)] w fun e w' => e = .returned (.bool true) ∧ Below w.heap.size w w' := by
  have HT := Lib.hid hT
  have AW := Lib.hid (fun w hT => awake10_any w hT)
  have PS := Lib.hid (fun w => vecParse_any s (Nat.lt_trans hs (by decide)) w)
  have RS := Lib.hid (fun w => refParse_any10 s hs w)
  have LP := Lib.hid (show (parV s).length < 2000000 from parV_len s)
  clear hT hs
  have Hv := Lib.hid hv
  obtain ⟨vo, vc, rfl⟩ := dots_shape hv a.length rfl
  obtain ⟨n, hn⟩ : ∃ n, n = a.length := ⟨_, rfl⟩
  have HLa := Lib.hid hn
  rw [← hn] at Hv ⊢
  have Hu := Lib.hid hu
  obtain ⟨uo, uc, rfl⟩ := dots_shape hu b.length rfl
  obtain ⟨m, hm⟩ : ∃ m, m = b.length := ⟨_, rfl⟩
  have HLb := Lib.hid hm
  rw [← hm] at Hu ⊢
  clear hv hn hu hm
  by_cases h1 : n > 300
  · have q1 : (n : Int) > 300 := by omega
    clear h1
    go_enter Tryd.func4, Tryd.ntmps4
    go_wp2_with (first | (go_at_call 9; with_reducible refine (AW.out w HT.out).mono ?_; rintro e w1 ⟨rfl, hb⟩; have B1 := Lib.hid hb; clear hb))
    go_ret
    exact ⟨rfl, B1.out⟩
  by_cases h2 : m > 300
  · have q1 : ¬ (n : Int) > 300 := by omega
    have q2 : (m : Int) > 300 := by omega
    clear h1 h2
    go_enter Tryd.func4, Tryd.ntmps4
    go_wp2_with (first | (go_at_call 9; with_reducible refine (AW.out w HT.out).mono ?_; rintro e w1 ⟨rfl, hb⟩; have B1 := Lib.hid hb; clear hb))
    go_ret
    exact ⟨rfl, B1.out⟩
  have q1 : ¬ (n : Int) > 300 := by omega
  have q2 : ¬ (m : Int) > 300 := by omega
  have la : a.length < 2000000 := by have := HLa.out; omega
  have lb : b.length < 2000000 := by have := HLb.out; omega
  have J1 := Lib.hid (fun w hv hu => vecJoin_any a b la lb (.slice vo n vc) (.slice uo m uc) w hv hu)
  have J2 := Lib.hid (fun w hv hu => refJoin_any10 a b la lb (.slice vo n vc) (.slice uo m uc) w hv hu)
  have M1 := Lib.hid (fun w hv hu => vecMeet_any a b la lb (.slice vo n vc) (.slice uo m uc) w hv hu)
  have M2 := Lib.hid (fun w hv hu => refMeet_any10 a b la lb (.slice vo n vc) (.slice uo m uc) w hv hu)
  have L1 := Lib.hid (fun w hv hu => vecLeq_any a b la lb (.slice vo n vc) (.slice uo m uc) w hv hu)
  have L2 := Lib.hid (fun w hv hu => refLeq_any10 a b la lb (.slice vo n vc) (.slice uo m uc) w hv hu)
  have T1 := Lib.hid (fun w hv hT => vecText_any a la (.slice vo n vc) w hv hT)
  have T2 := Lib.hid (fun w hv => refText_any10 a la (.slice vo n vc) w hv)
  have EJ := Lib.hid (fun w v u hv hu => equal_self (joinV a b) (by have := rising_length (mayV_join a b); omega) v u w hv hu)
  have EM := Lib.hid (fun w v u hv hu => equal_self (meetV a b) (by have := rising_length (mayV_meet a b); omega) v u w hv hu)
  have EP := Lib.hid (fun w v u hv hu => equal_self (parV s) LP.out v u w hv hu)
  have s4 : (str (textV a)).toList = textV a := str_toList _
  generalize joinV a b = b1 at *
  generalize meetV a b = b2 at *
  generalize leqV a b = b3 at *
  generalize textV a = b4 at *
  generalize parV s = b5 at *
  generalize parVErr s = b6 at *
  clear h1 h2 la lb
  go_enter Tryd.func4, Tryd.ntmps4
  go_wp2_with (first
    | (go_at_call 9; with_reducible refine (AW.out w HT.out).mono ?_; rintro e w1 ⟨rfl, hb⟩; have B1 := Lib.hid hb; clear hb)
    | (go_at_call 21; with_reducible refine (PS.out w1).mono ?_; rintro e w2 ⟨x2, rfl, hx, hb⟩; have X_2 := Lib.hid hx; obtain ⟨xo2, xc2, rfl⟩ := dots_shape hx _ rfl; have B2 := Lib.hid (below_next B1.out hb); clear hb hx)
    | (go_at_call 22; with_reducible refine (RS.out w2).mono ?_; rintro e w3 ⟨x3, rfl, hx, hb⟩; have Y_3 := Lib.hid hx; obtain ⟨xo3, xc3, rfl⟩ := dots_shape hx _ rfl; have X_3 := Lib.hid (dots_below X_2.out hb); have B3 := Lib.hid (below_next B2.out hb); clear hb hx)
    | (go_at_call 23; with_reducible refine (J1.out w3 (dots_below Hv.out B3.out) (dots_below Hu.out B3.out)).mono ?_; rintro e w4 ⟨x4, rfl, hx, hb⟩; have P_4 := Lib.hid hx; obtain ⟨xo4, xc4, rfl⟩ := dots_shape hx _ rfl; have X_4 := Lib.hid (dots_below X_3.out hb); have Y_4 := Lib.hid (dots_below Y_3.out hb); have B4 := Lib.hid (below_next B3.out hb); clear hb hx)
    | (go_at_call 24; with_reducible refine (J2.out w4 (dots_below Hv.out B4.out) (dots_below Hu.out B4.out)).mono ?_; rintro e w5 ⟨x5, rfl, hx, hb⟩; have Q_5 := Lib.hid hx; obtain ⟨xo5, xc5, rfl⟩ := dots_shape hx _ rfl; have X_5 := Lib.hid (dots_below X_4.out hb); have Y_5 := Lib.hid (dots_below Y_4.out hb); have P_5 := Lib.hid (dots_below P_4.out hb); have B5 := Lib.hid (below_next B4.out hb); clear hb hx)
    | (go_at_call 18; with_reducible refine (EJ.out w5 _ _ P_5.out Q_5.out).mono ?_; rintro e w6 ⟨rfl, hb⟩; have X_6 := Lib.hid (dots_below X_5.out hb); have Y_6 := Lib.hid (dots_below Y_5.out hb); have B6 := Lib.hid (below_next B5.out hb); clear hb)
    | (go_at_call 25; with_reducible refine (M1.out w6 (dots_below Hv.out B6.out) (dots_below Hu.out B6.out)).mono ?_; rintro e w7 ⟨x7, rfl, hx, hb⟩; have P_7 := Lib.hid hx; obtain ⟨xo7, xc7, rfl⟩ := dots_shape hx _ rfl; have X_7 := Lib.hid (dots_below X_6.out hb); have Y_7 := Lib.hid (dots_below Y_6.out hb); have B7 := Lib.hid (below_next B6.out hb); clear hb hx)
    | (go_at_call 26; with_reducible refine (M2.out w7 (dots_below Hv.out B7.out) (dots_below Hu.out B7.out)).mono ?_; rintro e w8 ⟨x8, rfl, hx, hb⟩; have Q_8 := Lib.hid hx; obtain ⟨xo8, xc8, rfl⟩ := dots_shape hx _ rfl; have X_8 := Lib.hid (dots_below X_7.out hb); have Y_8 := Lib.hid (dots_below Y_7.out hb); have P_8 := Lib.hid (dots_below P_7.out hb); have B8 := Lib.hid (below_next B7.out hb); clear hb hx)
    | (go_at_call 18; with_reducible refine (EM.out w8 _ _ P_8.out Q_8.out).mono ?_; rintro e w9 ⟨rfl, hb⟩; have X_9 := Lib.hid (dots_below X_8.out hb); have Y_9 := Lib.hid (dots_below Y_8.out hb); have B9 := Lib.hid (below_next B8.out hb); clear hb)
    | (go_at_call 27; with_reducible refine (L1.out w9 (dots_below Hv.out B9.out) (dots_below Hu.out B9.out)).mono ?_; rintro e w10 ⟨rfl, hb⟩; have X_10 := Lib.hid (dots_below X_9.out hb); have Y_10 := Lib.hid (dots_below Y_9.out hb); have B10 := Lib.hid (below_next B9.out hb); clear hb)
    | (go_at_call 28; with_reducible refine (L2.out w10 (dots_below Hv.out B10.out) (dots_below Hu.out B10.out)).mono ?_; rintro e w11 ⟨rfl, hb⟩; have X_11 := Lib.hid (dots_below X_10.out hb); have Y_11 := Lib.hid (dots_below Y_10.out hb); have B11 := Lib.hid (below_next B10.out hb); clear hb)
    | (go_at_call 29; with_reducible refine (T1.out w11 (dots_below Hv.out B11.out) (powTab_below HT.out B11.out)).mono ?_; rintro e w12 ⟨rfl, hb⟩; have X_12 := Lib.hid (dots_below X_11.out hb); have Y_12 := Lib.hid (dots_below Y_11.out hb); have B12 := Lib.hid (below_next B11.out hb); clear hb)
    | (go_at_call 30; with_reducible refine (T2.out w12 (dots_below Hv.out B12.out)).mono ?_; rintro e w13 ⟨rfl, hb⟩; have X_13 := Lib.hid (dots_below X_12.out hb); have Y_13 := Lib.hid (dots_below Y_12.out hb); have B13 := Lib.hid (below_next B12.out hb); clear hb)
    | (go_at_call 18; with_reducible refine (EP.out w13 _ _ X_13.out Y_13.out).mono ?_; rintro e w14 ⟨rfl, hb⟩; have B14 := Lib.hid (below_next B13.out hb); clear hb))
  go_ret
  exact ⟨rfl, B14.out⟩
end Go.Proofs.YtoephjmjlhgjeaaDoor
