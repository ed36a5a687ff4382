/-
The walk of the statement that a vector is parsed as it was.
-/
import Derived.Test.YtoephjmjlhgjeaaDoorQLaw10Joins
import Derived.Test.YtoephjmjlhgjeaaDoorPk5
namespace Go.Proofs.YtoephjmjlhgjeaaDoor
open Go.RowKit
set_option maxRecDepth 100000 in
set_option maxHeartbeats 32000000 in
theorem vecBack_walk (a b : List D2) (s : List UInt8) (hs : s.length < 1152921504606846976) (v u : Value) (w : World) (hv : HasDots w v a) (hu : HasDots w u b) (hT : PowTab w) :
    Calls Tryd.prog 7 #[v, u, .string (str s)] w fun e w' => e = .returned (.bool true) ∧ Below w.heap.size w w' := by
  have HT := Lib.hid hT
  have AW := Lib.hid (fun w hT => awake10_any w hT)
  have PS := Lib.hid (fun w => vecParse_any s hs w)
  have LP := Lib.hid (show (parV s).length < 2000000 from parV_len s)
  have MY := Lib.hid (fun w v hv => vecMay_any (parV s) LP.out v w hv)
  have TY := Lib.hid (fun w v hv hT => vecText_any (parV s) LP.out v w hv hT)
  have HC := Lib.hid (parVErr_cases s)
  have HG := Lib.hid (fun h => text_parseV (s := s) h)
  have s4 : (str s).toList = s := str_toList _
  clear hT hs
  have Hv := Lib.hid hv
  obtain ⟨vo, vc, rfl⟩ := dots_shape hv a.length rfl
  obtain ⟨n, hn⟩ : ∃ n, n = a.length := ⟨_, rfl⟩
  have HLa := Lib.hid hn
  rw [← hn] at Hv ⊢
  have Hu := Lib.hid hu
  obtain ⟨uo, uc, rfl⟩ := dots_shape hu b.length rfl
  obtain ⟨m, hm⟩ : ∃ m, m = b.length := ⟨_, rfl⟩
  have HLb := Lib.hid hm
  rw [← hm] at Hu ⊢
  clear hv hn hu hm
  by_cases h1 : n > 300
  · have q1 : (n : Int) > 300 := by omega
    clear h1
    go_enter Tryd.func7, Tryd.ntmps7
    go_wp2_with (first | (go_at_call 9; with_reducible refine (AW.out w HT.out).mono ?_; rintro e w1 ⟨rfl, hb⟩; have B1 := Lib.hid hb; clear hb))
    go_ret
    exact ⟨rfl, B1.out⟩
  by_cases h2 : m > 300
  · have q1 : ¬ (n : Int) > 300 := by omega
    have q2 : (m : Int) > 300 := by omega
    clear h1 h2
    go_enter Tryd.func7, Tryd.ntmps7
    go_wp2_with (first | (go_at_call 9; with_reducible refine (AW.out w HT.out).mono ?_; rintro e w1 ⟨rfl, hb⟩; have B1 := Lib.hid hb; clear hb))
    go_ret
    exact ⟨rfl, B1.out⟩
  have q1 : ¬ (n : Int) > 300 := by omega
  have q2 : ¬ (m : Int) > 300 := by omega
  have la : a.length < 2000000 := by have := HLa.out; omega
  have lb : b.length < 2000000 := by have := HLb.out; omega
  have T1 := Lib.hid (fun w hv hT => vecText_any a la (.slice vo n vc) w hv hT)
  have PT := Lib.hid (fun w => vecParse_any (textV a) (by have := textV_length a; omega) w)
  rw [(parse_textV a).1, (parse_textV a).2] at PT
  have lx : (vecOf a).length < 2000000 := by have := ofN_length (allV a) 32; unfold vecOf ofV; omega
  have S1 := Lib.hid (fun w v hv hu => vecSame_any (vecOf a) a lx la v (.slice vo n vc) w hv hu)
  rw [show sameV (vecOf a) a = true from (sameV_iff _ _).2 fun i hi => allV_vecOf a hi] at S1
  have MX := Lib.hid (fun w v hv => vecMay_any (vecOf a) lx v w hv)
  rw [show mayV (vecOf a) = true from mayV_ofV (allV_cnt a)] at MX
  have S2 := Lib.hid (fun w hv hu => vecSame_any a b la lb (.slice vo n vc) (.slice uo m uc) w hv hu)
  have L1 := Lib.hid (fun w hv hu => vecLeq_any a b la lb (.slice vo n vc) (.slice uo m uc) w hv hu)
  have L2 := Lib.hid (fun w hu hv => vecLeq_any b a lb la (.slice uo m uc) (.slice vo n vc) w hu hv)
  rw [same_leq] at S2
  generalize textV a = b1 at *
  generalize vecOf a = b2 at *
  generalize leqV a b = b3 at *
  generalize leqV b a = b4 at *
  clear h1 h2 la lb lx
  cases b3 with
  | true =>
    rcases HC.out with ⟨e0, hv0⟩ | ⟨e2, -, hn⟩
    · obtain ⟨g1, g2⟩ := HG.out hv0
      rw [e0] at PS
      rw [g1] at MY
      rw [g2] at TY
      generalize parV s = b5 at *
      clear e0 hv0 g1 g2
      go_enter Tryd.func7, Tryd.ntmps7
      go_wp2_with (first
        | (go_at_call 9; with_reducible refine (AW.out w HT.out).mono ?_; rintro e w1 ⟨rfl, hb⟩; have B1 := Lib.hid hb; clear hb)
        | (go_at_call 29; with_reducible refine (T1.out w1 (dots_below Hv.out B1.out) (powTab_below HT.out B1.out)).mono ?_; rintro e w2 ⟨rfl, hb⟩; have B2 := Lib.hid (below_next B1.out hb); clear hb)
        | (go_at_call 21; with_reducible refine (PT.out w2).mono ?_; rintro e w3 ⟨x3, rfl, hx, hb⟩; have X_3 := Lib.hid hx; obtain ⟨xo3, xc3, rfl⟩ := dots_shape hx _ rfl; have B3 := Lib.hid (below_next B2.out hb); clear hb hx)
        | (go_at_call 21; with_reducible refine (PS.out w3).mono ?_; rintro e w4 ⟨x4, rfl, hx, hb⟩; have Y_4 := Lib.hid hx; obtain ⟨xo4, xc4, rfl⟩ := dots_shape hx _ rfl; have X_4 := Lib.hid (dots_below X_3.out hb); have B4 := Lib.hid (below_next B3.out hb); clear hb hx)
        | (go_at_call 12; with_reducible refine (S1.out w4 _ X_4.out (dots_below Hv.out B4.out)).mono ?_; rintro e w5 ⟨rfl, hb⟩; have X_5 := Lib.hid (dots_below X_4.out hb); have Y_5 := Lib.hid (dots_below Y_4.out hb); have B5 := Lib.hid (below_next B4.out hb); clear hb)
        | (go_at_call 10; with_reducible refine (MX.out w5 _ X_5.out).mono ?_; rintro e w6 ⟨rfl, hb⟩; have Y_6 := Lib.hid (dots_below Y_5.out hb); have B6 := Lib.hid (below_next B5.out hb); clear hb)
        | (go_at_call 12; with_reducible refine (S2.out w6 (dots_below Hv.out B6.out) (dots_below Hu.out B6.out)).mono ?_; rintro e w7 ⟨rfl, hb⟩; have Y_7 := Lib.hid (dots_below Y_6.out hb); have B7 := Lib.hid (below_next B6.out hb); clear hb)
        | (go_at_call 27; with_reducible refine (L1.out w7 (dots_below Hv.out B7.out) (dots_below Hu.out B7.out)).mono ?_; rintro e w8 ⟨rfl, hb⟩; have Y_8 := Lib.hid (dots_below Y_7.out hb); have B8 := Lib.hid (below_next B7.out hb); clear hb)
        | (go_at_call 27; with_reducible refine (L2.out w8 (dots_below Hu.out B8.out) (dots_below Hv.out B8.out)).mono ?_; rintro e w9 ⟨rfl, hb⟩; have Y_9 := Lib.hid (dots_below Y_8.out hb); have B9 := Lib.hid (below_next B8.out hb); clear hb)
        | (go_at_call 10; with_reducible refine (MY.out w9 _ Y_9.out).mono ?_; rintro e w10 ⟨rfl, hb⟩; have Y_10 := Lib.hid (dots_below Y_9.out hb); have B10 := Lib.hid (below_next B9.out hb); clear hb)
        | (go_at_call 29; with_reducible refine (TY.out w10 _ Y_10.out (powTab_below HT.out B10.out)).mono ?_; rintro e w11 ⟨rfl, hb⟩; have B11 := Lib.hid (below_next B10.out hb); clear hb))
      go_ret
      exact ⟨rfl, B11.out⟩
    · rw [e2, hn] at PS
      clear e2 hn
      go_enter Tryd.func7, Tryd.ntmps7
      go_wp2_with (first
        | (go_at_call 9; with_reducible refine (AW.out w HT.out).mono ?_; rintro e w1 ⟨rfl, hb⟩; have B1 := Lib.hid hb; clear hb)
        | (go_at_call 29; with_reducible refine (T1.out w1 (dots_below Hv.out B1.out) (powTab_below HT.out B1.out)).mono ?_; rintro e w2 ⟨rfl, hb⟩; have B2 := Lib.hid (below_next B1.out hb); clear hb)
        | (go_at_call 21; with_reducible refine (PT.out w2).mono ?_; rintro e w3 ⟨x3, rfl, hx, hb⟩; have X_3 := Lib.hid hx; obtain ⟨xo3, xc3, rfl⟩ := dots_shape hx _ rfl; have B3 := Lib.hid (below_next B2.out hb); clear hb hx)
        | (go_at_call 21; with_reducible refine (PS.out w3).mono ?_; rintro e w4 ⟨x4, rfl, hx, hb⟩; have Y_4 := Lib.hid hx; obtain ⟨xo4, xc4, rfl⟩ := dots_shape hx _ rfl; have X_4 := Lib.hid (dots_below X_3.out hb); have B4 := Lib.hid (below_next B3.out hb); clear hb hx)
        | (go_at_call 12; with_reducible refine (S1.out w4 _ X_4.out (dots_below Hv.out B4.out)).mono ?_; rintro e w5 ⟨rfl, hb⟩; have X_5 := Lib.hid (dots_below X_4.out hb); have Y_5 := Lib.hid (dots_below Y_4.out hb); have B5 := Lib.hid (below_next B4.out hb); clear hb)
        | (go_at_call 10; with_reducible refine (MX.out w5 _ X_5.out).mono ?_; rintro e w6 ⟨rfl, hb⟩; have Y_6 := Lib.hid (dots_below Y_5.out hb); have B6 := Lib.hid (below_next B5.out hb); clear hb)
        | (go_at_call 12; with_reducible refine (S2.out w6 (dots_below Hv.out B6.out) (dots_below Hu.out B6.out)).mono ?_; rintro e w7 ⟨rfl, hb⟩; have Y_7 := Lib.hid (dots_below Y_6.out hb); have B7 := Lib.hid (below_next B6.out hb); clear hb)
        | (go_at_call 27; with_reducible refine (L1.out w7 (dots_below Hv.out B7.out) (dots_below Hu.out B7.out)).mono ?_; rintro e w8 ⟨rfl, hb⟩; have Y_8 := Lib.hid (dots_below Y_7.out hb); have B8 := Lib.hid (below_next B7.out hb); clear hb)
        | (go_at_call 27; with_reducible refine (L2.out w8 (dots_below Hu.out B8.out) (dots_below Hv.out B8.out)).mono ?_; rintro e w9 ⟨rfl, hb⟩; have Y_9 := Lib.hid (dots_below Y_8.out hb); have B9 := Lib.hid (below_next B8.out hb); clear hb))
      go_ret
      exact ⟨rfl, B9.out⟩
  | false =>
    rcases HC.out with ⟨e0, hv0⟩ | ⟨e2, -, hn⟩
    · obtain ⟨g1, g2⟩ := HG.out hv0
      rw [e0] at PS
      rw [g1] at MY
      rw [g2] at TY
      generalize parV s = b5 at *
      clear e0 hv0 g1 g2
      go_enter Tryd.func7, Tryd.ntmps7
      go_wp2_with (first
        | (go_at_call 9; with_reducible refine (AW.out w HT.out).mono ?_; rintro e w1 ⟨rfl, hb⟩; have B1 := Lib.hid hb; clear hb)
        | (go_at_call 29; with_reducible refine (T1.out w1 (dots_below Hv.out B1.out) (powTab_below HT.out B1.out)).mono ?_; rintro e w2 ⟨rfl, hb⟩; have B2 := Lib.hid (below_next B1.out hb); clear hb)
        | (go_at_call 21; with_reducible refine (PT.out w2).mono ?_; rintro e w3 ⟨x3, rfl, hx, hb⟩; have X_3 := Lib.hid hx; obtain ⟨xo3, xc3, rfl⟩ := dots_shape hx _ rfl; have B3 := Lib.hid (below_next B2.out hb); clear hb hx)
        | (go_at_call 21; with_reducible refine (PS.out w3).mono ?_; rintro e w4 ⟨x4, rfl, hx, hb⟩; have Y_4 := Lib.hid hx; obtain ⟨xo4, xc4, rfl⟩ := dots_shape hx _ rfl; have X_4 := Lib.hid (dots_below X_3.out hb); have B4 := Lib.hid (below_next B3.out hb); clear hb hx)
        | (go_at_call 12; with_reducible refine (S1.out w4 _ X_4.out (dots_below Hv.out B4.out)).mono ?_; rintro e w5 ⟨rfl, hb⟩; have X_5 := Lib.hid (dots_below X_4.out hb); have Y_5 := Lib.hid (dots_below Y_4.out hb); have B5 := Lib.hid (below_next B4.out hb); clear hb)
        | (go_at_call 10; with_reducible refine (MX.out w5 _ X_5.out).mono ?_; rintro e w6 ⟨rfl, hb⟩; have Y_6 := Lib.hid (dots_below Y_5.out hb); have B6 := Lib.hid (below_next B5.out hb); clear hb)
        | (go_at_call 12; with_reducible refine (S2.out w6 (dots_below Hv.out B6.out) (dots_below Hu.out B6.out)).mono ?_; rintro e w7 ⟨rfl, hb⟩; have Y_7 := Lib.hid (dots_below Y_6.out hb); have B7 := Lib.hid (below_next B6.out hb); clear hb)
        | (go_at_call 27; with_reducible refine (L1.out w7 (dots_below Hv.out B7.out) (dots_below Hu.out B7.out)).mono ?_; rintro e w8 ⟨rfl, hb⟩; have Y_8 := Lib.hid (dots_below Y_7.out hb); have B8 := Lib.hid (below_next B7.out hb); clear hb)
        | (go_at_call 10; with_reducible refine (MY.out w8 _ Y_8.out).mono ?_; rintro e w9 ⟨rfl, hb⟩; have Y_9 := Lib.hid (dots_below Y_8.out hb); have B9 := Lib.hid (below_next B8.out hb); clear hb)
        | (go_at_call 29; with_reducible refine (TY.out w9 _ Y_9.out (powTab_below HT.out B9.out)).mono ?_; rintro e w10 ⟨rfl, hb⟩; have B10 := Lib.hid (below_next B9.out hb); clear hb))
      go_ret
      exact ⟨rfl, B10.out⟩
    · rw [e2, hn] at PS
      clear e2 hn
      go_enter Tryd.func7, Tryd.ntmps7
      go_wp2_with (first
        | (go_at_call 9; with_reducible refine (AW.out w HT.out).mono ?_; rintro e w1 ⟨rfl, hb⟩; have B1 := Lib.hid hb; clear hb)
        | (go_at_call 29; with_reducible refine (T1.out w1 (dots_below Hv.out B1.out) (powTab_below HT.out B1.out)).mono ?_; rintro e w2 ⟨rfl, hb⟩; have B2 := Lib.hid (below_next B1.out hb); clear hb)
        | (go_at_call 21; with_reducible refine (PT.out w2).mono ?_; rintro e w3 ⟨x3, rfl, hx, hb⟩; have X_3 := Lib.hid hx; obtain ⟨xo3, xc3, rfl⟩ := dots_shape hx _ rfl; have B3 := Lib.hid (below_next B2.out hb); clear hb hx)
        | (go_at_call 21; with_reducible refine (PS.out w3).mono ?_; rintro e w4 ⟨x4, rfl, hx, hb⟩; have Y_4 := Lib.hid hx; obtain ⟨xo4, xc4, rfl⟩ := dots_shape hx _ rfl; have X_4 := Lib.hid (dots_below X_3.out hb); have B4 := Lib.hid (below_next B3.out hb); clear hb hx)
        | (go_at_call 12; with_reducible refine (S1.out w4 _ X_4.out (dots_below Hv.out B4.out)).mono ?_; rintro e w5 ⟨rfl, hb⟩; have X_5 := Lib.hid (dots_below X_4.out hb); have Y_5 := Lib.hid (dots_below Y_4.out hb); have B5 := Lib.hid (below_next B4.out hb); clear hb)
        | (go_at_call 10; with_reducible refine (MX.out w5 _ X_5.out).mono ?_; rintro e w6 ⟨rfl, hb⟩; have Y_6 := Lib.hid (dots_below Y_5.out hb); have B6 := Lib.hid (below_next B5.out hb); clear hb)
        | (go_at_call 12; with_reducible refine (S2.out w6 (dots_below Hv.out B6.out) (dots_below Hu.out B6.out)).mono ?_; rintro e w7 ⟨rfl, hb⟩; have Y_7 := Lib.hid (dots_below Y_6.out hb); have B7 := Lib.hid (below_next B6.out hb); clear hb)
        | (go_at_call 27; with_reducible refine (L1.out w7 (dots_below Hv.out B7.out) (dots_below Hu.out B7.out)).mono ?_; rintro e w8 ⟨rfl, hb⟩; have Y_8 := Lib.hid (dots_below Y_7.out hb); have B8 := Lib.hid (below_next B7.out hb); clear hb))
      go_ret
      exact ⟨rfl, B8.out⟩
end Go.Proofs.YtoephjmjlhgjeaaDoor
