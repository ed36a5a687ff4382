/-
The walk of the statement that vectors are a lattice.
-/
import Derived.Test.YtoephjmjlhgjeaaDoorPk5
namespace Go.Proofs.YtoephjmjlhgjeaaDoor
open Go.RowKit
set_option maxRecDepth 100000 in
set_option maxHeartbeats 32000000 in
theorem vecLattice_walk (a b c : List D2) (v u z : Value) (w : World) (hv : HasDots w v a) (hu : HasDots w u b) (hz : HasDots w z c) (hT : PowTab w) :
    Calls Tryd.prog 5 #[v, u, z] w fun e w' => e = .returned (.bool true) ∧ Below w.heap.size w w' := by
  have HT := Lib.hid hT
  have AW := Lib.hid (fun w hT => awake10_any w hT)
  clear hT
  have Hv := Lib.hid hv
  obtain ⟨vo, vc, rfl⟩ := dots_shape hv a.length rfl
  obtain ⟨n, hn⟩ : ∃ n, n = a.length := ⟨_, rfl⟩
  have HLa := Lib.hid hn
  rw [← hn] at Hv ⊢
  have Hu := Lib.hid hu
  obtain ⟨uo, uc, rfl⟩ := dots_shape hu b.length rfl
  obtain ⟨m, hm⟩ : ∃ m, m = b.length := ⟨_, rfl⟩
  have HLb := Lib.hid hm
  rw [← hm] at Hu ⊢
  have Hz := Lib.hid hz
  obtain ⟨zo, zc, rfl⟩ := dots_shape hz c.length rfl
  obtain ⟨k, hk⟩ : ∃ k, k = c.length := ⟨_, rfl⟩
  have HLc := Lib.hid hk
  rw [← hk] at Hz ⊢
  clear hv hn hu hm hz hk
  by_cases h1 : n > 300
  · have q1 : (n : Int) > 300 := by omega
    clear h1
    go_enter Tryd.func5, Tryd.ntmps5
    go_wp2_with (first | (go_at_call 9; with_reducible refine (AW.out w HT.out).mono ?_; rintro e w1 ⟨rfl, hb⟩; have B1 := Lib.hid hb; clear hb))
    go_ret
    exact ⟨rfl, B1.out⟩
  by_cases h2 : m > 300
  · have q1 : ¬ (n : Int) > 300 := by omega
    have q2 : (m : Int) > 300 := by omega
    clear h1 h2
    go_enter Tryd.func5, Tryd.ntmps5
    go_wp2_with (first | (go_at_call 9; with_reducible refine (AW.out w HT.out).mono ?_; rintro e w1 ⟨rfl, hb⟩; have B1 := Lib.hid hb; clear hb))
    go_ret
    exact ⟨rfl, B1.out⟩
  by_cases h3 : k > 300
  · have q1 : ¬ (n : Int) > 300 := by omega
    have q2 : ¬ (m : Int) > 300 := by omega
    have q3 : (k : Int) > 300 := by omega
    clear h1 h2 h3
    go_enter Tryd.func5, Tryd.ntmps5
    go_wp2_with (first | (go_at_call 9; with_reducible refine (AW.out w HT.out).mono ?_; rintro e w1 ⟨rfl, hb⟩; have B1 := Lib.hid hb; clear hb))
    go_ret
    exact ⟨rfl, B1.out⟩
  have q1 : ¬ (n : Int) > 300 := by omega
  have q2 : ¬ (m : Int) > 300 := by omega
  have la : a.length < 2000000 := by have := HLa.out; omega
  have lb : b.length < 2000000 := by have := HLb.out; omega
  have q3 : ¬ (k : Int) > 300 := by omega
  have lc : c.length < 2000000 := by have := HLc.out; omega
  have j32 : ∀ a b : List D2, (joinV a b).length < 2000000 := fun a b => by have := rising_length (mayV_join a b); omega
  have m32 : ∀ a b : List D2, (meetV a b).length < 2000000 := fun a b => by have := rising_length (mayV_meet a b); omega
  have CJ := Lib.hid (fun w  hx hy => vecJoin_any a b la lb (.slice vo n vc) (.slice uo m uc) w hx hy)
  have CM := Lib.hid (fun w  hx hy => vecMeet_any a b la lb (.slice vo n vc) (.slice uo m uc) w hx hy)
  have L1 := Lib.hid (fun w vy hx hy => vecLeq_any a (joinV a b) la (j32 _ _) (.slice vo n vc) vy w hx hy)
  rw [(leq_join a b).1] at L1
  have L2 := Lib.hid (fun w vy hx hy => vecLeq_any b (joinV a b) lb (j32 _ _) (.slice uo m uc) vy w hx hy)
  rw [(leq_join a b).2] at L2
  have L3 := Lib.hid (fun w vx hx hy => vecLeq_any (meetV a b) a (m32 _ _) la vx (.slice vo n vc) w hx hy)
  rw [(meet_leq a b).1] at L3
  have L4 := Lib.hid (fun w vx hx hy => vecLeq_any (meetV a b) b (m32 _ _) lb vx (.slice uo m uc) w hx hy)
  rw [(meet_leq a b).2] at L4
  have AC := Lib.hid (fun w  hx hy => vecLeq_any a c la lc (.slice vo n vc) (.slice zo k zc) w hx hy)
  have BC := Lib.hid (fun w  hx hy => vecLeq_any b c lb lc (.slice uo m uc) (.slice zo k zc) w hx hy)
  have CA := Lib.hid (fun w  hx hy => vecLeq_any c a lc la (.slice zo k zc) (.slice vo n vc) w hx hy)
  have CB := Lib.hid (fun w  hx hy => vecLeq_any c b lc lb (.slice zo k zc) (.slice uo m uc) w hx hy)
  have JC := Lib.hid (fun (h1 : leqV a c = true) (h2 : leqV b c = true) => show ∀ w vx, HasDots w vx (joinV a b) → HasDots w (.slice zo k zc) c → Calls Tryd.prog 27 #[vx, .slice zo k zc] w fun e w' => e = .returned (.bool true) ∧ Below w.heap.size w w' from fun w vx hx hy => by have h := vecLeq_any (joinV a b) c (j32 _ _) lc vx (.slice zo k zc) w hx hy; rwa [join_least h1 h2] at h)
  have CMM := Lib.hid (fun (h1 : leqV c a = true) (h2 : leqV c b = true) => show ∀ w vy, HasDots w (.slice zo k zc) c → HasDots w vy (meetV a b) → Calls Tryd.prog 27 #[.slice zo k zc, vy] w fun e w' => e = .returned (.bool true) ∧ Below w.heap.size w w' from fun w vy hx hy => by have h := vecLeq_any c (meetV a b) lc (m32 _ _) (.slice zo k zc) vy w hx hy; rwa [meet_great h1 h2] at h)
  have JX := Lib.hid (fun w vx hx hy => vecJoin_any (joinV a b) c (j32 _ _) lc vx (.slice zo k zc) w hx hy)
  have JY := Lib.hid (fun w  hx hy => vecJoin_any b c lb lc (.slice uo m uc) (.slice zo k zc) w hx hy)
  have JZ := Lib.hid (fun w vy hx hy => vecJoin_any a (joinV b c) la (j32 _ _) (.slice vo n vc) vy w hx hy)
  have MX := Lib.hid (fun w vx hx hy => vecMeet_any (meetV a b) c (m32 _ _) lc vx (.slice zo k zc) w hx hy)
  have MY := Lib.hid (fun w  hx hy => vecMeet_any b c lb lc (.slice uo m uc) (.slice zo k zc) w hx hy)
  have MZ := Lib.hid (fun w vy hx hy => vecMeet_any a (meetV b c) la (m32 _ _) (.slice vo n vc) vy w hx hy)
  have JR := Lib.hid (fun w  hx hy => vecJoin_any b a lb la (.slice uo m uc) (.slice vo n vc) w hx hy)
  have MR := Lib.hid (fun w  hx hy => vecMeet_any b a lb la (.slice uo m uc) (.slice vo n vc) w hx hy)
  have JA := Lib.hid (fun w vy hx hy => vecJoin_any a (meetV a b) la (m32 _ _) (.slice vo n vc) vy w hx hy)
  have MA := Lib.hid (fun w vy hx hy => vecMeet_any a (joinV a b) la (j32 _ _) (.slice vo n vc) vy w hx hy)
  have SX := Lib.hid (fun w vx vy hx hy => vecSame_any (joinV (joinV a b) c) (joinV a (joinV b c)) (j32 _ _) (j32 _ _) vx vy w hx hy)
  rw [join_assoc] at SX
  have SM := Lib.hid (fun w vx vy hx hy => vecSame_any (meetV (meetV a b) c) (meetV a (meetV b c)) (m32 _ _) (m32 _ _) vx vy w hx hy)
  rw [meet_assoc] at SM
  have SJ := Lib.hid (fun w vx vy hx hy => vecSame_any (joinV a b) (joinV b a) (j32 _ _) (j32 _ _) vx vy w hx hy)
  rw [join_comm] at SJ
  have SR := Lib.hid (fun w vx vy hx hy => vecSame_any (meetV a b) (meetV b a) (m32 _ _) (m32 _ _) vx vy w hx hy)
  rw [meet_comm] at SR
  have SA := Lib.hid (fun w vx hx hy => vecSame_any (joinV a (meetV a b)) a (j32 _ _) la vx (.slice vo n vc) w hx hy)
  rw [join_meet] at SA
  have SB := Lib.hid (fun w vx hx hy => vecSame_any (meetV a (joinV a b)) a (m32 _ _) la vx (.slice vo n vc) w hx hy)
  rw [meet_join] at SB
  have YJ := Lib.hid (fun w v hv => vecMay_any (joinV a b) (j32 _ _) v w hv)
  rw [mayV_join] at YJ
  have YM := Lib.hid (fun w v hv => vecMay_any (meetV a b) (m32 _ _) v w hv)
  rw [mayV_meet] at YM
  generalize joinV (joinV a b) c = g0 at *
  generalize joinV a (joinV b c) = g1 at *
  generalize meetV (meetV a b) c = g2 at *
  generalize meetV a (meetV b c) = g3 at *
  generalize joinV b c = g4 at *
  generalize meetV b c = g5 at *
  generalize joinV a (meetV a b) = g6 at *
  generalize meetV a (joinV a b) = g7 at *
  generalize joinV a b = g8 at *
  generalize meetV a b = g9 at *
  generalize joinV b a = g10 at *
  generalize meetV b a = g11 at *
  generalize leqV a c = ac at *
  generalize leqV b c = bc at *
  generalize leqV c a = ca at *
  generalize leqV c b = cb at *
  clear h1 h2 h3 la lb lc j32 m32
  go_enter Tryd.func5, Tryd.ntmps5
  go_upto_region 8 with (first
    | (go_at_call 9; with_reducible refine (AW.out w HT.out).mono ?_; rintro e w1 ⟨rfl, hb⟩; have B1 := Lib.hid hb; clear hb)
    | (go_at_call 23; with_reducible refine (CJ.out w1 (dots_below Hv.out B1.out) (dots_below Hu.out B1.out)).mono ?_; rintro e w2 ⟨x2, rfl, hx, hb⟩; have J_2 := Lib.hid hx; obtain ⟨xo2, xc2, rfl⟩ := dots_shape hx _ rfl; have B2 := Lib.hid (below_next B1.out hb); clear hb hx)
    | (go_at_call 25; with_reducible refine (CM.out w2 (dots_below Hv.out B2.out) (dots_below Hu.out B2.out)).mono ?_; rintro e w3 ⟨x3, rfl, hx, hb⟩; have M_3 := Lib.hid hx; obtain ⟨xo3, xc3, rfl⟩ := dots_shape hx _ rfl; have J_3 := Lib.hid (dots_below J_2.out hb); have B3 := Lib.hid (below_next B2.out hb); clear hb hx)
    | (go_at_call 27; with_reducible refine (L1.out w3 _ (dots_below Hv.out B3.out) J_3.out).mono ?_; rintro e w4 ⟨rfl, hb⟩; have J_4 := Lib.hid (dots_below J_3.out hb); have M_4 := Lib.hid (dots_below M_3.out hb); have B4 := Lib.hid (below_next B3.out hb); clear hb)
    | (go_at_call 27; with_reducible refine (L2.out w4 _ (dots_below Hu.out B4.out) J_4.out).mono ?_; rintro e w5 ⟨rfl, hb⟩; have J_5 := Lib.hid (dots_below J_4.out hb); have M_5 := Lib.hid (dots_below M_4.out hb); have B5 := Lib.hid (below_next B4.out hb); clear hb)
    | (go_at_call 27; with_reducible refine (L3.out w5 _ M_5.out (dots_below Hv.out B5.out)).mono ?_; rintro e w6 ⟨rfl, hb⟩; have J_6 := Lib.hid (dots_below J_5.out hb); have M_6 := Lib.hid (dots_below M_5.out hb); have B6 := Lib.hid (below_next B5.out hb); clear hb)
    | (go_at_call 27; with_reducible refine (L4.out w6 _ M_6.out (dots_below Hu.out B6.out)).mono ?_; rintro e w7 ⟨rfl, hb⟩; have J_7 := Lib.hid (dots_below J_6.out hb); have M_7 := Lib.hid (dots_below M_6.out hb); have B7 := Lib.hid (below_next B6.out hb); clear hb))
  have T7 := Lib.hid (Below.refl w7.heap.size w7)
  go_cut [83] (fun s83 wx => s83 = .bool false ∧ Below w7.heap.size w7 wx)
  case first =>
    rename_i JJ KK hJJ hKK
    have HJJ := Lib.hid hJJ
    have HKK := Lib.hid hKK
    clear hJJ hKK
    have hcs : (ac = false ∨ (ac = true ∧ bc = false) ∨ (ac = true ∧ bc = true)) ∧ (ca = false ∨ (ca = true ∧ cb = false) ∨ (ca = true ∧ cb = true)) := by cases ac <;> cases bc <;> cases ca <;> cases cb <;> decide
    rcases hcs with ⟨rfl | ⟨rfl, rfl⟩ | ⟨rfl, rfl⟩, rfl | ⟨rfl, rfl⟩ | ⟨rfl, rfl⟩⟩
    · -- 0 0
      go_wp2_with (first
        | (go_at_call 27; with_reducible refine (AC.out w7 (dots_below Hv.out B7.out) (dots_below Hz.out B7.out)).mono ?_; rintro e w8 ⟨rfl, hb⟩; have J_8 := Lib.hid (dots_below J_7.out hb); have M_8 := Lib.hid (dots_below M_7.out hb); have B8 := Lib.hid (below_next B7.out hb); have T8 := Lib.hid (below_next T7.out hb); clear hb)
        | (go_at_call 27; with_reducible refine (CA.out w8 (dots_below Hz.out B8.out) (dots_below Hv.out B8.out)).mono ?_; rintro e w9 ⟨rfl, hb⟩; have J_9 := Lib.hid (dots_below J_8.out hb); have M_9 := Lib.hid (dots_below M_8.out hb); have B9 := Lib.hid (below_next B8.out hb); have T9 := Lib.hid (below_next T8.out hb); clear hb))
      refine HKK.out _ _ ?_
      have hJJ := HJJ.out
      go_meet
      exact ⟨rfl, T9.out⟩
    · -- 0 1
      go_wp2_with (first
        | (go_at_call 27; with_reducible refine (AC.out w7 (dots_below Hv.out B7.out) (dots_below Hz.out B7.out)).mono ?_; rintro e w8 ⟨rfl, hb⟩; have J_8 := Lib.hid (dots_below J_7.out hb); have M_8 := Lib.hid (dots_below M_7.out hb); have B8 := Lib.hid (below_next B7.out hb); have T8 := Lib.hid (below_next T7.out hb); clear hb)
        | (go_at_call 27; with_reducible refine (CA.out w8 (dots_below Hz.out B8.out) (dots_below Hv.out B8.out)).mono ?_; rintro e w9 ⟨rfl, hb⟩; have J_9 := Lib.hid (dots_below J_8.out hb); have M_9 := Lib.hid (dots_below M_8.out hb); have B9 := Lib.hid (below_next B8.out hb); have T9 := Lib.hid (below_next T8.out hb); clear hb)
        | (go_at_call 27; with_reducible refine (CB.out w9 (dots_below Hz.out B9.out) (dots_below Hu.out B9.out)).mono ?_; rintro e w10 ⟨rfl, hb⟩; have J_10 := Lib.hid (dots_below J_9.out hb); have M_10 := Lib.hid (dots_below M_9.out hb); have B10 := Lib.hid (below_next B9.out hb); have T10 := Lib.hid (below_next T9.out hb); clear hb))
      refine HKK.out _ _ ?_
      have hJJ := HJJ.out
      go_meet
      exact ⟨rfl, T10.out⟩
    · -- 0 2
      have CMt := Lib.hid (CMM.out rfl rfl)
      go_wp2_with (first
        | (go_at_call 27; with_reducible refine (AC.out w7 (dots_below Hv.out B7.out) (dots_below Hz.out B7.out)).mono ?_; rintro e w8 ⟨rfl, hb⟩; have J_8 := Lib.hid (dots_below J_7.out hb); have M_8 := Lib.hid (dots_below M_7.out hb); have B8 := Lib.hid (below_next B7.out hb); have T8 := Lib.hid (below_next T7.out hb); clear hb)
        | (go_at_call 27; with_reducible refine (CA.out w8 (dots_below Hz.out B8.out) (dots_below Hv.out B8.out)).mono ?_; rintro e w9 ⟨rfl, hb⟩; have J_9 := Lib.hid (dots_below J_8.out hb); have M_9 := Lib.hid (dots_below M_8.out hb); have B9 := Lib.hid (below_next B8.out hb); have T9 := Lib.hid (below_next T8.out hb); clear hb)
        | (go_at_call 27; with_reducible refine (CB.out w9 (dots_below Hz.out B9.out) (dots_below Hu.out B9.out)).mono ?_; rintro e w10 ⟨rfl, hb⟩; have J_10 := Lib.hid (dots_below J_9.out hb); have M_10 := Lib.hid (dots_below M_9.out hb); have B10 := Lib.hid (below_next B9.out hb); have T10 := Lib.hid (below_next T9.out hb); clear hb)
        | (go_at_call 27; with_reducible refine (CMt.out w10 _ (dots_below Hz.out B10.out) M_10.out).mono ?_; rintro e w11 ⟨rfl, hb⟩; have J_11 := Lib.hid (dots_below J_10.out hb); have M_11 := Lib.hid (dots_below M_10.out hb); have B11 := Lib.hid (below_next B10.out hb); have T11 := Lib.hid (below_next T10.out hb); clear hb))
      refine HKK.out _ _ ?_
      have hJJ := HJJ.out
      go_meet
      exact ⟨rfl, T11.out⟩
    · -- 1 0
      go_wp2_with (first
        | (go_at_call 27; with_reducible refine (AC.out w7 (dots_below Hv.out B7.out) (dots_below Hz.out B7.out)).mono ?_; rintro e w8 ⟨rfl, hb⟩; have J_8 := Lib.hid (dots_below J_7.out hb); have M_8 := Lib.hid (dots_below M_7.out hb); have B8 := Lib.hid (below_next B7.out hb); have T8 := Lib.hid (below_next T7.out hb); clear hb)
        | (go_at_call 27; with_reducible refine (BC.out w8 (dots_below Hu.out B8.out) (dots_below Hz.out B8.out)).mono ?_; rintro e w9 ⟨rfl, hb⟩; have J_9 := Lib.hid (dots_below J_8.out hb); have M_9 := Lib.hid (dots_below M_8.out hb); have B9 := Lib.hid (below_next B8.out hb); have T9 := Lib.hid (below_next T8.out hb); clear hb)
        | (go_at_call 27; with_reducible refine (CA.out w9 (dots_below Hz.out B9.out) (dots_below Hv.out B9.out)).mono ?_; rintro e w10 ⟨rfl, hb⟩; have J_10 := Lib.hid (dots_below J_9.out hb); have M_10 := Lib.hid (dots_below M_9.out hb); have B10 := Lib.hid (below_next B9.out hb); have T10 := Lib.hid (below_next T9.out hb); clear hb))
      refine HKK.out _ _ ?_
      have hJJ := HJJ.out
      go_meet
      exact ⟨rfl, T10.out⟩
    · -- 1 1
      go_wp2_with (first
        | (go_at_call 27; with_reducible refine (AC.out w7 (dots_below Hv.out B7.out) (dots_below Hz.out B7.out)).mono ?_; rintro e w8 ⟨rfl, hb⟩; have J_8 := Lib.hid (dots_below J_7.out hb); have M_8 := Lib.hid (dots_below M_7.out hb); have B8 := Lib.hid (below_next B7.out hb); have T8 := Lib.hid (below_next T7.out hb); clear hb)
        | (go_at_call 27; with_reducible refine (BC.out w8 (dots_below Hu.out B8.out) (dots_below Hz.out B8.out)).mono ?_; rintro e w9 ⟨rfl, hb⟩; have J_9 := Lib.hid (dots_below J_8.out hb); have M_9 := Lib.hid (dots_below M_8.out hb); have B9 := Lib.hid (below_next B8.out hb); have T9 := Lib.hid (below_next T8.out hb); clear hb)
        | (go_at_call 27; with_reducible refine (CA.out w9 (dots_below Hz.out B9.out) (dots_below Hv.out B9.out)).mono ?_; rintro e w10 ⟨rfl, hb⟩; have J_10 := Lib.hid (dots_below J_9.out hb); have M_10 := Lib.hid (dots_below M_9.out hb); have B10 := Lib.hid (below_next B9.out hb); have T10 := Lib.hid (below_next T9.out hb); clear hb)
        | (go_at_call 27; with_reducible refine (CB.out w10 (dots_below Hz.out B10.out) (dots_below Hu.out B10.out)).mono ?_; rintro e w11 ⟨rfl, hb⟩; have J_11 := Lib.hid (dots_below J_10.out hb); have M_11 := Lib.hid (dots_below M_10.out hb); have B11 := Lib.hid (below_next B10.out hb); have T11 := Lib.hid (below_next T10.out hb); clear hb))
      refine HKK.out _ _ ?_
      have hJJ := HJJ.out
      go_meet
      exact ⟨rfl, T11.out⟩
    · -- 1 2
      have CMt := Lib.hid (CMM.out rfl rfl)
      go_wp2_with (first
        | (go_at_call 27; with_reducible refine (AC.out w7 (dots_below Hv.out B7.out) (dots_below Hz.out B7.out)).mono ?_; rintro e w8 ⟨rfl, hb⟩; have J_8 := Lib.hid (dots_below J_7.out hb); have M_8 := Lib.hid (dots_below M_7.out hb); have B8 := Lib.hid (below_next B7.out hb); have T8 := Lib.hid (below_next T7.out hb); clear hb)
        | (go_at_call 27; with_reducible refine (BC.out w8 (dots_below Hu.out B8.out) (dots_below Hz.out B8.out)).mono ?_; rintro e w9 ⟨rfl, hb⟩; have J_9 := Lib.hid (dots_below J_8.out hb); have M_9 := Lib.hid (dots_below M_8.out hb); have B9 := Lib.hid (below_next B8.out hb); have T9 := Lib.hid (below_next T8.out hb); clear hb)
        | (go_at_call 27; with_reducible refine (CA.out w9 (dots_below Hz.out B9.out) (dots_below Hv.out B9.out)).mono ?_; rintro e w10 ⟨rfl, hb⟩; have J_10 := Lib.hid (dots_below J_9.out hb); have M_10 := Lib.hid (dots_below M_9.out hb); have B10 := Lib.hid (below_next B9.out hb); have T10 := Lib.hid (below_next T9.out hb); clear hb)
        | (go_at_call 27; with_reducible refine (CB.out w10 (dots_below Hz.out B10.out) (dots_below Hu.out B10.out)).mono ?_; rintro e w11 ⟨rfl, hb⟩; have J_11 := Lib.hid (dots_below J_10.out hb); have M_11 := Lib.hid (dots_below M_10.out hb); have B11 := Lib.hid (below_next B10.out hb); have T11 := Lib.hid (below_next T10.out hb); clear hb)
        | (go_at_call 27; with_reducible refine (CMt.out w11 _ (dots_below Hz.out B11.out) M_11.out).mono ?_; rintro e w12 ⟨rfl, hb⟩; have J_12 := Lib.hid (dots_below J_11.out hb); have M_12 := Lib.hid (dots_below M_11.out hb); have B12 := Lib.hid (below_next B11.out hb); have T12 := Lib.hid (below_next T11.out hb); clear hb))
      refine HKK.out _ _ ?_
      have hJJ := HJJ.out
      go_meet
      exact ⟨rfl, T12.out⟩
    · -- 2 0
      have JCt := Lib.hid (JC.out rfl rfl)
      go_wp2_with (first
        | (go_at_call 27; with_reducible refine (AC.out w7 (dots_below Hv.out B7.out) (dots_below Hz.out B7.out)).mono ?_; rintro e w8 ⟨rfl, hb⟩; have J_8 := Lib.hid (dots_below J_7.out hb); have M_8 := Lib.hid (dots_below M_7.out hb); have B8 := Lib.hid (below_next B7.out hb); have T8 := Lib.hid (below_next T7.out hb); clear hb)
        | (go_at_call 27; with_reducible refine (BC.out w8 (dots_below Hu.out B8.out) (dots_below Hz.out B8.out)).mono ?_; rintro e w9 ⟨rfl, hb⟩; have J_9 := Lib.hid (dots_below J_8.out hb); have M_9 := Lib.hid (dots_below M_8.out hb); have B9 := Lib.hid (below_next B8.out hb); have T9 := Lib.hid (below_next T8.out hb); clear hb)
        | (go_at_call 27; with_reducible refine (JCt.out w9 _ J_9.out (dots_below Hz.out B9.out)).mono ?_; rintro e w10 ⟨rfl, hb⟩; have J_10 := Lib.hid (dots_below J_9.out hb); have M_10 := Lib.hid (dots_below M_9.out hb); have B10 := Lib.hid (below_next B9.out hb); have T10 := Lib.hid (below_next T9.out hb); clear hb)
        | (go_at_call 27; with_reducible refine (CA.out w10 (dots_below Hz.out B10.out) (dots_below Hv.out B10.out)).mono ?_; rintro e w11 ⟨rfl, hb⟩; have J_11 := Lib.hid (dots_below J_10.out hb); have M_11 := Lib.hid (dots_below M_10.out hb); have B11 := Lib.hid (below_next B10.out hb); have T11 := Lib.hid (below_next T10.out hb); clear hb))
      refine HKK.out _ _ ?_
      have hJJ := HJJ.out
      go_meet
      exact ⟨rfl, T11.out⟩
    · -- 2 1
      have JCt := Lib.hid (JC.out rfl rfl)
      go_wp2_with (first
        | (go_at_call 27; with_reducible refine (AC.out w7 (dots_below Hv.out B7.out) (dots_below Hz.out B7.out)).mono ?_; rintro e w8 ⟨rfl, hb⟩; have J_8 := Lib.hid (dots_below J_7.out hb); have M_8 := Lib.hid (dots_below M_7.out hb); have B8 := Lib.hid (below_next B7.out hb); have T8 := Lib.hid (below_next T7.out hb); clear hb)
        | (go_at_call 27; with_reducible refine (BC.out w8 (dots_below Hu.out B8.out) (dots_below Hz.out B8.out)).mono ?_; rintro e w9 ⟨rfl, hb⟩; have J_9 := Lib.hid (dots_below J_8.out hb); have M_9 := Lib.hid (dots_below M_8.out hb); have B9 := Lib.hid (below_next B8.out hb); have T9 := Lib.hid (below_next T8.out hb); clear hb)
        | (go_at_call 27; with_reducible refine (JCt.out w9 _ J_9.out (dots_below Hz.out B9.out)).mono ?_; rintro e w10 ⟨rfl, hb⟩; have J_10 := Lib.hid (dots_below J_9.out hb); have M_10 := Lib.hid (dots_below M_9.out hb); have B10 := Lib.hid (below_next B9.out hb); have T10 := Lib.hid (below_next T9.out hb); clear hb)
        | (go_at_call 27; with_reducible refine (CA.out w10 (dots_below Hz.out B10.out) (dots_below Hv.out B10.out)).mono ?_; rintro e w11 ⟨rfl, hb⟩; have J_11 := Lib.hid (dots_below J_10.out hb); have M_11 := Lib.hid (dots_below M_10.out hb); have B11 := Lib.hid (below_next B10.out hb); have T11 := Lib.hid (below_next T10.out hb); clear hb)
        | (go_at_call 27; with_reducible refine (CB.out w11 (dots_below Hz.out B11.out) (dots_below Hu.out B11.out)).mono ?_; rintro e w12 ⟨rfl, hb⟩; have J_12 := Lib.hid (dots_below J_11.out hb); have M_12 := Lib.hid (dots_below M_11.out hb); have B12 := Lib.hid (below_next B11.out hb); have T12 := Lib.hid (below_next T11.out hb); clear hb))
      refine HKK.out _ _ ?_
      have hJJ := HJJ.out
      go_meet
      exact ⟨rfl, T12.out⟩
    · -- 2 2
      have JCt := Lib.hid (JC.out rfl rfl)
      have CMt := Lib.hid (CMM.out rfl rfl)
      go_wp2_with (first
        | (go_at_call 27; with_reducible refine (AC.out w7 (dots_below Hv.out B7.out) (dots_below Hz.out B7.out)).mono ?_; rintro e w8 ⟨rfl, hb⟩; have J_8 := Lib.hid (dots_below J_7.out hb); have M_8 := Lib.hid (dots_below M_7.out hb); have B8 := Lib.hid (below_next B7.out hb); have T8 := Lib.hid (below_next T7.out hb); clear hb)
        | (go_at_call 27; with_reducible refine (BC.out w8 (dots_below Hu.out B8.out) (dots_below Hz.out B8.out)).mono ?_; rintro e w9 ⟨rfl, hb⟩; have J_9 := Lib.hid (dots_below J_8.out hb); have M_9 := Lib.hid (dots_below M_8.out hb); have B9 := Lib.hid (below_next B8.out hb); have T9 := Lib.hid (below_next T8.out hb); clear hb)
        | (go_at_call 27; with_reducible refine (JCt.out w9 _ J_9.out (dots_below Hz.out B9.out)).mono ?_; rintro e w10 ⟨rfl, hb⟩; have J_10 := Lib.hid (dots_below J_9.out hb); have M_10 := Lib.hid (dots_below M_9.out hb); have B10 := Lib.hid (below_next B9.out hb); have T10 := Lib.hid (below_next T9.out hb); clear hb)
        | (go_at_call 27; with_reducible refine (CA.out w10 (dots_below Hz.out B10.out) (dots_below Hv.out B10.out)).mono ?_; rintro e w11 ⟨rfl, hb⟩; have J_11 := Lib.hid (dots_below J_10.out hb); have M_11 := Lib.hid (dots_below M_10.out hb); have B11 := Lib.hid (below_next B10.out hb); have T11 := Lib.hid (below_next T10.out hb); clear hb)
        | (go_at_call 27; with_reducible refine (CB.out w11 (dots_below Hz.out B11.out) (dots_below Hu.out B11.out)).mono ?_; rintro e w12 ⟨rfl, hb⟩; have J_12 := Lib.hid (dots_below J_11.out hb); have M_12 := Lib.hid (dots_below M_11.out hb); have B12 := Lib.hid (below_next B11.out hb); have T12 := Lib.hid (below_next T11.out hb); clear hb)
        | (go_at_call 27; with_reducible refine (CMt.out w12 _ (dots_below Hz.out B12.out) M_12.out).mono ?_; rintro e w13 ⟨rfl, hb⟩; have J_13 := Lib.hid (dots_below J_12.out hb); have M_13 := Lib.hid (dots_below M_12.out hb); have B13 := Lib.hid (below_next B12.out hb); have T13 := Lib.hid (below_next T12.out hb); clear hb))
      refine HKK.out _ _ ?_
      have hJJ := HJJ.out
      go_meet
      exact ⟨rfl, T13.out⟩
  case rest =>
    obtain ⟨rfl, hb8⟩ := hcut
    have B8 := Lib.hid (below_next B7.out hb8)
    have J_8 := Lib.hid (dots_below J_7.out hb8)
    have M_8 := Lib.hid (dots_below M_7.out hb8)
    clear hb8
    go_upto_region 11 with (first
      | (go_at_call 23; with_reducible refine (JX.out wc _ J_8.out (dots_below Hz.out B8.out)).mono ?_; rintro e w9 ⟨x9, rfl, hx, hb⟩; have X_9 := Lib.hid hx; obtain ⟨xo9, xc9, rfl⟩ := dots_shape hx _ rfl; have J_9 := Lib.hid (dots_below J_8.out hb); have M_9 := Lib.hid (dots_below M_8.out hb); have B9 := Lib.hid (below_next B8.out hb); clear hb hx)
      | (go_at_call 23; with_reducible refine (JY.out w9 (dots_below Hu.out B9.out) (dots_below Hz.out B9.out)).mono ?_; rintro e w10 ⟨x10, rfl, hx, hb⟩; have Y_10 := Lib.hid hx; obtain ⟨xo10, xc10, rfl⟩ := dots_shape hx _ rfl; have J_10 := Lib.hid (dots_below J_9.out hb); have M_10 := Lib.hid (dots_below M_9.out hb); have X_10 := Lib.hid (dots_below X_9.out hb); have B10 := Lib.hid (below_next B9.out hb); clear hb hx)
      | (go_at_call 23; with_reducible refine (JZ.out w10 _ (dots_below Hv.out B10.out) Y_10.out).mono ?_; rintro e w11 ⟨x11, rfl, hx, hb⟩; have Z_11 := Lib.hid hx; obtain ⟨xo11, xc11, rfl⟩ := dots_shape hx _ rfl; have J_11 := Lib.hid (dots_below J_10.out hb); have M_11 := Lib.hid (dots_below M_10.out hb); have X_11 := Lib.hid (dots_below X_10.out hb); have B11 := Lib.hid (below_next B10.out hb); clear hb hx)
      | (go_at_call 12; with_reducible refine (SX.out w11 _ _ X_11.out Z_11.out).mono ?_; rintro e w12 ⟨rfl, hb⟩; have J_12 := Lib.hid (dots_below J_11.out hb); have M_12 := Lib.hid (dots_below M_11.out hb); have B12 := Lib.hid (below_next B11.out hb); clear hb)
      | (go_at_call 25; with_reducible refine (MX.out w12 _ M_12.out (dots_below Hz.out B12.out)).mono ?_; rintro e w13 ⟨x13, rfl, hx, hb⟩; have X_13 := Lib.hid hx; obtain ⟨xo13, xc13, rfl⟩ := dots_shape hx _ rfl; have J_13 := Lib.hid (dots_below J_12.out hb); have M_13 := Lib.hid (dots_below M_12.out hb); have B13 := Lib.hid (below_next B12.out hb); clear hb hx)
      | (go_at_call 25; with_reducible refine (MY.out w13 (dots_below Hu.out B13.out) (dots_below Hz.out B13.out)).mono ?_; rintro e w14 ⟨x14, rfl, hx, hb⟩; have Y_14 := Lib.hid hx; obtain ⟨xo14, xc14, rfl⟩ := dots_shape hx _ rfl; have J_14 := Lib.hid (dots_below J_13.out hb); have M_14 := Lib.hid (dots_below M_13.out hb); have X_14 := Lib.hid (dots_below X_13.out hb); have B14 := Lib.hid (below_next B13.out hb); clear hb hx)
      | (go_at_call 25; with_reducible refine (MZ.out w14 _ (dots_below Hv.out B14.out) Y_14.out).mono ?_; rintro e w15 ⟨x15, rfl, hx, hb⟩; have Z_15 := Lib.hid hx; obtain ⟨xo15, xc15, rfl⟩ := dots_shape hx _ rfl; have J_15 := Lib.hid (dots_below J_14.out hb); have M_15 := Lib.hid (dots_below M_14.out hb); have X_15 := Lib.hid (dots_below X_14.out hb); have B15 := Lib.hid (below_next B14.out hb); clear hb hx)
      | (go_at_call 12; with_reducible refine (SM.out w15 _ _ X_15.out Z_15.out).mono ?_; rintro e w16 ⟨rfl, hb⟩; have J_16 := Lib.hid (dots_below J_15.out hb); have M_16 := Lib.hid (dots_below M_15.out hb); have B16 := Lib.hid (below_next B15.out hb); clear hb))
    go_wp2_with (first
      | (go_at_call 23; with_reducible refine (JR.out w16 (dots_below Hu.out B16.out) (dots_below Hv.out B16.out)).mono ?_; rintro e w17 ⟨x17, rfl, hx, hb⟩; have R_17 := Lib.hid hx; obtain ⟨xo17, xc17, rfl⟩ := dots_shape hx _ rfl; have J_17 := Lib.hid (dots_below J_16.out hb); have M_17 := Lib.hid (dots_below M_16.out hb); have B17 := Lib.hid (below_next B16.out hb); clear hb hx)
      | (go_at_call 12; with_reducible refine (SJ.out w17 _ _ J_17.out R_17.out).mono ?_; rintro e w18 ⟨rfl, hb⟩; have J_18 := Lib.hid (dots_below J_17.out hb); have M_18 := Lib.hid (dots_below M_17.out hb); have B18 := Lib.hid (below_next B17.out hb); clear hb)
      | (go_at_call 25; with_reducible refine (MR.out w18 (dots_below Hu.out B18.out) (dots_below Hv.out B18.out)).mono ?_; rintro e w19 ⟨x19, rfl, hx, hb⟩; have R_19 := Lib.hid hx; obtain ⟨xo19, xc19, rfl⟩ := dots_shape hx _ rfl; have J_19 := Lib.hid (dots_below J_18.out hb); have M_19 := Lib.hid (dots_below M_18.out hb); have B19 := Lib.hid (below_next B18.out hb); clear hb hx)
      | (go_at_call 12; with_reducible refine (SR.out w19 _ _ M_19.out R_19.out).mono ?_; rintro e w20 ⟨rfl, hb⟩; have J_20 := Lib.hid (dots_below J_19.out hb); have M_20 := Lib.hid (dots_below M_19.out hb); have B20 := Lib.hid (below_next B19.out hb); clear hb)
      | (go_at_call 23; with_reducible refine (JA.out w20 _ (dots_below Hv.out B20.out) M_20.out).mono ?_; rintro e w21 ⟨x21, rfl, hx, hb⟩; have R_21 := Lib.hid hx; obtain ⟨xo21, xc21, rfl⟩ := dots_shape hx _ rfl; have J_21 := Lib.hid (dots_below J_20.out hb); have M_21 := Lib.hid (dots_below M_20.out hb); have B21 := Lib.hid (below_next B20.out hb); clear hb hx)
      | (go_at_call 12; with_reducible refine (SA.out w21 _ R_21.out (dots_below Hv.out B21.out)).mono ?_; rintro e w22 ⟨rfl, hb⟩; have J_22 := Lib.hid (dots_below J_21.out hb); have M_22 := Lib.hid (dots_below M_21.out hb); have B22 := Lib.hid (below_next B21.out hb); clear hb)
      | (go_at_call 25; with_reducible refine (MA.out w22 _ (dots_below Hv.out B22.out) J_22.out).mono ?_; rintro e w23 ⟨x23, rfl, hx, hb⟩; have R_23 := Lib.hid hx; obtain ⟨xo23, xc23, rfl⟩ := dots_shape hx _ rfl; have J_23 := Lib.hid (dots_below J_22.out hb); have M_23 := Lib.hid (dots_below M_22.out hb); have B23 := Lib.hid (below_next B22.out hb); clear hb hx)
      | (go_at_call 12; with_reducible refine (SB.out w23 _ R_23.out (dots_below Hv.out B23.out)).mono ?_; rintro e w24 ⟨rfl, hb⟩; have J_24 := Lib.hid (dots_below J_23.out hb); have M_24 := Lib.hid (dots_below M_23.out hb); have B24 := Lib.hid (below_next B23.out hb); clear hb)
      | (go_at_call 10; with_reducible refine (YJ.out w24 _ J_24.out).mono ?_; rintro e w25 ⟨rfl, hb⟩; have M_25 := Lib.hid (dots_below M_24.out hb); have B25 := Lib.hid (below_next B24.out hb); clear hb)
      | (go_at_call 10; with_reducible refine (YM.out w25 _ M_25.out).mono ?_; rintro e w26 ⟨rfl, hb⟩; have B26 := Lib.hid (below_next B25.out hb); clear hb))
    go_ret
    exact ⟨rfl, B26.out⟩
end Go.Proofs.YtoephjmjlhgjeaaDoor
