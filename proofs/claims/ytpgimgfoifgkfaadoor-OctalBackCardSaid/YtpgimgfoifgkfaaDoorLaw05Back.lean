/-
The walk of the statement that what was put is got, and what is got is put as it stood.
-/
import Derived.Test.YtpgimgfoifgkfaaDoorOctalFace
import Derived.Deep.DeepCutAuto
namespace Go.Proofs.YtpgimgfoifgkfaaDoor
open Go.RowKit
theorem oct12 (n : Int) : putErr n 12 = 0 ↔ 0 ≤ n ∧ n < 8589934592 := by
  have h8 : (8 : Nat) ^ 11 = 8589934592 := by decide
  rw [putErr_ok, show (12 : Int).toNat - 1 = 11 from rfl, h8]
  omega
/-- What is known of all answers, one fact each. -/
theorem back_facts (n : Int) (s b : List UInt8) :
    (putErr n 12 = 0 → getN (putT n 12) = n ∧ getErr (putT n 12) = 0 ∧ (putT n 12).length = 12) ∧
    (fieldErr s 100 = 0 → nameT (fieldT s 100) = s ∧ nameErr (fieldT s 100) = 0 ∧ (fieldT s 100).length = 100) ∧
    (getErr b = 0 → putErr (getN b) b.length = 0 ∧ putT (getN b) b.length = b) ∧
    (nameErr b = 0 → 1 ≤ b.length → b.length ≤ 255 → fieldErr (nameT b) b.length = 0 ∧ fieldT (nameT b) b.length = b) :=
  ⟨fun h => get_put n 12 h, fun h => ⟨(name_field s 100 h).1, (name_field s 100 h).2, fieldT_length s 100 h⟩, put_get b, fun h h1 h2 => field_name b h h1 h2⟩
theorem getN_bd (b : List UInt8) : -9223372036854775808 ≤ getN b ∧ getN b < 9223372036854775808 := by
  unfold getN
  by_cases h : isOct b = true
  · rw [if_pos h]
    obtain ⟨h1, h2, h3, h4⟩ := isOct_of h
    have h5 : 8 ^ (b.length - 1) ≤ 8 ^ 11 := Nat.pow_le_pow_right (by decide) (by omega)
    have h8 : (8 : Nat) ^ 11 = 8589934592 := by decide
    omega
  · rw [if_neg h]; omega
theorem fieldT_len (s : List UInt8) (w : Int) (hw : w ≤ 4611686018427387904) : (fieldT s w).length < 4611686018427387904 := by
  by_cases h : fieldErr s w = 0
  · obtain ⟨h1, h2, h3, h4⟩ := (fieldErr_ok s w).1 h
    rw [fieldT_length s w h]; omega
  · rw [fieldT, if_neg h]; simp
theorem nameT_len (b : List UInt8) : (nameT b).length ≤ b.length := by
  unfold nameT
  split
  · unfold headL; exact (List.takeWhile_sublist _).length_le
  · simp
theorem putT_len (n w : Int) : (putT n w).length < 4611686018427387904 := by
  by_cases h : putErr n w = 0
  · rw [(get_put n w h).2.2]
    have := ((putErr_ok n w).1 h).2.1; omega
  · rw [putT, if_neg h]; simp
set_option maxRecDepth 100000 in
set_option maxHeartbeats 8000000 in
theorem octalBack_walk (F : OctalFace) (G : NameFace) (n : Int) (s b : List UInt8) (hn : -9223372036854775808 ≤ n ∧ n < 9223372036854775808) (hs : s.length < 4611686018427387904) (hb : b.length < 4611686018427387904) (v : Value) (w : World) (hv : HasText w v b) :
    Calls Tryd.prog 4 #[.int .i64 n, .string (str s), v] w fun e w' => e = .returned (.bool true) ∧ Below w.heap.size w w' := by
  have HV := Lib.hid hv
  obtain ⟨ao, cap, rfl, -⟩ := hv
  obtain ⟨m, hm⟩ : ∃ m, m = (b.map w8).length := ⟨_, rfl⟩
  rw [← hm] at HV ⊢
  rw [List.length_map] at hm
  obtain ⟨f1, f2, f3, f4⟩ := back_facts n s b
  have hg := getN_bd b
  have hnl := nameT_len b
  have P1 := Lib.hid (fun w => F.put w n 12 hn.1 hn.2 (by decide) (by decide))
  have G1 := Lib.hid (fun w v hv => F.get w v (putT n 12) (putT_len n 12) hv)
  have X1 := Lib.hid (fun w => F.text w s 100 hs (by decide) (by decide))
  have N1 := Lib.hid (fun w v hv => G.name w v (fieldT s 100) (fieldT_len s 100 (by decide)) hv)
  have G2 := Lib.hid (fun w v hv => F.get w v b hb hv)
  have P2 := Lib.hid (fun w => F.put w (getN b) (m : Int) hg.1 hg.2 (by omega) (by omega))
  have N2 := Lib.hid (fun w v hv => G.name w v b hb hv)
  have X2 := Lib.hid (fun w => F.text w (nameT b) (m : Int) (by omega) (by omega) (by omega))
  have f5 := oct12 n
  rw [← hm] at f3 f4
  generalize putErr n 12 = E1 at *
  generalize hT1 : putT n 12 = T1 at *
  generalize getErr T1 = ge1 at *
  generalize getN T1 = g1 at *
  generalize fieldErr s 100 = E2 at *
  generalize hT2 : fieldT s 100 = T2 at *
  generalize nameErr T2 = ne2 at *
  generalize nameT T2 = t2 at *
  generalize getN b = g3 at *
  generalize getErr b = ge3 at *
  generalize putErr g3 (m : Int) = E3 at *
  generalize putT g3 (m : Int) = T3 at *
  generalize nameT b = t4 at *
  generalize nameErr b = ne4 at *
  generalize fieldErr t4 (m : Int) = E4 at *
  generalize fieldT t4 (m : Int) = T4 at *
  have F1 := Lib.hid f1
  have F2 := Lib.hid f2
  have F3 := Lib.hid f3
  have F4 := Lib.hid f4
  have F5 := Lib.hid f5
  have hb1 : (str b).toList = b := str_toList b
  have hs1 : (str s).toList = s := str_toList s
  have ht2 : (str t2).toList = t2 := str_toList t2
  have ht3 : (str T3).toList = T3 := str_toList T3
  have ht4 : (str T4).toList = T4 := str_toList T4
  clear f1 f2 f3 f4 f5 hg hnl hn hs hb hT1 hT2 hm
  go_enter Tryd.func4, Tryd.ntmps4
  go_upto_if 31 with (first
    | (go_at_call 5; refine (awake5_any F _).mono ?_; rintro e w1 ⟨rfl, hb⟩; have H1 := Lib.hid hb; clear hb)
    | (go_at_call 12; refine (P1.out _).mono ?_; rintro e w2 ⟨v1, rfl, ht, hb⟩; have HT := Lib.hid ht; have H2 := Lib.hid (below_next H1.out hb); clear ht hb H1))
  go_cut [7] (fun s7 wx => s7 = .bool true ∧ Below w.heap.size w wx)
  case first =>
    rename_i JJ KK hJJ hKK
    have HJJ := Lib.hid hJJ
    have HKK := Lib.hid hKK
    clear hJJ hKK
    by_cases hE : E1 = 0
    · subst hE
      obtain ⟨rfl, rfl, hlen⟩ := F1.out rfl
      obtain ⟨ao1, cap1, e1, -⟩ := HT.out
      rw [List.length_map, hlen] at e1
      subst e1
      clear hlen hb1 hs1 ht2 ht3 ht4 F1 F2 F3 F4 F5
      go_wp2_with (first | (go_at_call 13; refine (G1.out _ _ HT.out).mono ?_; rintro e w3 ⟨rfl, hb⟩; have H3 := Lib.hid (below_next H2.out hb); clear hb))
      refine HKK.out _ _ ?_
      have hJJ := HJJ.out
      go_meet
      exact ⟨rfl, H3.out⟩
    · clear F1 F2 F3 F4 F5
      go_wp2_with fail
      refine HKK.out _ _ ?_
      have hJJ := HJJ.out
      go_meet
      exact ⟨rfl, H2.out⟩
  case rest =>
    obtain ⟨rfl, b2⟩ := hcut
    have B2 := Lib.hid b2
    clear b2 H2 HT
    go_upto_if 55 with (first
      | (go_at_call 6; refine (X1.out _).mono ?_; rintro e w2 ⟨v1, rfl, ht, hb⟩; have HT := Lib.hid ht; have H2 := Lib.hid (below_next B2.out hb); clear ht hb))
    go_cut [7] (fun s7 wx => s7 = .bool true ∧ Below w.heap.size w wx)
    case first =>
      rename_i JJ KK hJJ hKK
      have HJJ := Lib.hid hJJ
      have HKK := Lib.hid hKK
      clear hJJ hKK
      by_cases hE : E2 = 0
      · subst hE
        obtain ⟨rfl, rfl, hlen⟩ := F2.out rfl
        obtain ⟨ao1, cap1, e1, -⟩ := HT.out
        rw [List.length_map, hlen] at e1
        subst e1
        clear hlen hb1 hs1 ht2 ht3 ht4 F1 F2 F3 F4 F5
        go_wp2_with (first | (go_at_call 8; refine (N1.out _ _ HT.out).mono ?_; rintro e w3 ⟨rfl, hb⟩; have H3 := Lib.hid (below_next H2.out hb); clear hb))
        refine HKK.out _ _ ?_
        have hJJ := HJJ.out
        go_meet
        exact ⟨rfl, H3.out⟩
      · clear F1 F2 F3 F4 F5
        go_wp2_with fail
        refine HKK.out _ _ ?_
        have hJJ := HJJ.out
        go_meet
        exact ⟨rfl, H2.out⟩
    case rest =>
      obtain ⟨rfl, b3⟩ := hcut
      have B3 := Lib.hid b3
      clear b3 H2 HT B2
      go_upto_region 14 with (first
        | (go_at_call 13; refine (G2.out _ _ (text_keep HV.out B3.out)).mono ?_; rintro e w4 ⟨rfl, hb⟩; have H4 := Lib.hid (below_next B3.out hb); clear hb)
        | (go_at_call 12; refine (P2.out _).mono ?_; rintro e w5 ⟨v3, rfl, ht, hb⟩; have HT := Lib.hid ht; have H5 := Lib.hid (below_next H4.out hb); have cv1 := conv_text Tryd.underlying22 Tryd.underlying5 Tryd.underlying9 ht; have cv2 := conv_text Tryd.underlying22 Tryd.underlying5 Tryd.underlying9 (text_keep HV.out H5.out); clear ht hb))
      go_cut [97] (fun s97 wx => s97 = .bool false ∧ Below w.heap.size w wx)
      case first =>
        rename_i JJ KK hJJ hKK
        have HJJ := Lib.hid hJJ
        have HKK := Lib.hid hKK
        clear hJJ hKK
        by_cases hE : ge3 = 0
        · subst hE
          obtain ⟨rfl, rfl⟩ := F3.out rfl
          clear F1 F2 F3 F4 F5
          go_wp2_with fail
          refine HKK.out _ _ ?_
          have hJJ := HJJ.out
          go_meet
          exact ⟨rfl, H5.out⟩
        · clear F1 F2 F3 F4 F5
          go_wp2_with fail
          refine HKK.out _ _ ?_
          have hJJ := HJJ.out
          go_meet
          exact ⟨rfl, H5.out⟩
      case rest =>
        obtain ⟨rfl, b4⟩ := hcut
        have B4 := Lib.hid b4
        clear b4 H5 HT B3 H4 cv1 cv2
        go_upto_region 18 with (first
          | (go_at_call 8; refine (N2.out _ _ (text_keep HV.out B4.out)).mono ?_; rintro e w4 ⟨rfl, hb⟩; have H4 := Lib.hid (below_next B4.out hb); clear hb)
          | (go_at_call 6; refine (X2.out _).mono ?_; rintro e w5 ⟨v3, rfl, ht, hb⟩; have HT := Lib.hid ht; have H5 := Lib.hid (below_next H4.out hb); have cv1 := conv_text Tryd.underlying22 Tryd.underlying5 Tryd.underlying9 ht; have cv2 := conv_text Tryd.underlying22 Tryd.underlying5 Tryd.underlying9 (text_keep HV.out H5.out); clear ht hb))
        go_cut [132] (fun s132 wx => s132 = .bool false ∧ Below w.heap.size w wx)
        case first =>
          rename_i JJ KK hJJ hKK
          have HJJ := Lib.hid hJJ
          have HKK := Lib.hid hKK
          clear hJJ hKK
          by_cases hE : ne4 = 0
          · subst hE
            by_cases hl1 : 1 ≤ m
            · by_cases hl2 : m ≤ 255
              · obtain ⟨rfl, rfl⟩ := F4.out rfl hl1 hl2
                have d1 : decide ((1 : Int) ≤ (m : Int)) = true := decide_eq_true (by omega)
                have d2 : decide ((m : Int) ≤ 255) = true := decide_eq_true (by omega)
                clear F1 F2 F3 F4 F5
                go_wp2_with fail
                refine HKK.out _ _ ?_
                have hJJ := HJJ.out
                go_meet
                exact ⟨rfl, H5.out⟩
              · have d1 : decide ((1 : Int) ≤ (m : Int)) = true := decide_eq_true (by omega)
                have d2 : decide ((m : Int) ≤ 255) = false := decide_eq_false (by omega)
                clear F1 F2 F3 F4 F5
                go_wp2_with fail
                refine HKK.out _ _ ?_
                have hJJ := HJJ.out
                go_meet
                exact ⟨rfl, H5.out⟩
            · have d1 : decide ((1 : Int) ≤ (m : Int)) = false := decide_eq_false (by omega)
              clear F1 F2 F3 F4 F5
              go_wp2_with fail
              refine HKK.out _ _ ?_
              have hJJ := HJJ.out
              go_meet
              exact ⟨rfl, H5.out⟩
          · clear F1 F2 F3 F4 F5
            go_wp2_with fail
            refine HKK.out _ _ ?_
            have hJJ := HJJ.out
            go_meet
            exact ⟨rfl, H5.out⟩
        case rest =>
          obtain ⟨rfl, b5⟩ := hcut
          have B5 := Lib.hid b5
          clear b5 H5 HT B4 H4 cv1 cv2 F1 F2 F3 F4
          by_cases h0 : 0 ≤ n
          · have d1 : decide ((0 : Int) ≤ n) = true := decide_eq_true h0
            by_cases h1 : n < 8589934592
            · have hE : E1 = 0 := F5.out.2 ⟨h0, h1⟩
              subst hE
              have d2 : decide (n < 8589934592) = true := decide_eq_true h1
              clear F5
              go_wp2_with fail
              go_ret
              exact ⟨rfl, B5.out⟩
            · have hE : ¬ E1 = 0 := fun e => h1 (F5.out.1 e).2
              have d2 : decide (n < 8589934592) = false := decide_eq_false h1
              clear F5
              go_wp2_with fail
              go_ret
              exact ⟨by show Ending.returned (.bool (!(E1 == 0))) = _; rw [show (E1 == 0) = false from beq_eq_false_iff_ne.2 hE]; rfl, B5.out⟩
          · have hE : ¬ E1 = 0 := fun e => h0 (F5.out.1 e).1
            have d1 : decide ((0 : Int) ≤ n) = false := decide_eq_false h0
            clear F5
            go_wp2_with fail
            go_ret
            exact ⟨by show Ending.returned (.bool (!(E1 == 0))) = _; rw [show (E1 == 0) = false from beq_eq_false_iff_ne.2 hE]; rfl, B5.out⟩
end Go.Proofs.YtpgimgfoifgkfaaDoor
