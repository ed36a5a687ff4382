/-
The walk of the statement that a path is joined of its two fields, and what is joined has these.
-/
import Derived.Test.YtjpmnobhkaebjaaDoorPathFace
import Derived.Deep.DeepCutAuto
namespace Go.Proofs.YtjpmnobhkaebjaaDoor
open Go.RowKit
theorem splitB_len (s : List UInt8) : (splitB s).length ≤ 100 := by
  unfold splitB
  cases h : splitR s with
  | none => simp
  | some x => exact (split_some (a := x.1) (b := x.2) h).2.2.2.1
theorem joinT_len (p n : List UInt8) : (joinT p n).length ≤ 254 := by
  by_cases h : joinErr p n = 0
  · exact (split_some (split_join h)).2.1
  · have : joinOk p n = false := by
      cases ho : joinOk p n with
      | false => rfl
      | true => rw [joinErr, if_pos ho] at h; exact absurd rfl h
    rw [joinT, this]; simp
theorem back6_facts (s p n : List UInt8) :
    (splitErr s = 0 → joinErr (splitA s) (splitB s) = 0 ∧ joinT (splitA s) (splitB s) = s ∧ (splitA s).length ≤ 155 ∧ (splitB s).length ≤ 100 ∧ (splitB s).length ≠ 0) ∧
    (joinErr p n = 0 → splitErr (joinT p n) = 0 ∧ splitA (joinT p n) = p ∧ splitB (joinT p n) = n) := by
  constructor
  · intro h
    unfold splitErr at h
    cases hr : splitR s with
    | none => rw [hr] at h; cases h
    | some x =>
      obtain ⟨a, b⟩ := x
      have e1 : splitA s = a := by simp [splitA, hr]
      have e2 : splitB s = b := by simp [splitB, hr]
      obtain ⟨k1, k2, k3, k4, k5, k6⟩ := split_some hr
      obtain ⟨j1, j2⟩ := join_split hr
      rw [e1, e2]
      exact ⟨j2, j1, k3, k4, fun e => k5 (List.eq_nil_of_length_eq_zero e)⟩
  · intro h
    have := split_join h
    simp [splitErr, splitA, splitB, this]
set_option maxRecDepth 100000 in
set_option maxHeartbeats 4000000 in
theorem pathBack_walk (F : PathFace) (s p n : List UInt8) (hs : s.length < 1152921504606846976) (hp : p.length < 1152921504606846976) (hn : n.length < 1152921504606846976) (w : World) (hT : PowTab w) :
    Calls Tryd.prog 5 #[.string (str s), .string (str p), .string (str n)] w fun e w' => e = .returned (.bool true) ∧ Below w.heap.size w w' := by
  have AW := Lib.hid (awake6_any F w hT)
  have S1 := Lib.hid (fun w => F.split w s hs)
  have la := splitA_len s
  have lb := splitB_len s
  have lt := joinT_len p n
  have J1 := Lib.hid (fun w => F.join w (splitA s) (splitB s) (by omega) (by omega))
  have J2 := Lib.hid (fun w => F.join w p n hp hn)
  have S2 := Lib.hid (fun w => F.split w (joinT p n) (by omega))
  have M1 := Lib.hid (fun w => F.may w s hs)
  obtain ⟨f1, f2⟩ := back6_facts s p n
  have f3 := splitErr_zero s
  obtain ⟨na, hna⟩ : ∃ na, na = (splitA s).length := ⟨_, rfl⟩
  obtain ⟨nb, hnb⟩ : ∃ nb, nb = (splitB s).length := ⟨_, rfl⟩
  have za : (str (splitA s)).size = na := by rw [str_size, hna]
  have zb : (str (splitB s)).size = nb := by rw [str_size, hnb]
  rw [← hna, ← hnb] at f1
  have ls : (str s).toList = s := str_toList s
  have lp : (str p).toList = p := str_toList p
  have ln : (str n).toList = n := str_toList n
  have lt1 : (str (joinT (splitA s) (splitB s))).toList = joinT (splitA s) (splitB s) := str_toList _
  have la2 : (str (splitA (joinT p n))).toList = splitA (joinT p n) := str_toList _
  have lb2 : (str (splitB (joinT p n))).toList = splitB (joinT p n) := str_toList _
  clear la lb lt hs hp hn hT hna hnb
  generalize joinErr (splitA s) (splitB s) = e1 at *
  generalize joinT (splitA s) (splitB s) = T1 at *
  generalize splitErr s = E at *
  generalize splitA s = A at *
  generalize splitB s = B at *
  generalize joinErr p n = e2 at *
  generalize splitErr (joinT p n) = E2 at *
  generalize splitA (joinT p n) = A2 at *
  generalize splitB (joinT p n) = B2 at *
  generalize joinT p n = T2 at *
  generalize mayP s = m at *
  have F1 := Lib.hid f1
  have F2 := Lib.hid f2
  have F3 := Lib.hid f3
  clear f1 f2 f3
  go_enter Tryd.func5, Tryd.ntmps5
  go_upto_if 26 with (first
    | (go_at_call 9; refine AW.out.mono ?_; rintro e w1 ⟨rfl, hb⟩; have H1 := Lib.hid hb; clear hb)
    | (go_at_call 10; refine (S1.out _).mono ?_; rintro e w2 ⟨rfl, hb⟩; have H2 := Lib.hid (below_next H1.out hb); clear hb H1))
  go_cut [7] (fun s7 wx => s7 = .bool true ∧ Below w.heap.size w wx)
  case first =>
    rename_i JJ KK hJJ hKK
    have HJJ := Lib.hid hJJ
    have HKK := Lib.hid hKK
    clear hJJ hKK
    by_cases hE : E = 0
    · subst hE
      obtain ⟨rfl, rfl, k1, k2, k3⟩ := F1.out rfl
      have d1 : decide ((155 : Int) < (na : Int)) = false := decide_eq_false (by omega)
      have d2 : decide ((100 : Int) < (nb : Int)) = false := decide_eq_false (by omega)
      have d3 : ((nb : Int) == 0) = false := beq_eq_false_iff_ne.2 (by omega)
      clear k1 k2 k3 F1 F2 F3
      go_wp2_with (first | (go_at_call 12; refine (J1.out _).mono ?_; rintro e w3 ⟨rfl, hb⟩; have H3 := Lib.hid (below_next H2.out hb); clear hb))
      refine HKK.out _ _ ?_
      have hJJ := HJJ.out
      go_meet
      exact ⟨rfl, H3.out⟩
    · clear F1 F2 F3
      go_wp2_with fail
      refine HKK.out _ _ ?_
      have hJJ := HJJ.out
      go_meet
      exact ⟨rfl, H2.out⟩
  case rest =>
    obtain ⟨rfl, b2⟩ := hcut
    have B2' := Lib.hid b2
    clear b2 H2
    go_upto_region 9 with (first
      | (go_at_call 12; refine (J2.out _).mono ?_; rintro e w3 ⟨rfl, hb⟩; have H3 := Lib.hid (below_next B2'.out hb); clear hb)
      | (go_at_call 10; refine (S2.out _).mono ?_; rintro e w4 ⟨rfl, hb⟩; have H4 := Lib.hid (below_next H3.out hb); clear hb H3))
    go_cut [82] (fun s82 wx => s82 = .bool false ∧ Below w.heap.size w wx)
    case first =>
      rename_i JJ KK hJJ hKK
      have HJJ := Lib.hid hJJ
      have HKK := Lib.hid hKK
      clear hJJ hKK
      by_cases hE : e2 = 0
      · subst hE
        obtain ⟨rfl, rfl, rfl⟩ := F2.out rfl
        clear F1 F2 F3
        go_wp2_with fail
        refine HKK.out _ _ ?_
        have hJJ := HJJ.out
        go_meet
        exact ⟨rfl, H4.out⟩
      · clear F1 F2 F3
        go_wp2_with fail
        refine HKK.out _ _ ?_
        have hJJ := HJJ.out
        go_meet
        exact ⟨rfl, H4.out⟩
    case rest =>
      obtain ⟨rfl, b3⟩ := hcut
      have B3 := Lib.hid b3
      have f3 := F3.out
      clear b3 H4 B2' F1 F2 F3
      go_wp2_with (first | (go_at_call 14; refine (M1.out _).mono ?_; rintro e w5 ⟨rfl, hb⟩; have H5 := Lib.hid (below_next B3.out hb); clear hb))
      go_ret
      exact ⟨rfl, H5.out⟩
end Go.Proofs.YtjpmnobhkaebjaaDoor
