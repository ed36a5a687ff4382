/-
What the document's own answers for layer 6 return: a user's path, two fields' path, what lies below.
-/
import Derived.Test.YtjpmnobhkaebjaaDoorRef06Split
namespace Go.Proofs.YtjpmnobhkaebjaaDoor
open Go.RowKit
set_option maxHeartbeats 4000000 in
theorem refOwn_any (s : List UInt8) (hs : s.length < 1152921504606846976) (w : World) : Calls Tryd.prog 17 #[.string (str s)] w fun e w' => e = .returned (.bool (ownP s)) ∧ Below w.heap.size w w' := by
  obtain ⟨n, hn⟩ : ∃ n, n = s.length := ⟨_, rfl⟩
  have HN := Lib.hid hn
  have hsz : (str s).size = n := by rw [str_size, hn]
  have M1 := Lib.hid (refMay_any s (by omega))
  have M2 := Lib.hid (refMay_any (s ++ tail31) (by rw [List.length_append, show tail31.length = 17 from rfl]; omega))
  have a1 : ∀ w, (Op.stringOp .add (str s) ⟨#[126, 51, 49, 45, 49, 48, 57, 57, 53, 49, 49, 54, 50, 55, 55, 55, 54]⟩).run Tryd.prog w = .ok (.string (str (s ++ tail31))) w := fun w => add_str s tail31 (by rw [show tail31.length = 17 from rfl]; omega) w
  rw [← hn] at hs
  clear hn
  go_enter Tryd.func17, Tryd.ntmps17
  go_wp2
  go_loopw [3] (fun i wr => wr = w ∧ ∃ k : Nat, k ≤ n ∧ i = .int .i64 k ∧ ∀ j, j < k → s.getD j 0 ≠ 126) (fun i _ => n - (intOf i).toNat)
  case atStart => exact ⟨rfl, 0, by omega, rfl, fun j hj => by omega⟩
  case round =>
    obtain ⟨rfl, k, hk, rfl, hall⟩ := hrel
    have HA := Lib.hid hall
    clear hall
    by_cases hkn : k < n
    · obtain ⟨c, hc⟩ : ∃ c, s[k]? = some c := ⟨s[k]'(by have := HN.out; omega), List.getElem?_eq_getElem _⟩
      have i1 := fun w => index_str (P := Tryd.prog) w s .i64 k c hc Tryd.underlying9
      obtain ⟨x, hx⟩ : ∃ x, c.toNat = x := ⟨_, rfl⟩
      rw [hx] at i1
      have HX := Lib.hid (And.intro (show s.getD k 0 = c by rw [List.getD_eq_getElem?_getD, hc]; rfl) hx)
      have HM := Lib.hid (List.mem_of_getElem? hc)
      have q1 : (k : Int) < (n : Int) := by omega
      clear hc hx
      by_cases h126 : x = 126
      · subst h126
        have HP := Lib.hid (show ownP s = false by
          cases h : ownP s with
          | false => rfl
          | true => exact absurd (show (126 : UInt8) ∈ s by rw [← show c = 126 from UInt8.toNat_inj.1 HX.out.2]; exact HM.out) ((own_iff s).1 h).1)
        go_wp2
        go_ret
        exact ⟨by rw [HP.out]; rfl, Below.refl _ _⟩
      · have t2 : ((x : Int) == 126) = false := beq_eq_false_iff_ne.2 (by omega)
        have HD := Lib.hid (show s.getD k 0 ≠ 126 from fun e => by rw [HX.out.1] at e; rw [e] at HX; exact h126 HX.out.2.symm)
        clear h126
        go_wp2
        go_roundw
        case rel => exact ⟨trivial, k + 1, by omega, by go_num, fun j h2 => by
          rcases Nat.lt_or_ge j k with h | h
          · exact HA.out j h
          · obtain rfl : j = k := by omega
            exact HD.out⟩
        case measure => simp [intOf]; omega
    · obtain rfl : k = n := by omega
      have HP := Lib.hid (show ownP s = (mayP s && (decide (k ≤ 200) && mayP (s ++ tail31))) by
        have : (126 : UInt8) ∉ s := fun hm => by
          obtain ⟨j, hj, e⟩ := List.mem_iff_getElem.1 hm
          exact HA.out j (by rw [HN.out]; exact hj) (by rw [List.getD_eq_getElem?_getD, List.getElem?_eq_getElem hj, Option.getD_some, e])
        rw [ownP, ← HN.out, List.contains_eq_mem, decide_eq_false this]; rfl)
      cases h1 : mayP s with
      | false =>
        rw [h1] at M1 HP
        clear h1
        go_wp2_with (first | (go_at_call 15; with_reducible refine (M1.out _).mono ?_; rintro e w1 ⟨rfl, hb⟩; have H1 := Lib.hid hb; clear hb))
        go_ret
        exact ⟨by rw [HP.out]; rfl, H1.out⟩
      | true =>
        rw [h1] at M1 HP
        clear h1
        by_cases h200 : k ≤ 200
        · have d1 : decide ((k : Int) ≤ 200) = true := decide_eq_true (by omega)
          have d2 : decide (k ≤ 200) = true := decide_eq_true h200
          rw [d2] at HP
          clear h200 d2
          go_wp2_with (first
            | (go_at_call 15; with_reducible refine (M1.out wr).mono ?_; rintro e w1 ⟨rfl, hb⟩; have H1 := Lib.hid hb; clear hb)
            | (go_at_call 15; with_reducible refine (M2.out w1).mono ?_; rintro e w2 ⟨rfl, hb⟩; have H2 := Lib.hid (below_next H1.out hb); clear hb))
          go_ret
          exact ⟨by rw [HP.out]; rfl, H2.out⟩
        · have d1 : decide ((k : Int) ≤ 200) = false := decide_eq_false (by omega)
          have d2 : decide (k ≤ 200) = false := decide_eq_false h200
          rw [d2] at HP
          clear h200 d2
          go_wp2_with (first
            | (go_at_call 15; with_reducible refine (M1.out wr).mono ?_; rintro e w1 ⟨rfl, hb⟩; have H1 := Lib.hid hb; clear hb))
          go_ret
          exact ⟨by rw [HP.out]; rfl, H1.out⟩
set_option maxHeartbeats 4000000 in
theorem refJoin_any (p n : List UInt8) (hp : p.length < 1152921504606846976) (hn : n.length < 1152921504606846976) (w : World) : Calls Tryd.prog 13 #[.string (str p), .string (str n)] w fun e w' => e = .returned (.tuple #[.string (str (joinT p n)), .int .i64 (joinErr p n)]) ∧ Below w.heap.size w w' := by
  have hlp : (str p).toList = p := str_toList p
  have hln : (str n).toList = n := str_toList n
  obtain ⟨s, hs⟩ : ∃ s, s = joinS p n := ⟨_, rfl⟩
  have hsl : s.length < 4611686018427387904 := by
    rw [hs, joinS]; split
    · omega
    · rw [List.length_append, List.length_cons]; omega
  have HS := Lib.hid (refSplit_any s hsl)
  have hla : (str (splitA s)).toList = splitA s := str_toList _
  have hlb : (str (splitB s)).toList = splitB s := str_toList _
  have HJ : joinOk p n = ((splitErr s == 0) && (splitA s == p && splitB s == n)) := by
    rw [joinOk, ← hs]
    cases hr : splitR s with
    | none => simp [splitErr, hr]
    | some x => obtain ⟨a, b⟩ := x; rw [Bool.eq_iff_iff]; simp [splitErr, splitA, splitB, hr]
  have HJT := Lib.hid (show joinOk p n = true → joinT p n = s ∧ joinErr p n = 0 from fun h => by rw [joinT, joinErr, if_pos h, if_pos h, hs]; exact ⟨rfl, rfl⟩)
  have HJF := Lib.hid (show joinOk p n = false → joinT p n = [] ∧ joinErr p n = 9 from fun h => by rw [joinT, joinErr, h]; exact ⟨rfl, rfl⟩)
  have HJJ := Lib.hid HJ
  clear HJ hsl
  generalize splitErr s = E at *
  generalize splitA s = A at *
  generalize splitB s = B at *
  have HSS := Lib.hid hs
  have part : ∀ Q : Prop, ((A == p) = true → (B == n) = true → E = 0 → joinOk p n = true → Q) → (E = 0 → (A == p) = true → (B == n) = false → joinOk p n = false → Q) → (E = 0 → (A == p) = false → joinOk p n = false → Q) → (¬ E = 0 → joinOk p n = false → Q) → Q := fun Q c1 c2 c3 c4 => by
    have hj := HJJ.out
    by_cases h0 : E = 0
    · subst h0
      cases h1 : (A == p) with
      | true =>
        cases h2 : (B == n) with
        | true => exact c1 h1 h2 rfl (by rw [hj, h1, h2]; rfl)
        | false => exact c2 rfl h1 h2 (by rw [hj, h1, h2]; rfl)
      | false => exact c3 rfl h1 (by rw [hj, h1]; rfl)
    · exact c4 h0 (by rw [hj, show (E == 0) = false from beq_eq_false_iff_ne.2 h0]; rfl)
  have HPT := Lib.hid part
  clear part
  by_cases hp0 : p = []
  · have e1 : (p == []) = true := by rw [beq_iff_eq]; exact hp0
    have e2 : s = n := by rw [HSS.out, joinS, if_pos hp0]
    have HE := Lib.hid e2
    clear hs hp hn e2
    have HS' := Lib.hid (fun w => by have := HS.out w; rwa [HE.out] at this)
    clear hp0
    refine HPT.out _ (fun t1 t2 t3 t4 => ?_) (fun t1 t2 t3 t4 => ?_) (fun t1 t2 t4 => ?_) (fun t1 t4 => ?_)
    · have HR := Lib.hid (HJT.out t4)
      subst t3
      clear t4
      go_enter Tryd.func13, Tryd.ntmps13
      go_wp2_with (first | (go_at_call 11; refine (HS'.out _).mono ?_; rintro e w1 ⟨rfl, hb⟩; have H1 := Lib.hid hb; clear hb))
      go_ret2
      exact ⟨by rw [HR.out.1, HR.out.2, HE.out]; try rfl, H1.out⟩
    all_goals
      have HR := Lib.hid (HJF.out t4)
      clear t4
      try subst t1
      go_enter Tryd.func13, Tryd.ntmps13
      go_wp2_with (first | (go_at_call 11; refine (HS'.out _).mono ?_; rintro e w1 ⟨rfl, hb⟩; have H1 := Lib.hid hb; clear hb))
      go_ret2
      exact ⟨by rw [HR.out.1, HR.out.2]; try rfl, H1.out⟩
  · have e1 : (p == []) = false := by rw [beq_eq_false_iff_ne]; exact hp0
    obtain ⟨q, hq⟩ : ∃ q, q = p ++ [47] := ⟨_, rfl⟩
    have a1 : ∀ w, (Op.stringOp .add (str p) ⟨#[47]⟩).run Tryd.prog w = .ok (.string (str q)) w := fun w => by rw [hq]; exact add_str p [47] (by simp; omega) w
    have a2 : ∀ w, (Op.stringOp .add (str q) (str n)).run Tryd.prog w = .ok (.string (str s)) w := fun w => by
      have := add_str (P := Tryd.prog) q n (by rw [hq]; simp; omega) w
      rw [this, HSS.out, joinS, if_neg hp0, hq]; simp
    clear hs hp hn hq hp0
    refine HPT.out _ (fun t1 t2 t3 t4 => ?_) (fun t1 t2 t3 t4 => ?_) (fun t1 t2 t4 => ?_) (fun t1 t4 => ?_)
    · have HR := Lib.hid (HJT.out t4)
      subst t3
      clear t4
      go_enter Tryd.func13, Tryd.ntmps13
      go_wp2_with (first | (go_at_call 11; refine (HS.out _).mono ?_; rintro e w1 ⟨rfl, hb⟩; have H1 := Lib.hid hb; clear hb))
      go_ret2
      exact ⟨by rw [HR.out.1, HR.out.2]; try rfl, H1.out⟩
    all_goals
      have HR := Lib.hid (HJF.out t4)
      clear t4
      try subst t1
      go_enter Tryd.func13, Tryd.ntmps13
      go_wp2_with (first | (go_at_call 11; refine (HS.out _).mono ?_; rintro e w1 ⟨rfl, hb⟩; have H1 := Lib.hid hb; clear hb))
      go_ret2
      exact ⟨by rw [HR.out.1, HR.out.2]; try rfl, H1.out⟩
end Go.Proofs.YtjpmnobhkaebjaaDoor
