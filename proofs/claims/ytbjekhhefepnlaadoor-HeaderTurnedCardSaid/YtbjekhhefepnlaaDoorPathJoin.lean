/-
Whether a text is a path, and two fields' path, walked over the landed code.
-/
import Derived.Test.YtbjekhhefepnlaaDoorPathSplit
namespace Go.Proofs.YtbjekhhefepnlaaDoor
open Go.RowKit
set_option maxHeartbeats 4000000 in
theorem join_any (p n : List UInt8) (hp : p.length < 1152921504606846976) (hn : n.length < 1152921504606846976) (w : World) : Calls Tryd.prog 25 #[.string (str p), .string (str n)] w fun e w' => e = .returned (.tuple #[.string (str (joinT p n)), .int .i64 (joinErr p n)]) ∧ Below w.heap.size w w' := by
  have hlp : (str p).toList = p := str_toList p
  have hln : (str n).toList = n := str_toList n
  obtain ⟨s, hs⟩ : ∃ s, s = joinS p n := ⟨_, rfl⟩
  have hsl : s.length < 4611686018427387904 := by
    rw [hs, joinS]; split
    · omega
    · rw [List.length_append, List.length_cons]; omega
  have HS := Lib.hid (split_any s hsl)
  have hla : (str (splitA s)).toList = splitA s := str_toList _
  have hlb : (str (splitB s)).toList = splitB s := str_toList _
  have HJ : joinOk p n = ((splitErr s == 0) && (splitA s == p && splitB s == n)) := by
    rw [joinOk, ← hs]
    cases hr : splitR s with
    | none => simp [splitErr, hr]
    | some x => obtain ⟨a, b⟩ := x; rw [Bool.eq_iff_iff]; simp [splitErr, splitA, splitB, hr]
  have HJT := Lib.hid (show joinOk p n = true → joinT p n = s ∧ joinErr p n = 0 from fun h => by rw [joinT, joinErr, if_pos h, if_pos h, hs]; exact ⟨rfl, rfl⟩)
  have HJF := Lib.hid (show joinOk p n = false → joinT p n = [] ∧ joinErr p n = 9 from fun h => by rw [joinT, joinErr, h]; exact ⟨rfl, rfl⟩)
  have HJJ := Lib.hid HJ
  clear HJ hsl
  generalize splitErr s = E at *
  generalize splitA s = A at *
  generalize splitB s = B at *
  have HSS := Lib.hid hs
  have part : ∀ Q : Prop, ((A == p) = true → (B == n) = true → E = 0 → joinOk p n = true → Q) → (E = 0 → (A == p) = true → (B == n) = false → joinOk p n = false → Q) → (E = 0 → (A == p) = false → joinOk p n = false → Q) → (¬ E = 0 → joinOk p n = false → Q) → Q := fun Q c1 c2 c3 c4 => by
    have hj := HJJ.out
    by_cases h0 : E = 0
    · subst h0
      cases h1 : (A == p) with
      | true =>
        cases h2 : (B == n) with
        | true => exact c1 h1 h2 rfl (by rw [hj, h1, h2]; rfl)
        | false => exact c2 rfl h1 h2 (by rw [hj, h1, h2]; rfl)
      | false => exact c3 rfl h1 (by rw [hj, h1]; rfl)
    · exact c4 h0 (by rw [hj, show (E == 0) = false from beq_eq_false_iff_ne.2 h0]; rfl)
  have HPT := Lib.hid part
  clear part
  by_cases hp0 : p = []
  · have e1 : (p == []) = true := by rw [beq_iff_eq]; exact hp0
    have e2 : s = n := by rw [HSS.out, joinS, if_pos hp0]
    have HE := Lib.hid e2
    clear hs hp hn e2
    have HS' := Lib.hid (fun w => by have := HS.out w; rwa [HE.out] at this)
    clear hp0
    refine HPT.out _ (fun t1 t2 t3 t4 => ?_) (fun t1 t2 t3 t4 => ?_) (fun t1 t2 t4 => ?_) (fun t1 t4 => ?_)
    · have HR := Lib.hid (HJT.out t4)
      subst t3
      clear t4
      go_enter Tryd.func25, Tryd.ntmps25
      go_wp2_with (first | (go_at_call 30; refine (HS'.out _).mono ?_; rintro e w1 ⟨rfl, hb⟩; have H1 := Lib.hid hb; clear hb))
      go_ret2
      exact ⟨by rw [HR.out.1, HR.out.2, HE.out]; try rfl, H1.out⟩
    all_goals
      have HR := Lib.hid (HJF.out t4)
      clear t4
      try subst t1
      go_enter Tryd.func25, Tryd.ntmps25
      go_wp2_with (first | (go_at_call 30; refine (HS'.out _).mono ?_; rintro e w1 ⟨rfl, hb⟩; have H1 := Lib.hid hb; clear hb))
      go_ret2
      exact ⟨by rw [HR.out.1, HR.out.2]; try rfl, H1.out⟩
  · have e1 : (p == []) = false := by rw [beq_eq_false_iff_ne]; exact hp0
    obtain ⟨q, hq⟩ : ∃ q, q = p ++ [47] := ⟨_, rfl⟩
    have a1 : ∀ w, (Op.stringOp .add (str p) ⟨#[47]⟩).run Tryd.prog w = .ok (.string (str q)) w := fun w => by rw [hq]; exact add_str p [47] (by simp; omega) w
    have a2 : ∀ w, (Op.stringOp .add (str q) (str n)).run Tryd.prog w = .ok (.string (str s)) w := fun w => by
      have := add_str (P := Tryd.prog) q n (by rw [hq]; simp; omega) w
      rw [this, HSS.out, joinS, if_neg hp0, hq]; simp
    clear hs hp hn hq hp0
    refine HPT.out _ (fun t1 t2 t3 t4 => ?_) (fun t1 t2 t3 t4 => ?_) (fun t1 t2 t4 => ?_) (fun t1 t4 => ?_)
    · have HR := Lib.hid (HJT.out t4)
      subst t3
      clear t4
      go_enter Tryd.func25, Tryd.ntmps25
      go_wp2_with (first | (go_at_call 30; refine (HS.out _).mono ?_; rintro e w1 ⟨rfl, hb⟩; have H1 := Lib.hid hb; clear hb))
      go_ret2
      exact ⟨by rw [HR.out.1, HR.out.2]; try rfl, H1.out⟩
    all_goals
      have HR := Lib.hid (HJF.out t4)
      clear t4
      try subst t1
      go_enter Tryd.func25, Tryd.ntmps25
      go_wp2_with (first | (go_at_call 30; refine (HS.out _).mono ?_; rintro e w1 ⟨rfl, hb⟩; have H1 := Lib.hid hb; clear hb))
      go_ret2
      exact ⟨by rw [HR.out.1, HR.out.2]; try rfl, H1.out⟩
end Go.Proofs.YtbjekhhefepnlaaDoor
