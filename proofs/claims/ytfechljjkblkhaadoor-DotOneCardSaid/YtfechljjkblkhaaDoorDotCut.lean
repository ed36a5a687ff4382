/-
A text cut at its first colon, as the library does it.
-/
import Derived.Test.YtfechljjkblkhaaDoorRef09Parse
import Derived.Test.YtfechljjkblkhaaDoorShelf
namespace Go.Proofs.YtfechljjkblkhaaDoor
open Go.RowKit
/-- The first colon. -/
theorem index_colon (s : List UInt8) : (s.contains 58 = false ∧ Lib.indexByte s 58 = -1 ∧ aheadD s = s ∧ behindD s = []) ∨ ∃ k : Nat, k < s.length ∧ Lib.indexByte s 58 = (k : Int) ∧ aheadD s = s.take k ∧ behindD s = s.drop (k + 1) ∧ s.contains 58 = true := by
  have hge := Lib.indexByte_ge s 58
  by_cases h : Lib.indexByte s 58 = -1
  · have hn : (58 : UInt8) ∉ s := fun hm => by
      obtain ⟨j, hj, e⟩ := List.mem_iff_getElem.1 hm
      exact absurd (by rw [List.getElem?_eq_getElem hj, e]) (Lib.indexByte_none h j)
    have ha : aheadD s = s := by
      unfold aheadD
      have : ∀ l : List UInt8, (58 : UInt8) ∉ l → l.takeWhile (· != 58) = l := by
        intro l
        induction l with
        | nil => intro _; rfl
        | cons c r ih =>
          intro hl
          have hc : c ≠ 58 := fun e => hl (by rw [e]; exact List.mem_cons_self)
          rw [List.takeWhile_cons_of_pos (by simpa using hc), ih fun hm => hl (List.mem_cons_of_mem _ hm)]
      exact this s hn
    refine .inl ⟨?_, h, ha, ?_⟩
    · rw [Bool.eq_false_iff, ne_eq, List.contains_iff_mem]; exact hn
    · unfold behindD; rw [ha]; exact List.drop_of_length_le (by omega)
  · obtain ⟨k, hk⟩ : ∃ k : Nat, Lib.indexByte s 58 = (k : Int) := ⟨(Lib.indexByte s 58).toNat, by omega⟩
    obtain ⟨h1, h2⟩ := Lib.indexByte_some hk
    have hlt : k < s.length := (List.getElem?_eq_some_iff.1 h1).1
    obtain ⟨a1, a2, a3⟩ := ahead_at (s := s) (k := k) hlt (by rw [List.getD_eq_getElem?_getD, h1]; rfl) (fun j hj e => by
      refine h2 j hj ?_
      rw [List.getD_eq_getElem?_getD] at e
      rw [List.getElem?_eq_getElem (by omega)] at e ⊢
      exact congrArg some e)
    exact .inr ⟨k, hlt, hk, a1, a2, a3⟩
set_option maxHeartbeats 4000000 in
theorem liteCut_any (s : List UInt8) (hs : s.length < 1152921504606846976) (w : World) : Calls Tryd.prog 30 #[.string (str s), .string ⟨#[58]⟩] w fun e w' => e = .returned (.tuple #[.string (str (aheadD s)), .string (str (behindD s)), .bool (s.contains 58)]) ∧ Below w.heap.size w w' := by
  have HX := Lib.hid (show ∀ w, Calls Tryd.prog 33 #[.string (str s), .string ⟨#[58]⟩] w fun e w' => e = .returned (.int .i64 (Lib.indexByte s 58)) ∧ w = w' from fun w => by
    refine (Tryd.stringslite_Index_one (str s) 58 w).mono fun e w' h => ?_
    rw [show (str s).data.toList = s from by simp [str]] at h
    exact ⟨h.1, h.2.symm⟩)
  have s2 : (ByteArray.mk #[58]).size = 1 := rfl
  rcases index_colon s with ⟨c1, c2, c3, c4⟩ | ⟨k, hk, c2, c3, c4, c1⟩
  · rw [c2] at HX
    rw [c1, c3, c4]
    clear c1 c2 c3 c4
    go_enter Tryd.func30, Tryd.ntmps30
    go_wp2_with (first | (go_at_call 33; refine (HX.out _).mono ?_; rintro e w1 ⟨rfl, rfl⟩))
    go_ret3
    exact ⟨rfl, Below.refl _ _⟩
  · rw [c2] at HX
    rw [c1, c3, c4]
    have q1 : decide ((k : Int) ≥ 0) = true := decide_eq_true (by omega)
    obtain ⟨k1, hk1⟩ : ∃ k1, k1 = k + 1 := ⟨_, rfl⟩
    have e1 : wrap64 ((k : Int) + 1) = (k1 : Int) := by rw [wrap64]; omega
    have s3 : ∀ w, (Instr.slice 9 (.string (str s)) none (some (.int .i64 (k : Int))) none).run Tryd.prog w = .ok (.string (str (s.take k))) w := fun w => slice_upto w 9 s k (by omega) Tryd.underlying9
    have s4 : ∀ w, (Instr.slice 9 (.string (str s)) (some (.int .i64 (k1 : Int))) none none).run Tryd.prog w = .ok (.string (str (s.drop k1))) w := fun w => slice_rest w 9 s k1 (by omega) Tryd.underlying9
    rw [← hk1]
    generalize s.take k = X at *
    generalize s.drop k1 = Y at *
    clear c1 c2 c3 c4 hk hk1 hs
    go_enter Tryd.func30, Tryd.ntmps30
    go_wp2_with (first | (go_at_call 33; refine (HX.out _).mono ?_; rintro e w1 ⟨rfl, rfl⟩))
    go_quiet (fail)
    have B1 := Lib.hid (below_draws (Below.refl w.heap.size w) nq)
    generalize w.drewN nq = W1 at *
    go_wp2
    go_ret3
    exact ⟨rfl, B1.out⟩
set_option maxHeartbeats 4000000 in
theorem cut_any (s : List UInt8) (hs : s.length < 1152921504606846976) (w : World) : Calls Tryd.prog 24 #[.string (str s), .string ⟨#[58]⟩] w fun e w' => e = .returned (.tuple #[.string (str (aheadD s)), .string (str (behindD s)), .bool (s.contains 58)]) ∧ Below w.heap.size w w' := by
  have HC := Lib.hid (fun w => liteCut_any s hs w)
  generalize aheadD s = X at *
  generalize behindD s = Y at *
  generalize s.contains 58 = c at *
  clear hs
  go_enter Tryd.func24, Tryd.ntmps24
  go_wp2_with (first | (go_at_call 30; refine (HC.out _).mono ?_; rintro e W1 ⟨rfl, hb⟩; have B1 := Lib.hid hb; clear hb))
  go_ret3
  exact ⟨rfl, B1.out⟩
end Go.Proofs.YtfechljjkblkhaaDoor
