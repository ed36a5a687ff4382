/-
What the document's own Text returns for layer 5: a text as a field of some width.
-/
import Derived.Test.YtbjekhhefepnlaaDoorMark
import Derived.Test.YtbjekhhefepnlaaDoorRef05
namespace Go.Proofs.YtbjekhhefepnlaaDoor
open Go.RowKit
theorem infoByte : (Tryd.prog.info? 5).map (fun i => (i.zero, i.size, i.bytes)) = some (some (.int .u8 0), 1, 1) := by kernel_rfl
theorem field_bad {s : List UInt8} {w x : Int} (h : fieldErr s w = x) (hx : x ≠ 0) : fieldT s w = [] := by rw [fieldT, if_neg (by rw [h]; exact hx)]
theorem hasText_nil (w : World) : HasText w (.slice none 0 0) [] := ⟨none, 0, rfl, fun _ => ⟨rfl, rfl⟩, fun _ h => by cases h⟩
set_option maxHeartbeats 4000000 in
theorem refField_any (s : List UInt8) (hs : s.length < 4611686018427387904) (width : Int) (w : World) :
    Calls Tryd.prog 36 #[.string (str s), .int .i64 width] w fun e w' => ∃ v, e = .returned (.tuple #[v, .int .i64 (fieldErr s width)]) ∧ HasText w' v (fieldT s width) ∧ Below w.heap.size w w' := by
  obtain ⟨i0, hi, hz0, hz1, hz2⟩ := info_parts infoByte
  have hsz : (str s).size = s.length := str_size s
  by_cases h1 : width < 1
  · have HF := Lib.hid (show fieldErr s width = 1 from (fieldErr_width s width).2 (.inl h1))
    go_enter Tryd.func36, Tryd.ntmps36
    go_wp2
    go_ret2
    rw [HF.out, field_bad HF.out (by decide)]
    exact ⟨_, rfl, hasText_nil _, Below.refl _ _⟩
  · by_cases h255 : 255 < width
    · have HF := Lib.hid (show fieldErr s width = 1 from (fieldErr_width s width).2 (.inr h255))
      go_enter Tryd.func36, Tryd.ntmps36
      go_wp2
      go_ret2
      rw [HF.out, field_bad HF.out (by decide)]
      exact ⟨_, rfl, hasText_nil _, Below.refl _ _⟩
    · obtain ⟨n, hn⟩ : ∃ n, n = s.length := ⟨_, rfl⟩
      have HN := Lib.hid hn
      rw [← hn] at hsz hs
      clear hn
      obtain ⟨m, rfl⟩ : ∃ m : Nat, width = (m : Int) := ⟨width.toNat, by omega⟩
      go_enter Tryd.func36, Tryd.ntmps36
      go_wp2
      go_loopw [6] (fun c wr => wr = w ∧ ∃ k : Nat, k ≤ n ∧ c = .int .i64 k ∧ ∀ j, j < k → s.getD j 0 ≠ 0) (fun c _ => n - (intOf c).toNat)
      case atStart => exact ⟨rfl, 0, by omega, rfl, fun j hj => by omega⟩
      case round =>
        obtain ⟨rfl, k, hk, rfl, hall⟩ := hrel
        have HA := Lib.hid hall
        clear hall
        by_cases hlt : k < n
        · have q0 : (k : Int) < (n : Int) := by omega
          obtain ⟨c, hc⟩ : ∃ c, s[k]? = some c := ⟨s[k]'(by have := HN.out; omega), by simp⟩
          have hix := fun w => index_str (P := Tryd.prog) w s .i64 k c hc Tryd.underlying9
          obtain ⟨x, hx⟩ : ∃ x : Nat, x = c.toNat := ⟨_, rfl⟩
          rw [← hx] at hix
          have HX := Lib.hid hx
          have HC := Lib.hid (show s.getD k 0 = c by rw [List.getD_eq_getElem?_getD, hc]; rfl)
          have HM := Lib.hid (List.mem_of_getElem? hc)
          clear hx hc
          by_cases hz : x = 0
          · subst hz
            have HF := Lib.hid (show fieldErr s (m : Int) = 2 by
              have hcz : c = 0 := UInt8.toNat_inj.1 HX.out.symm
              rw [fieldErr, if_neg (by omega), if_pos (List.contains_iff_mem.2 (by rw [← hcz]; exact HM.out))])
            go_wp2
            go_ret2
            rw [HF.out, field_bad HF.out (by decide)]
            exact ⟨_, rfl, hasText_nil _, Below.refl _ _⟩
          · have d1 : ((x : Int) == 0) = false := by simp; omega
            go_wp2
            go_roundw
            case rel => exact ⟨trivial, k + 1, by omega, by go_num, fun j hj => by
              rcases Nat.lt_or_ge j k with h | h
              · exact HA.out j h
              · obtain rfl : j = k := by omega
                rw [HC.out]; intro h; rw [h] at HX; exact hz HX.out⟩
            case measure => simp [intOf]; omega
        · obtain rfl : k = n := by omega
          have HZ := Lib.hid (show s.contains 0 = false by
            rw [Bool.eq_false_iff]; intro h
            obtain ⟨j, hj, e⟩ := List.mem_iff_getElem.1 (List.contains_iff_mem.1 h)
            exact HA.out j (by rw [HN.out]; exact hj) (by rw [List.getD_eq_getElem?_getD, List.getElem?_eq_getElem hj, e]; rfl))
          by_cases hov : m < k
          · have q0 : (m : Int) < (k : Int) := by omega
            have HF := Lib.hid (show fieldErr s (m : Int) = 8 by rw [fieldErr, if_neg (by omega), HZ.out, if_neg (by decide), if_pos (by rw [← HN.out]; omega)])
            go_wp2
            go_ret2
            rw [HF.out, field_bad HF.out (by decide)]
            exact ⟨_, rfl, hasText_nil _, Below.refl _ _⟩
          · obtain ⟨wo, rfl⟩ : ∃ wo, wo = wr := ⟨_, rfl⟩
            have q0 : ¬ (m : Int) < (k : Int) := by omega
            have HF := Lib.hid (show fieldErr s (m : Int) = 0 from (fieldErr_ok _ _).2 ⟨by omega, by omega, HZ.out, by rw [← HN.out]; omega⟩)
            go_wp2_with (first | (refine conv_owns_list rfl 9 22 5 (.tmp 28) rfl Tryd.underlying9 Tryd.underlying22 Tryd.underlying5 wo.heap.size s rfl (by rw [← HN.out]; unfold maxLen; omega) (Nat.le_refl _) ?_; intro v1 w1 ho1 hb1; have HO1 := Lib.hid ho1; have HB1 := Lib.hid hb1; clear ho1 hb1))
            go_loopw [7] (fun v w2 => ∃ j : Nat, k + j ≤ m ∧ (∃ g cap, v = .slice (some ⟨g, 0, none⟩) (k + j) cap) ∧ OwnsB w2 wo.heap.size 5 v (s ++ List.replicate j 0) ∧ Below wo.heap.size wo w2) (fun v _ => match v with | .slice _ l _ => m - l | _ => 0)
            case atStart =>
              obtain ⟨g, cap, e, _⟩ := ownsB_slice HO1.out
              exact ⟨0, by omega, ⟨g, cap, by rw [e, ← HN.out]; rfl⟩, by simpa using HO1.out, HB1.out⟩
            case round =>
              clear HO1 HB1
              obtain ⟨j, hj, ⟨g, cap, rfl⟩, ho, hb⟩ := hrel
              have HO := Lib.hid ho
              have HB := Lib.hid hb
              have hbs := hb.size
              clear ho hb
              by_cases hjm : k + j < m
              · obtain ⟨S, hS⟩ : ∃ S, S = s ++ List.replicate j (0 : UInt8) := ⟨_, rfl⟩
                rw [← hS] at HO
                have hSl : S.length = k + j := by rw [hS, List.length_append, List.length_replicate, HN.out]
                have HS := Lib.hid hS
                clear hS
                have q1 : (k : Int) + (j : Int) < (m : Int) := by omega
                have HT := Lib.hid (text_byte wr 5 0 0 rfl)
                go_wp2_with (first | (at_builtin; refine append_owns_list rfl (.tmp 34) (.tmp 35) 22 rfl wo.heap.size 5 i0 Tryd.underlying22 hi hz0 hz1 hz2 _ S [0] rfl (ownsB_alloc HO.out _) _ rfl HT.out (by simp; omega) (by simp; omega) ?_; intro v' w' ho' hg'; have hb' := below_grown (HB.out.alloc HB.out.size _) hg' (by simp; omega) (fun k hk => (ownsB_lt HO.out k hk).1); have HO' := Lib.hid ho'; have HB' := Lib.hid hb'; clear ho' hg' hb'))
                obtain ⟨g', cap', e, _⟩ := ownsB_slice HO'.out
                rw [List.length_append, hSl] at e
                subst e
                go_roundw
                case rel => exact ⟨j + 1, by omega, ⟨_, _, rfl⟩, by rw [List.replicate_succ', ← List.append_assoc, ← HS.out]; exact HO'.out, HB'.out⟩
                case measure => simp; omega
              · obtain rfl : m = k + j := by omega
                have q1 : ¬ (k : Int) + (j : Int) < ((k + j : Nat) : Int) := by omega
                have HT := Lib.hid (ownsB_has HO.out)
                have HE := Lib.hid (show fieldT s ((k + j : Nat) : Int) = s ++ List.replicate j 0 by rw [fieldT, if_pos HF.out, ← HN.out, show ((k + j : Nat) : Int).toNat - k = j from by omega])
                go_wp2
                go_ret2
                rw [← Int.natCast_add, HF.out, HE.out]
                exact ⟨_, rfl, HT.out, HB.out⟩
end Go.Proofs.YtbjekhhefepnlaaDoor
