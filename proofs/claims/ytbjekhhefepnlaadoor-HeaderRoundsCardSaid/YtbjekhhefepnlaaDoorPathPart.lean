/-
What package path says of a byte and of a part, walked over the landed code.
-/
import Derived.Test.YtbjekhhefepnlaaDoorPathSeq
namespace Go.Proofs.YtbjekhhefepnlaaDoor
open Go.RowKit
theorem mark_at : ∀ x : Fin 256, decide (Lib.indexByte [45, 46, 95, 43, 126] (UInt8.ofNat x.1) ≥ 0) = (decide (x.1 = 45) || (decide (x.1 = 46) || (decide (x.1 = 95) || (decide (x.1 = 43) || decide (x.1 = 126))))) := by decide +kernel
theorem mark_ix (x : Nat) (hx : x < 256) : ∃ z, Lib.indexByte (ByteArray.mk #[45, 46, 95, 43, 126]).data.toList ((x : Int).toNat.toUInt8) = z ∧ decide (z ≥ 0) = (decide (x = 45) || (decide (x = 46) || (decide (x = 95) || (decide (x = 43) || decide (x = 126))))) := ⟨_, rfl, by
  have h := mark_at ⟨x, hx⟩
  rw [Int.toNat_natCast]; exact h⟩
set_option maxHeartbeats 4000000 in
theorem mayStand_any (c : UInt8) (w : World) : Calls Tryd.prog 57 #[.int .u8 (c.toNat : Int)] w fun e w' => e = .returned (.bool (isLet c)) ∧ w = w' := by
  obtain ⟨x, hx⟩ : ∃ x : Nat, x = c.toNat := ⟨_, rfl⟩
  have HX := Lib.hid (isLet_of c x hx)
  obtain ⟨z, hz, hzc⟩ := mark_ix x (by rw [hx]; exact UInt8.toNat_lt c)
  rw [← hx]
  have I1 := Lib.hid (show ∀ w, Calls Tryd.prog 43 #[.string ⟨#[45, 46, 95, 43, 126]⟩, .int .u8 (x : Int)] w fun e w' => e = .returned (.int .i64 z) ∧ w = w' from fun w => by
    refine (Tryd.strings_IndexByte ⟨#[45, 46, 95, 43, 126]⟩ (x : Int) w).mono fun e w' h => ?_
    rw [hz] at h; exact ⟨h.1, h.2.symm⟩)
  obtain ⟨q, hq⟩ : ∃ q, q = (decide (x = 45) || (decide (x = 46) || (decide (x = 95) || (decide (x = 43) || decide (x = 126))))) := ⟨_, rfl⟩
  rw [← hq] at hzc
  have HQ := Lib.hid hq
  clear hz hx hq
  go_enter Tryd.func57, Tryd.ntmps57
  go_wp2_with (first | (go_at_call 43; refine (I1.out _).mono ?_; rintro e w' ⟨rfl, rfl⟩))
  all_goals
    go_ret
    refine ⟨congrArg Ending.returned (show Value.bool _ = Value.bool _ from congrArg Value.bool ?_), rfl⟩
    rw [HX.out]
    try rw [HQ.out]
    rw [Bool.eq_iff_iff]
    simp
    try omega
set_option maxHeartbeats 4000000 in
theorem isPart_any (s : List UInt8) (hs : s.length < 4611686018427387904) (w : World) : Calls Tryd.prog 50 #[.string (str s)] w fun e w' => e = .returned (.bool (isPart s)) ∧ w = w' := by
  obtain ⟨n, hn⟩ : ∃ n, n = s.length := ⟨_, rfl⟩
  have HN := Lib.hid hn
  have hsz : (str s).size = n := by rw [str_size, hn]
  have hl : (str s).toList = s := str_toList s
  rw [← hn] at hs
  clear hn
  by_cases h0 : s = []
  · subst h0
    go_enter Tryd.func50, Tryd.ntmps50
    go_wp2
    go_ret
    exact ⟨rfl, rfl⟩
  by_cases h100 : 100 < n
  · have q0 : (n : Int) > 100 := by omega
    have HP := Lib.hid (show isPart s = false by
      cases h : isPart s with
      | false => rfl
      | true => have := isPart_len h; have := HN.out; omega)
    go_enter Tryd.func50, Tryd.ntmps50
    go_wp2
    go_ret
    exact ⟨by rw [HP.out]; rfl, rfl⟩
  by_cases h1 : s = [46]
  · subst h1
    obtain rfl : n = 1 := HN.out
    go_enter Tryd.func50, Tryd.ntmps50
    go_wp2
    go_ret
    exact ⟨rfl, rfl⟩
  by_cases h2 : s = [46, 46]
  · subst h2
    obtain rfl : n = 2 := HN.out
    go_enter Tryd.func50, Tryd.ntmps50
    go_wp2
    go_ret
    exact ⟨rfl, rfl⟩
  have q0 : ¬ (n : Int) > 100 := by omega
  have e0 : s.isEmpty = false := by cases s with | nil => exact absurd rfl h0 | cons c t => rfl
  have HH := Lib.hid (And.intro h0 (And.intro h100 (And.intro h1 h2)))
  have e1 : (s == [46]) = false := beq_eq_false_iff_ne.2 h1
  have e2 : (s == [46, 46]) = false := beq_eq_false_iff_ne.2 h2
  clear h100 h0 h1 h2
  go_enter Tryd.func50, Tryd.ntmps50
  go_wp2
  go_loopw [21] (fun i wr => wr = w ∧ ∃ k : Nat, k ≤ n ∧ i = .int .i64 k ∧ ∀ j, j < k → ∀ c, s[j]? = some c → isLet c = true) (fun i _ => n - (intOf i).toNat)
  case atStart => exact ⟨rfl, 0, by omega, rfl, fun j hj => by omega⟩
  case round =>
    obtain ⟨rfl, k, hk, rfl, hall⟩ := hrel
    have HA := Lib.hid hall
    clear hall
    by_cases hlt : k < n
    · obtain ⟨c, hc⟩ : ∃ c, s[k]? = some c := ⟨s[k]'(by have := HN.out; omega), List.getElem?_eq_getElem _⟩
      have i1 := fun w => index_str (P := Tryd.prog) w s .i64 k c hc Tryd.underlying9
      have HC := Lib.hid hc
      have q0 : (k : Int) < (n : Int) := by omega
      clear hc
      cases hlet : isLet c with
      | true =>
        have HL := Lib.hid hlet
        have HW := Lib.hid (show ∀ w, Calls Tryd.prog 57 #[.int .u8 (c.toNat : Int)] w fun e w' => e = .returned (.bool true) ∧ w = w' from fun w => by have := mayStand_any c w; rwa [hlet] at this)
        clear hlet
        go_wp2_with (first | (go_at_call 57; refine (HW.out _).mono ?_; rintro e w' ⟨rfl, rfl⟩))
        go_roundw
        case rel => exact ⟨trivial, k + 1, by omega, by go_num, fun j hj c' hc' => by
          rcases Nat.lt_or_ge j k with h | h
          · exact HA.out j h c' hc'
          · obtain rfl : j = k := by omega
            rw [HC.out] at hc'; cases hc'; exact HL.out⟩
        case measure => simp [intOf]; omega
      | false =>
        have HP := Lib.hid (show isPart s = false by
          rw [isPart, Bool.and_eq_false_iff]; left
          rw [Bool.eq_false_iff, ne_eq, List.all_eq_true]
          intro h; have := h c (List.mem_of_getElem? HC.out); rw [hlet] at this; cases this)
        have HW := Lib.hid (show ∀ w, Calls Tryd.prog 57 #[.int .u8 (c.toNat : Int)] w fun e w' => e = .returned (.bool false) ∧ w = w' from fun w => by have := mayStand_any c w; rwa [hlet] at this)
        clear hlet
        go_wp2_with (first | (go_at_call 57; refine (HW.out _).mono ?_; rintro e w' ⟨rfl, rfl⟩))
        go_ret
        exact ⟨by rw [HP.out]; rfl, rfl⟩
    · obtain rfl : k = n := by omega
      have HP := Lib.hid (show isPart s = true by
        have hl : 1 ≤ k := by
          rcases Nat.eq_zero_or_pos k with h | h
          · exact absurd (List.eq_nil_of_length_eq_zero (by rw [← HN.out]; exact h)) HH.out.1
          · exact h
        rw [isPart, ← HN.out, show s.all isLet = true from List.all_eq_true.2 fun c hc => by
          obtain ⟨j, hj, rfl⟩ := List.mem_iff_getElem.1 hc
          exact HA.out j (by rw [HN.out]; exact hj) _ (List.getElem?_eq_getElem hj), decide_eq_true hl, decide_eq_true (show k ≤ 100 by have := HH.out.2.1; omega), bne_iff_ne.2 HH.out.2.2.1, bne_iff_ne.2 HH.out.2.2.2]
        rfl)
      go_wp2
      go_ret
      exact ⟨by rw [HP.out]; rfl, rfl⟩
end Go.Proofs.YtbjekhhefepnlaaDoor
