/-
What the document's own answers for layer 6 return: whether a text is a part, and parts with / between.
-/
import Derived.Test.YtbjekhhefepnlaaDoorPath
import Derived.Test.YtbjekhhefepnlaaDoorProg
import Derived.WalkKit
import Derived.Lib.Hide
import Derived.WalkLawsBesides
import Derived.Laws.DeepStrings4
namespace Go.Proofs.YtbjekhhefepnlaaDoor
open Go.RowKit
theorem isLet_of (c : UInt8) (x : Nat) (hx : x = c.toNat) : isLet c = ((decide (97 ≤ x) && decide (x ≤ 122)) || (decide (65 ≤ x) && decide (x ≤ 90)) || (decide (48 ≤ x) && decide (x ≤ 57)) || decide (x = 45) || decide (x = 46) || decide (x = 95) || decide (x = 43) || decide (x = 126)) := by
  have e : ∀ k : UInt8, (c == k) = decide (x = k.toNat) := fun k => by
    rw [Bool.eq_iff_iff, beq_iff_eq, decide_eq_true_eq, hx]
    exact ⟨fun h => by rw [h], fun h => UInt8.toNat_inj.1 h⟩
  unfold isLet
  rw [e, e, e, e, e, hx]; rfl
set_option maxHeartbeats 4000000 in
theorem refLetter_any (c : UInt8) (w : World) : Calls Tryd.prog 53 #[.int .u8 (c.toNat : Int)] w fun e w' => e = .returned (.bool (isLet c)) ∧ w = w' := by
  obtain ⟨x, hx⟩ : ∃ x : Nat, x = c.toNat := ⟨_, rfl⟩
  have HX := Lib.hid (isLet_of c x hx)
  rw [← hx]
  clear hx
  go_enter Tryd.func53, Tryd.ntmps53
  go_wp2
  all_goals
    go_ret
    refine ⟨congrArg Ending.returned (show Value.bool _ = Value.bool _ from congrArg Value.bool ?_), rfl⟩
    rw [HX.out, Bool.eq_iff_iff]
    simp
    try omega
/-- A text's beginning with one byte more. -/
theorem take_next {s : List UInt8} {k : Nat} {c : UInt8} (h : s[k]? = some c) : s.take (k + 1) = s.take k ++ [c] := by
  obtain ⟨hk, rfl⟩ := List.getElem?_eq_some_iff.1 h
  exact List.take_succ_eq_append_getElem hk
set_option maxHeartbeats 4000000 in
theorem refPart_any (s : List UInt8) (hs : s.length < 4611686018427387904) (w : World) : Calls Tryd.prog 44 #[.string (str s)] w fun e w' => e = .returned (.bool (isPart s)) ∧ w = w' := by
  obtain ⟨n, hn⟩ : ∃ n, n = s.length := ⟨_, rfl⟩
  have HN := Lib.hid hn
  have hsz : (str s).size = n := by rw [str_size, hn]
  have hl : (str s).toList = s := str_toList s
  rw [← hn] at hs
  clear hn
  go_enter Tryd.func44, Tryd.ntmps44
  go_wp2
  go_loopw [3] (fun i wr => wr = w ∧ ∃ k : Nat, k ≤ n ∧ i = .int .i64 k ∧ ∀ j, j < k → ∀ c, s[j]? = some c → isLet c = true) (fun i _ => n - (intOf i).toNat)
  case atStart => exact ⟨rfl, 0, by omega, rfl, fun j hj => by omega⟩
  case round =>
    obtain ⟨rfl, k, hk, rfl, hall⟩ := hrel
    have HA := Lib.hid hall
    clear hall
    by_cases hlt : k < n
    · obtain ⟨c, hc⟩ : ∃ c, s[k]? = some c := ⟨s[k]'(by have := HN.out; omega), List.getElem?_eq_getElem _⟩
      have i1 := fun w => index_str (P := Tryd.prog) w s .i64 k c hc Tryd.underlying9
      have HC := Lib.hid hc
      have q0 : (k : Int) < (n : Int) := by omega
      clear hc
      cases hlet : isLet c with
      | true =>
        have HL := Lib.hid hlet
        have HW := Lib.hid (show ∀ w, Calls Tryd.prog 53 #[.int .u8 (c.toNat : Int)] w fun e w' => e = .returned (.bool true) ∧ w = w' from fun w => by have := refLetter_any c w; rwa [hlet] at this)
        clear hlet
        go_wp2_with (first | (go_at_call 53; refine (HW.out _).mono ?_; rintro e w' ⟨rfl, rfl⟩))
        go_roundw
        case rel => exact ⟨trivial, k + 1, by omega, by go_num, fun j hj c' hc' => by
          rcases Nat.lt_or_ge j k with h | h
          · exact HA.out j h c' hc'
          · obtain rfl : j = k := by omega
            rw [HC.out] at hc'; cases hc'; exact HL.out⟩
        case measure => simp [intOf]; omega
      | false =>
        have HP := Lib.hid (show isPart s = false by
          rw [isPart, Bool.and_eq_false_iff]; left
          rw [Bool.eq_false_iff, ne_eq, List.all_eq_true]
          intro h; have := h c (List.mem_of_getElem? HC.out); rw [hlet] at this; cases this)
        have HW := Lib.hid (show ∀ w, Calls Tryd.prog 53 #[.int .u8 (c.toNat : Int)] w fun e w' => e = .returned (.bool false) ∧ w = w' from fun w => by have := refLetter_any c w; rwa [hlet] at this)
        clear hlet
        go_wp2_with (first | (go_at_call 53; refine (HW.out _).mono ?_; rintro e w' ⟨rfl, rfl⟩))
        go_ret
        exact ⟨by rw [HP.out]; rfl, rfl⟩
    · obtain rfl : k = n := by omega
      have HP := Lib.hid (show isPart s = (decide (1 ≤ k) && (decide (k ≤ 100) && (s != [46] && s != [46, 46]))) by
        rw [isPart, ← HN.out, show s.all isLet = true from List.all_eq_true.2 fun c hc => by
          obtain ⟨j, hj, rfl⟩ := List.mem_iff_getElem.1 hc
          exact HA.out j (by rw [HN.out]; exact hj) _ (List.getElem?_eq_getElem hj)]
        rfl)
      go_wp2
      all_goals
        go_ret
        refine ⟨congrArg Ending.returned (show Value.bool _ = Value.bool _ from congrArg Value.bool ?_), rfl⟩
        rw [HP.out]
        first
          | (have h : ¬ 1 ≤ k := (by omega); simp [h]; done)
          | (have h : ¬ k ≤ 100 := (by omega); simp [h]; done)
          | (have h1 : 1 ≤ k := (by omega); have h2 : k ≤ 100 := (by omega); have h3 : s = [46] := (by assumption); simp [h1, h2, h3]; done)
          | (have h1 : 1 ≤ k := (by omega); have h2 : k ≤ 100 := (by omega); simp [h1, h2, bne]; done)
/-- A piece of a text. -/
theorem slice_mid {P : Program} (w : World) (t : TypeId) (s : List UInt8) (f k : Nat) (hf : f ≤ k) (hk : k ≤ s.length) (ht : P.underlying t = some .string) :
    (Instr.slice t (.string (str s)) (some (.int .i64 (f : Int))) (some (.int .i64 (k : Int))) none).run P w = .ok (.string (str ((s.take k).drop f))) w := by
  rw [run_slice_string_if w t (str s) .i64 .i64 f k ht, if_pos ⟨by omega, by rw [str_size]; omega⟩, if_pos ⟨by omega, by omega⟩, Int.toNat_natCast, Int.toNat_natCast]
  congr 2
  unfold str
  rw [ByteArray.extract_mk]
  simp [List.drop_take]
theorem piece_ok {s : List UInt8} {f i : Nat} (hi : i ≤ s.length) (hn : ∀ j, f ≤ j → j < i → s.getD j 0 ≠ 47) : ∀ c ∈ (s.take i).drop f, c ≠ 47 := fun c hc e => by
  obtain ⟨j, hj, rfl⟩ := List.mem_iff_getElem.1 hc
  rw [List.length_drop, List.length_take] at hj
  rw [List.getElem_drop, List.getElem_take] at e
  exact hn (f + j) (by omega) (by omega) (by rw [List.getD_eq_getElem?_getD, List.getElem?_eq_getElem (by omega), Option.getD_some, e])
/-- The rest of a text from a place on, parted at a byte /. -/
theorem rest_slash {s : List UInt8} {f i : Nat} (hf : f ≤ i) (hi : i < s.length) (hs : s.getD i 0 = 47) : s.drop f = (s.take i).drop f ++ 47 :: s.drop (i + 1) := by
  conv => lhs; rw [take_slash hi hs]
  rw [List.drop_append_of_le_length (by rw [List.length_take]; omega)]
theorem rest_end {s : List UInt8} {f : Nat} : s.drop f = (s.take s.length).drop f := by rw [List.take_length]
set_option maxHeartbeats 4000000 in
theorem refParts_any (s : List UInt8) (hs : s.length < 4611686018427387904) (w : World) : Calls Tryd.prog 35 #[.string (str s)] w fun e w' => e = .returned (.bool (isParts s)) ∧ w = w' := by
  obtain ⟨n, hn⟩ : ∃ n, n = s.length := ⟨_, rfl⟩
  have HN := Lib.hid hn
  have hsz : (str s).size = n := by rw [str_size, hn]
  rw [← hn] at hs
  clear hn
  go_enter Tryd.func35, Tryd.ntmps35
  go_wp2
  go_loopw [3, 4] (fun x i wr => wr = w ∧ ∃ f k : Nat, f ≤ k ∧ k ≤ n + 1 ∧ (k = n + 1 → isParts s = true) ∧ (k ≤ n → (∀ j, f ≤ j → j < k → s.getD j 0 ≠ 47) ∧ isParts s = isParts (s.drop f)) ∧ i = .int .i64 k ∧ x = .int .i64 f) (fun _ i _ => n + 1 - (intOf i).toNat)
  case atStart => exact ⟨rfl, 0, 0, by omega, by omega, fun h => by omega, fun _ => ⟨fun j _ hj => by omega, by rw [List.drop_zero]⟩, rfl, rfl⟩
  case round =>
    obtain ⟨rfl, f, k, hfk, hk, hend, hmid, rfl, rfl⟩ := hrel
    by_cases hkn : k ≤ n
    · obtain ⟨h1, h2⟩ := hmid hkn
      have HM := Lib.hid (And.intro h1 h2)
      clear hend hmid h1 h2
      have q0 : ¬ (n : Int) < (k : Int) := by omega
      have sl : ∀ w, (Instr.slice 9 (.string (str s)) (some (.int .i64 (f : Int))) (some (.int .i64 (k : Int))) none).run Tryd.prog w = .ok (.string (str ((s.take k).drop f))) w := fun w => slice_mid w 9 s f k hfk (by rw [← HN.out]; exact hkn) Tryd.underlying9
      obtain ⟨p, hp⟩ : ∃ p, p = (s.take k).drop f := ⟨_, rfl⟩
      have hpl : p.length < 4611686018427387904 := by rw [hp, List.length_drop, List.length_take]; omega
      have hp47 := piece_ok (by rw [← HN.out]; exact hkn) HM.out.1
      rw [← hp] at sl hp47
      have HPP := Lib.hid (And.intro hp hp47)
      have HW := Lib.hid (fun w => refPart_any p hpl w)
      clear hp hp47 hpl
      by_cases hend : k = n
      · subst hend
        have HE := Lib.hid (show isParts s = isPart p by
          rw [HM.out.2, show s.drop f = p from by rw [HPP.out.1, HN.out, List.take_length], isParts_one HPP.out.2])
        cases hpt : isPart p with
        | true =>
          rw [hpt] at HW
          have HT := Lib.hid (show isParts s = true by rw [HE.out]; exact hpt)
          clear hpt
          go_wp2_with (first | (go_at_call 44; refine (HW.out _).mono ?_; rintro e w' ⟨rfl, rfl⟩))
          go_roundw
          case rel => exact ⟨trivial, k + 1, k + 1, by omega, by omega, fun _ => HT.out, fun h => by omega, by go_num, by go_num⟩
          case measure => simp [intOf]
        | false =>
          rw [hpt] at HW
          have HT := Lib.hid (show isParts s = false by rw [HE.out]; exact hpt)
          clear hpt
          go_wp2_with (first | (go_at_call 44; refine (HW.out _).mono ?_; rintro e w' ⟨rfl, rfl⟩))
          go_ret
          exact ⟨by rw [HT.out]; rfl, rfl⟩
      · obtain ⟨c, hc⟩ : ∃ c, s[k]? = some c := ⟨s[k]'(by have := HN.out; omega), List.getElem?_eq_getElem _⟩
        have i1 := fun w => index_str (P := Tryd.prog) w s .i64 k c hc Tryd.underlying9
        obtain ⟨x, hx⟩ : ∃ x, c.toNat = x := ⟨_, rfl⟩
        rw [hx] at i1
        have hcd : s.getD k 0 = c := by rw [List.getD_eq_getElem?_getD, hc]; rfl
        have HC := Lib.hid (And.intro hcd hx)
        have t1 : ((k : Int) == (n : Int)) = false := beq_eq_false_iff_ne.2 (by omega)
        have q1 : (k : Int) < (n : Int) := by omega
        clear hc hx hcd
        by_cases h47 : x = 47
        · subst h47
          have hs47 : s.getD k 0 = 47 := by rw [HC.out.1]; exact UInt8.toNat_inj.1 HC.out.2
          have HE := Lib.hid (show isParts s = (isPart p && isParts (s.drop (k + 1))) by
            rw [HM.out.2, rest_slash hfk (by rw [← HN.out]; omega) hs47, isParts_append, ← HPP.out.1, isParts_one HPP.out.2])
          clear hs47
          cases hpt : isPart p with
          | true =>
            rw [hpt] at HW
            have HT := Lib.hid (show isParts s = isParts (s.drop (k + 1)) by rw [HE.out, hpt, Bool.true_and])
            clear hpt
            go_wp2_with (first | (go_at_call 44; refine (HW.out _).mono ?_; rintro e w' ⟨rfl, rfl⟩))
            go_roundw
            case rel => exact ⟨trivial, k + 1, k + 1, by omega, by omega, fun h => by omega, fun _ => ⟨fun j h1 h2 => by omega, HT.out⟩, by go_num, by go_num⟩
            case measure => simp [intOf]; omega
          | false =>
            rw [hpt] at HW
            have HT := Lib.hid (show isParts s = false by rw [HE.out, hpt, Bool.false_and])
            clear hpt
            go_wp2_with (first | (go_at_call 44; refine (HW.out _).mono ?_; rintro e w' ⟨rfl, rfl⟩))
            go_ret
            exact ⟨by rw [HT.out]; rfl, rfl⟩
        · have t2 : ((x : Int) == 47) = false := beq_eq_false_iff_ne.2 (by omega)
          have HX := Lib.hid (show s.getD k 0 ≠ 47 from fun e => by rw [HC.out.1] at e; rw [e] at HC; exact h47 HC.out.2.symm)
          clear h47
          go_wp2_with (first | (go_at_call 44; refine (HW.out _).mono ?_; rintro e w' ⟨rfl, rfl⟩))
          go_roundw
          case rel => exact ⟨trivial, f, k + 1, by omega, by omega, fun h => by omega, fun _ => ⟨fun j h1 h2 => by
            rcases Nat.lt_or_ge j k with h | h
            · exact HM.out.1 j h1 h
            · obtain rfl : j = k := by omega
              exact HX.out, HM.out.2⟩, by go_num, rfl⟩
          case measure => simp [intOf]; omega
    · obtain rfl : k = n + 1 := by omega
      have HP := Lib.hid (hend rfl)
      clear hend hmid
      go_wp2
      go_ret
      exact ⟨by rw [HP.out]; rfl, rfl⟩
end Go.Proofs.YtbjekhhefepnlaaDoor
