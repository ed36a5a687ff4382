/-
What the document's own answers for layer 6 return: a path's two fields, and whether it is one.
-/
import Derived.Test.YtbjekhhefepnlaaDoorRef06
import Derived.BigQuiet
import Derived.Deep.QuietTactic
namespace Go.Proofs.YtbjekhhefepnlaaDoor
open Go.RowKit
theorem split_bad {s : List UInt8} (h : splitR s = none) : splitA s = [] ∧ splitB s = [] ∧ splitErr s = 9 := by simp [splitA, splitB, splitErr, h]
theorem split_good {s a b : List UInt8} (h : splitR s = some (a, b)) : splitA s = a ∧ splitB s = b ∧ splitErr s = 0 := by simp [splitA, splitB, splitErr, h]
theorem wrap_small6 (p : Nat) (h : p < 9223372036854775808) : IntKind.i64.wrap (p : Int) = (p : Int) := by rw [IntKind.wrap_i64]; omega
theorem splitR_cut {s : List UInt8} (hp : isParts s = true) (h1 : s.length ≤ 254) (h2 : 100 < s.length) : splitR s = match cutI s with
    | some i => if 155 < i then none else some (s.take i, s.drop (i + 1))
    | none => none := by
  unfold splitR
  rw [if_neg (by rw [hp]; simp; omega), if_neg (by omega)]
  rfl
theorem slice_to6 {P : Program} (w : World) (t : TypeId) (s : List UInt8) (k : Nat) (hk : k ≤ s.length) (ht : P.underlying t = some .string) :
    (Instr.slice t (.string (str s)) none (some (.int .i64 (k : Int))) none).run P w = .ok (.string (str (s.take k))) w := by
  rw [run_slice_string_h w t (str s) ht .i64 k (by omega) (by rw [str_size]; omega)]
  congr 2
  unfold str
  rw [ByteArray.extract_mk]; simp
theorem slice_from6 {P : Program} (w : World) (t : TypeId) (s : List UInt8) (k : Nat) (hk : k ≤ s.length) (ht : P.underlying t = some .string) :
    (Instr.slice t (.string (str s)) (some (.int .i64 (k : Int))) none none).run P w = .ok (.string (str (s.drop k))) w := by
  rw [run_slice_string_l w t (str s) ht .i64 k (by omega) (by rw [str_size]; omega)]
  congr 2
  rw [str_size]; unfold str
  rw [ByteArray.extract_mk, List.take_of_length_le (by simp)]; simp
set_option maxHeartbeats 4000000 in
theorem refSplit_any (s : List UInt8) (hs : s.length < 4611686018427387904) (w : World) : Calls Tryd.prog 20 #[.string (str s)] w fun e w' => e = .returned (.tuple #[.string (str (splitA s)), .string (str (splitB s)), .int .i64 (splitErr s)]) ∧ Below w.heap.size w w' := by
  obtain ⟨n, hn⟩ : ∃ n, n = s.length := ⟨_, rfl⟩
  have HN := Lib.hid hn
  have hsz : (str s).size = n := by rw [str_size, hn]
  have HPA := Lib.hid (refParts_any s hs)
  rw [← hn] at hs
  clear hn
  cases hp : isParts s with
  | false =>
    rw [hp] at HPA
    have HR := Lib.hid (split_bad (show splitR s = none by unfold splitR; rw [if_pos (.inl hp)]))
    clear hp hs
    go_enter Tryd.func20, Tryd.ntmps20
    go_wp2_with (first | (go_at_call 35; refine (HPA.out _).mono ?_; rintro e w' ⟨rfl, rfl⟩))
    go_ret3
    exact ⟨by rw [HR.out.1, HR.out.2.1, HR.out.2.2]; try rfl, Below.refl _ _⟩
  | true =>
    rw [hp] at HPA
    have HT := Lib.hid hp
    clear hp
    by_cases h254 : 254 < n
    · have HR := Lib.hid (split_bad (show splitR s = none by unfold splitR; rw [if_pos (.inr (by rw [← HN.out]; exact h254))]))
      have d1 : decide ((254 : Int) < (n : Int)) = true := decide_eq_true (by omega)
      clear hs h254
      go_enter Tryd.func20, Tryd.ntmps20
      go_wp2_with (first | (go_at_call 35; refine (HPA.out _).mono ?_; rintro e w' ⟨rfl, rfl⟩))
      go_ret3
      exact ⟨by rw [HR.out.1, HR.out.2.1, HR.out.2.2]; try rfl, Below.refl _ _⟩
    · have d1 : decide ((254 : Int) < (n : Int)) = false := decide_eq_false (by omega)
      by_cases h100 : n ≤ 100
      · have HR := Lib.hid (split_good (show splitR s = some ([], s) by unfold splitR; rw [if_neg (by rw [HT.out, ← HN.out]; simp; omega), if_pos (by rw [← HN.out]; exact h100)]))
        have d2 : decide ((n : Int) ≤ 100) = true := decide_eq_true (by omega)
        clear hs h254 h100
        go_enter Tryd.func20, Tryd.ntmps20
        go_wp2_with (first | (go_at_call 35; refine (HPA.out _).mono ?_; rintro e w' ⟨rfl, rfl⟩))
        go_ret3
        exact ⟨by rw [HR.out.1, HR.out.2.1, HR.out.2.2]; try rfl, Below.refl _ _⟩
      · have d2 : decide ((n : Int) ≤ 100) = false := decide_eq_false (by omega)
        have HC := Lib.hid (splitR_cut HT.out (by rw [← HN.out]; omega) (by rw [← HN.out]; omega))
        have hn254 : n ≤ 254 := by omega
        clear hs h254 h100
        go_enter Tryd.func20, Tryd.ntmps20
        go_wp2_with (first | (go_at_call 35; refine (HPA.out _).mono ?_; rintro e w' ⟨rfl, rfl⟩))
        go_loopw [5] (fun i wr => wr = w ∧ ∃ k : Nat, k ≤ n ∧ i = .int .i64 k ∧ ∀ j, j < k → s.getD j 0 = 47 → 100 < n - j - 1) (fun i _ => n - (intOf i).toNat)
        case atStart => exact ⟨rfl, 0, by omega, rfl, fun j hj => by omega⟩
        case round =>
          obtain ⟨rfl, k, hk, rfl, hall⟩ := hrel
          have HA := Lib.hid hall
          clear hall
          by_cases hkn : k < n
          · obtain ⟨c, hc⟩ : ∃ c, s[k]? = some c := ⟨s[k]'(by have := HN.out; omega), List.getElem?_eq_getElem _⟩
            have i1 := fun w => index_str (P := Tryd.prog) w s .i64 k c hc Tryd.underlying9
            obtain ⟨x, hx⟩ : ∃ x, c.toNat = x := ⟨_, rfl⟩
            rw [hx] at i1
            have HX := Lib.hid (And.intro (show s.getD k 0 = c by rw [List.getD_eq_getElem?_getD, hc]; rfl) hx)
            have q1 : (k : Int) < (n : Int) := by omega
            clear hc hx
            by_cases h47 : x = 47
            · subst h47
              have hs47 : s.getD k 0 = 47 := by rw [HX.out.1]; exact UInt8.toNat_inj.1 HX.out.2
              obtain ⟨d, hd⟩ : ∃ d : Nat, n = k + (d + 1) := ⟨n - k - 1, by omega⟩
              have e1 : (n : Int) - (k : Int) = ((d + 1 : Nat) : Int) := by omega
              have e2 : ((d + 1 : Nat) : Int) - 1 = (d : Int) := by omega
              have e3 := wrap_small6 (d + 1) (by omega)
              have e4 := wrap_small6 d (by omega)
              by_cases h1 : d ≤ 100
              · have t1 : decide ((d : Int) ≤ 100) = true := decide_eq_true (by omega)
                have hcut : cutI s = some k := cut_of (by rw [← HN.out]; exact hkn) hs47 (by rw [← HN.out]; omega) (fun j h2 h3 => by rw [← HN.out]; exact HA.out j h2 h3)
                have HCC := Lib.hid HC.out
                rw [hcut] at HCC
                by_cases h155 : 155 < k
                · have HR := Lib.hid (split_bad (show splitR s = none by have := HCC.out; simp only at this; rw [if_pos h155] at this; exact this))
                  have t2 : decide ((155 : Int) < (k : Int)) = true := decide_eq_true (by omega)
                  clear hs47 hcut h1 hd h155
                  go_wp2
                  go_ret3
                  exact ⟨by rw [HR.out.1, HR.out.2.1, HR.out.2.2]; try rfl, Below.refl _ _⟩
                · have HR := Lib.hid (split_good (show splitR s = some (s.take k, s.drop (k + 1)) by have := HCC.out; simp only at this; rw [if_neg h155] at this; exact this))
                  have t2 : decide ((155 : Int) < (k : Int)) = false := decide_eq_false (by omega)
                  have s1 := fun w => slice_to6 (P := Tryd.prog) w 9 s k (by rw [← HN.out]; exact hk) Tryd.underlying9
                  obtain ⟨k1, hk1⟩ : ∃ k1, k1 = k + 1 := ⟨_, rfl⟩
                  have s2 := fun w => slice_from6 (P := Tryd.prog) w 9 s k1 (by rw [← HN.out]; omega) Tryd.underlying9
                  have e5 : (k : Int) + 1 = (k1 : Int) := by omega
                  have e6 := wrap_small6 k1 (by omega)
                  rw [← hk1] at HR
                  clear hs47 hcut h1 hd h155 hk1
                  go_wp2
                  go_quiet (fail)
                  go_wp2
                  go_ret3
                  exact ⟨by rw [HR.out.1, HR.out.2.1, HR.out.2.2]; try rfl, below_draws (Below.refl _ _) nq⟩
              · have t1 : decide ((d : Int) ≤ 100) = false := decide_eq_false (by omega)
                have HD := Lib.hid (show 100 < n - k - 1 by omega)
                clear hs47 hd
                go_wp2
                go_roundw
                case rel => exact ⟨trivial, k + 1, by omega, by go_num, fun j h2 h3 => by
                  rcases Nat.lt_or_ge j k with h | h
                  · exact HA.out j h h3
                  · obtain rfl : j = k := by omega
                    exact HD.out⟩
                case measure => simp [intOf]; omega
            · have t2 : ((x : Int) == 47) = false := beq_eq_false_iff_ne.2 (by omega)
              have HD := Lib.hid (show s.getD k 0 ≠ 47 from fun e => by rw [HX.out.1] at e; rw [e] at HX; exact h47 HX.out.2.symm)
              clear h47
              go_wp2
              go_roundw
              case rel => exact ⟨trivial, k + 1, by omega, by go_num, fun j h2 h3 => by
                rcases Nat.lt_or_ge j k with h | h
                · exact HA.out j h h3
                · obtain rfl : j = k := by omega
                  exact absurd h3 HD.out⟩
              case measure => simp [intOf]; omega
          · obtain rfl : k = n := by omega
            have hcut : cutI s = none := cut_no (fun j h2 h3 => by rw [← HN.out] at h2 ⊢; exact HA.out j h2 h3)
            have HCC := Lib.hid HC.out
            rw [hcut] at HCC
            have HR := Lib.hid (split_bad (show splitR s = none from HCC.out))
            clear hcut
            go_wp2
            go_ret3
            exact ⟨by rw [HR.out.1, HR.out.2.1, HR.out.2.2]; try rfl, Below.refl _ _⟩
end Go.Proofs.YtbjekhhefepnlaaDoor
