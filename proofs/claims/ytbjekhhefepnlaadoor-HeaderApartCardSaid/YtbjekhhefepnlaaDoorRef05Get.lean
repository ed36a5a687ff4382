/-
What the document's own Get returns for layer 5: the number of a field.
-/
import Derived.Test.YtbjekhhefepnlaaDoorRef05Put
namespace Go.Proofs.YtbjekhhefepnlaaDoor
open Go.RowKit
theorem val8_next (b : List UInt8) (k : Nat) (c : UInt8) (hc : b[k]? = some c) : val8 (b.take (k + 1)) = 8 * val8 (b.take k) + c.toNat % 8 := by
  obtain ⟨hk, rfl⟩ := List.getElem?_eq_some_iff.1 hc
  rw [List.take_succ_eq_append_getElem hk, val8_snoc]
theorem val8_take_lt (b : List UInt8) (k : Nat) (hk : k ≤ 12) : val8 (b.take k) < 68719476736 := by
  have h := val8_lt (b.take k)
  have h1 : 8 ^ (b.take k).length ≤ 8 ^ 12 := Nat.pow_le_pow_right (by decide) (by rw [List.length_take]; omega)
  have h2 : (8 : Nat) ^ 12 = 68719476736 := by decide
  omega
/-- What Get makes of the figures that it has added up. -/
theorem get_of (b : List UInt8) (k : Nat) (hk : k = 12 ∨ b.length ≤ k + 1) (hk3 : k = 0 ∨ k + 1 ≤ b.length) :
    (putErr (val8 (b.take k)) b.length ≠ 0 → getN b = 0 ∧ getErr b = 2) ∧
    (putErr (val8 (b.take k)) b.length = 0 → (putT (val8 (b.take k)) b.length = b → getN b = val8 (b.take k) ∧ getErr b = 0) ∧ (putT (val8 (b.take k)) b.length ≠ b → getN b = 0 ∧ getErr b = 2)) := by
  have bad : isOct b = false → getN b = 0 ∧ getErr b = 2 := fun h => by simp [getN, getErr, h]
  have good : isOct b = true → getN b = val8 b.dropLast ∧ getErr b = 0 := fun h => by simp [getN, getErr, h]
  have hd : 2 ≤ b.length → b.length ≤ 12 → b.take k = b.dropLast := fun h1 h2 => by
    rw [List.dropLast_eq_take]; congr 1; omega
  constructor
  · intro h
    refine bad ?_
    cases ho : isOct b with
    | false => rfl
    | true =>
      obtain ⟨h1, h2, h3, h4⟩ := isOct_of ho
      refine absurd ((putErr_ok _ _).2 ⟨by omega, by omega, by omega, ?_⟩) h
      rw [hd h1 h2, Int.toNat_natCast, Int.toNat_natCast]; exact h4
  · intro h
    obtain ⟨h1, h2, h3, h4⟩ := (putErr_ok _ _).1 h
    rw [hd (by omega) (by omega)] at h ⊢
    have hp : putT (val8 b.dropLast) b.length = putL (val8 b.dropLast) b.length := by rw [putT, if_pos h, Int.toNat_natCast, Int.toNat_natCast]
    rw [hp]
    refine ⟨fun e => good ?_, fun e => bad ?_⟩
    · simp only [isOct, Bool.and_eq_true, decide_eq_true_eq, beq_iff_eq]
      exact ⟨by omega, by omega, e⟩
    · cases ho : isOct b with
      | false => rfl
      | true => exact absurd (isOct_of ho).2.2.1 e
theorem wrap_small (p : Nat) (h : p < 9223372036854775808) : IntKind.i64.wrap (p : Int) = (p : Int) := by rw [IntKind.wrap_i64]; omega
theorem next64 (k : Nat) (h : k + 1 < 9223372036854775808) : wrap64 ((k : Int) + 1) = ((k + 1 : Nat) : Int) := by rw [wrap64]; omega
set_option maxHeartbeats 4000000 in
theorem refGet_any (b : List UInt8) (hb : b.length < 4611686018427387904) (v : Value) (w : World) (hv : HasText w v b) :
    Calls Tryd.prog 28 #[v] w fun e w' => e = .returned (.tuple #[.int .i64 (getN b), .int .i64 (getErr b)]) ∧ Below w.heap.size w w' := by
  have HV := Lib.hid hv
  obtain ⟨ao, cap, rfl, -⟩ := hv
  obtain ⟨n, hn⟩ : ∃ n, n = (b.map w8).length := ⟨_, rfl⟩
  rw [← hn] at HV ⊢
  have hnl : n = b.length := by rw [hn, List.length_map]
  have HN := Lib.hid hnl
  clear hn
  have hn : n < 4611686018427387904 := by omega
  clear hnl hb
  go_enter Tryd.func28, Tryd.ntmps28
  go_wp2
  go_loopw [4, 5] (fun x c wr => wr = w ∧ ∃ k : Nat, k ≤ 12 ∧ (k = 0 ∨ k + 1 ≤ n) ∧ c = .int .i64 k ∧ x = .int .i64 ((val8 (b.take k) : Nat) : Int)) (fun _ c _ => 12 - (intOf c).toNat)
  case atStart => exact ⟨rfl, 0, by omega, .inl rfl, rfl, by rw [List.take_zero, val8_nil]; rfl⟩
  case round =>
    obtain ⟨rfl, k, hk, hk0, rfl, rfl⟩ := hrel
    obtain ⟨V, hV⟩ : ∃ V, V = val8 (b.take k) := ⟨_, rfl⟩
    have hVlt := val8_take_lt b k hk
    rw [← hV] at hVlt ⊢
    have HVV := Lib.hid hV
    have HK := Lib.hid (And.intro hk hk0)
    have w1 := next64 k (by omega)
    clear hV
    by_cases hgo : k + 1 < n ∧ k < 12
    · obtain ⟨ad, c, rfl, hc, hcd, c0⟩ := text_at HV.out k (by rw [← HN.out]; omega)
      obtain ⟨x, hx⟩ : ∃ x : Nat, x = c.toNat := ⟨_, rfl⟩
      have hx2 := UInt8.toNat_lt c
      rw [← hx] at c0 hx2
      have q0 : ((k + 1 : Nat) : Int) < (n : Int) := by omega
      have q0' : (k : Int) < (n : Int) := by omega
      have q1 : decide ((k : Int) < 12) = true := decide_eq_true (by omega)
      obtain ⟨r, hr⟩ : ∃ r : Nat, r = x % 8 := ⟨_, rfl⟩
      obtain ⟨p, hp⟩ : ∃ p : Nat, p = 8 * V := ⟨_, rfl⟩
      obtain ⟨q, hq⟩ : ∃ q : Nat, q = p + r := ⟨_, rfl⟩
      have f0 : (8 : Int) * (V : Int) = (p : Int) := by omega
      have f1 := wrap_small p (by omega)
      have f2 : (x : Int) % 8 = (r : Int) := by omega
      have f2' : (x : Int).tmod 8 = (r : Int) := by rw [Int.tmod_eq_emod_of_nonneg (by omega)]; omega
      have f3 : (p : Int) + (r : Int) = (q : Int) := by omega
      have f4 := wrap_small q (by omega)
      have f5 := wrap_small r (by omega)
      have f6 : IntKind.u8.wrap (r : Int) = (r : Int) := by rw [IntKind.wrap_u8]; omega
      have HQ := Lib.hid (show q = val8 (b.take (k + 1)) by rw [val8_next b k c hc, ← HVV.out, ← hx, hq, hp, hr])
      clear hc hcd hx hx2 hr hp hq hVlt hn
      go_wp2
      clear f0 f1 f2 f2' f3 f4 f5 f6
      refine ⟨⟨trivial, k + 1, by omega, .inr (by omega), by go_num, by rw [← HQ.out]⟩, by simp [intOf]; omega⟩
    · obtain ⟨g1, g2⟩ := get_of b k (by rw [← HN.out]; omega) (by rw [← HN.out]; exact hk0)
      rw [← HVV.out, ← HN.out] at g1 g2
      have HP := Lib.hid (refPut_any (V : Int) (n : Int) (by omega) (by omega) wr)
      obtain ⟨E, hE⟩ : ∃ E, E = putErr (V : Int) (n : Int) := ⟨_, rfl⟩
      obtain ⟨T, hT⟩ : ∃ T, T = putT (V : Int) (n : Int) := ⟨_, rfl⟩
      rw [← hE, ← hT] at HP
      rw [← hE] at g1 g2
      rw [← hT] at g2
      have HG := Lib.hid (And.intro g1 g2)
      have hT1 : (str T).toList = T := str_toList T
      have hb1 : (str b).toList = b := str_toList b
      clear hE hT g1 g2 hVlt hn
      have part : (∀ Q : Prop, (((k + 1 : Nat) : Int) < (n : Int) → decide ((k : Int) < 12) = false → Q) → (¬ ((k + 1 : Nat) : Int) < (n : Int) → Q) → Q) := fun Q h1 h2 => by
        by_cases h : k + 1 < n
        · exact h1 (by omega) (decide_eq_false (by omega))
        · exact h2 (by omega)
      refine part _ (fun q0 q1 => ?_) (fun q0 => ?_) <;> clear part
      all_goals
        by_cases hz : E = 0
        · subst hz
          by_cases hTb : T = b
          · have HR := Lib.hid ((HG.out.2 rfl).1 hTb)
            have te : (T == b) = true := by rw [beq_iff_eq]; exact hTb
            clear hTb
            go_wp2_with (first | (go_at_call 37; refine HP.out.mono ?_; rintro e w2 ⟨v2, rfl, ht2, hb2⟩; have HB2 := Lib.hid hb2; have cv1 := conv_text Tryd.underlying22 Tryd.underlying5 Tryd.underlying9 ht2; have cv2 := conv_text Tryd.underlying22 Tryd.underlying5 Tryd.underlying9 (text_below HV.out hb2); clear ht2 hb2))
            go_ret2
            exact ⟨by rw [HR.out.1, HR.out.2]; try rfl, HB2.out⟩
          · have HR := Lib.hid ((HG.out.2 rfl).2 hTb)
            have te : (T == b) = false := by rw [beq_eq_false_iff_ne]; exact hTb
            clear hTb
            go_wp2_with (first | (go_at_call 37; refine HP.out.mono ?_; rintro e w2 ⟨v2, rfl, ht2, hb2⟩; have HB2 := Lib.hid hb2; have cv1 := conv_text Tryd.underlying22 Tryd.underlying5 Tryd.underlying9 ht2; have cv2 := conv_text Tryd.underlying22 Tryd.underlying5 Tryd.underlying9 (text_below HV.out hb2); clear ht2 hb2))
            go_ret2
            exact ⟨by rw [HR.out.1, HR.out.2]; try rfl, HB2.out⟩
        · have HR := Lib.hid (HG.out.1 hz)
          go_wp2_with (first | (go_at_call 37; refine HP.out.mono ?_; rintro e w2 ⟨v2, rfl, ht2, hb2⟩; have HB2 := Lib.hid hb2; clear ht2 hb2))
          go_ret2
          exact ⟨by rw [HR.out.1, HR.out.2]; try rfl, HB2.out⟩
end Go.Proofs.YtbjekhhefepnlaaDoor
