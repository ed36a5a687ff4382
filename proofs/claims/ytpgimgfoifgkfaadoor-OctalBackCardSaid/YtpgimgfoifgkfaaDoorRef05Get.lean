/-
What the document's own Get returns for layer 5: the number of a field.
-/
import Derived.Test.YtpgimgfoifgkfaaDoorRef05Put
namespace Go.Proofs.YtpgimgfoifgkfaaDoor
open Go.RowKit
theorem val8_next (b : List UInt8) (k : Nat) (c : UInt8) (hc : b[k]? = some c) : val8 (b.take (k + 1)) = 8 * val8 (b.take k) + c.toNat % 8 := by
  obtain ⟨hk, rfl⟩ := List.getElem?_eq_some_iff.1 hc
  rw [List.take_succ_eq_append_getElem hk, val8_snoc]
theorem val8_take_lt (b : List UInt8) (k : Nat) (hk : k ≤ 12) : val8 (b.take k) < 68719476736 := by
  have h := val8_lt (b.take k)
  have h1 : 8 ^ (b.take k).length ≤ 8 ^ 12 := Nat.pow_le_pow_right (by decide) (by rw [List.length_take]; omega)
  have h2 : (8 : Nat) ^ 12 = 68719476736 := by decide
  omega
/-- What Get makes of the figures that it has added up. -/
theorem get_of (b : List UInt8) (k : Nat) (hk : k = 12 ∨ b.length ≤ k + 1) (hk3 : k = 0 ∨ k + 1 ≤ b.length) :
    (putErr (val8 (b.take k)) b.length ≠ 0 → getN b = 0 ∧ getErr b = 2) ∧
    (putErr (val8 (b.take k)) b.length = 0 → (putT (val8 (b.take k)) b.length = b → getN b = val8 (b.take k) ∧ getErr b = 0) ∧ (putT (val8 (b.take k)) b.length ≠ b → getN b = 0 ∧ getErr b = 2)) := by
  have bad : isOct b = false → getN b = 0 ∧ getErr b = 2 := fun h => by simp [getN, getErr, h]
  have good : isOct b = true → getN b = val8 b.dropLast ∧ getErr b = 0 := fun h => by simp [getN, getErr, h]
  have hd : 2 ≤ b.length → b.length ≤ 12 → b.take k = b.dropLast := fun h1 h2 => by
    rw [List.dropLast_eq_take]; congr 1; omega
  constructor
  · intro h
    refine bad ?_
    cases ho : isOct b with
    | false => rfl
    | true =>
      obtain ⟨h1, h2, h3, h4⟩ := isOct_of ho
      refine absurd ((putErr_ok _ _).2 ⟨by omega, by omega, by omega, ?_⟩) h
      rw [hd h1 h2, Int.toNat_natCast, Int.toNat_natCast]; exact h4
  · intro h
    obtain ⟨h1, h2, h3, h4⟩ := (putErr_ok _ _).1 h
    rw [hd (by omega) (by omega)] at h ⊢
    have hp : putT (val8 b.dropLast) b.length = putL (val8 b.dropLast) b.length := by rw [putT, if_pos h, Int.toNat_natCast, Int.toNat_natCast]
    rw [hp]
    refine ⟨fun e => good ?_, fun e => bad ?_⟩
    · simp only [isOct, Bool.and_eq_true, decide_eq_true_eq, beq_iff_eq]
      exact ⟨by omega, by omega, e⟩
    · cases ho : isOct b with
      | false => rfl
      | true => exact absurd (isOct_of ho).2.2.1 e
theorem wrap_small (p : Nat) (h : p < 9223372036854775808) : IntKind.i64.wrap (p : Int) = (p : Int) := by rw [IntKind.wrap_i64]; omega
theorem next64 (k : Nat) (h : k + 1 < 9223372036854775808) : wrap64 ((k : Int) + 1) = ((k + 1 : Nat) : Int) := by rw [wrap64]; omega
end Go.Proofs.YtpgimgfoifgkfaaDoor
