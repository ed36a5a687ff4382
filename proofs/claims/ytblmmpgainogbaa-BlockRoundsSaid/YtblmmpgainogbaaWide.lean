/-
Plain mathematics: numbers of eight words of 16 bits, and their product with a number below 2 to 36.
-/
import Derived.WalkKit
namespace Go.Proofs.Ytblmmpgainogbaa
open Go.RowKit
def limb (v i : Nat) : Int := ((v / 65536 ^ i % 65536 : Nat) : Int)
def limbs (v : Nat) : Array Value := #[.int .u64 (limb v 0), .int .u64 (limb v 1), .int .u64 (limb v 2), .int .u64 (limb v 3), .int .u64 (limb v 4), .int .u64 (limb v 5), .int .u64 (limb v 6), .int .u64 (limb v 7)]
def carry (v n k : Nat) : Int := ((v % 65536 ^ k * n / 65536 ^ k : Nat) : Int)
def outAt (v k j : Nat) : Int := if j < k then limb v j else 0
def outA (v k : Nat) : Array Value := #[.int .u64 (outAt v k 0), .int .u64 (outAt v k 1), .int .u64 (outAt v k 2), .int .u64 (outAt v k 3), .int .u64 (outAt v k 4), .int .u64 (outAt v k 5), .int .u64 (outAt v k 6), .int .u64 (outAt v k 7)]
def zeros8 : Array Value := #[.int .u64 0, .int .u64 0, .int .u64 0, .int .u64 0, .int .u64 0, .int .u64 0, .int .u64 0, .int .u64 0]
theorem limb_bd (v i : Nat) : 0 ≤ limb v i ∧ limb v i < 65536 := by unfold limb; omega
theorem limbs_get (v k : Nat) (h : k < 8) : (limbs v)[k]? = some (.int .u64 (limb v k)) := by
  match k, h with
  | 0, _ | 1, _ | 2, _ | 3, _ | 4, _ | 5, _ | 6, _ | 7, _ => rfl
theorem outA_get (v j k : Nat) (h : k < 8) : (outA v j)[k]? = some (.int .u64 (outAt v j k)) := by
  match k, h with
  | 0, _ | 1, _ | 2, _ | 3, _ | 4, _ | 5, _ | 6, _ | 7, _ => rfl
theorem outA_zero (v : Nat) : outA v 0 = zeros8 := by simp [outA, outAt, zeros8]
theorem outA_full (v : Nat) : outA v 8 = limbs v := by simp [outA, outAt, limbs]
theorem outA_set (v k : Nat) (h : k < 8) : (outA v k).setIfInBounds k (.int .u64 (limb v k)) = outA v (k + 1) := by
  match k, h with
  | 0, _ | 1, _ | 2, _ | 3, _ | 4, _ | 5, _ | 6, _ | 7, _ => simp [outA, outAt]
theorem carry_bd (v n k : Nat) (hn : n < 68719476736) : 0 ≤ carry v n k ∧ carry v n k < 68719476736 := by
  unfold carry
  refine ⟨Int.natCast_nonneg _, ?_⟩
  have hp : 0 < 65536 ^ k := Nat.pow_pos (by decide)
  have h1 : v % 65536 ^ k * n / 65536 ^ k ≤ n := by
    apply Nat.div_le_of_le_mul
    exact Nat.mul_le_mul_right _ (Nat.le_of_lt (Nat.mod_lt _ hp))
  omega
theorem step_eq (v n k : Nat) : v / 65536 ^ k % 65536 * n + v % 65536 ^ k * n / 65536 ^ k = v % 65536 ^ (k + 1) * n / 65536 ^ k := by
  have hp : 0 < 65536 ^ k := Nat.pow_pos (by decide)
  have h : v % 65536 ^ (k + 1) = v % 65536 ^ k + 65536 ^ k * (v / 65536 ^ k % 65536) := by rw [Nat.pow_succ, Nat.mod_mul]
  rw [h, Nat.add_mul, Nat.mul_assoc, Nat.add_mul_div_left _ _ hp]; omega
theorem step_carry (v n k : Nat) : (limb v k * (n : Int) + carry v n k) / 65536 = carry v n (k + 1) := by
  unfold limb carry
  rw [← Int.natCast_mul, ← Int.natCast_add, step_eq, Nat.pow_succ, ← Nat.div_div_eq_div_mul]
  omega
theorem step_limb (v n k : Nat) : (limb v k * (n : Int) + carry v n k) % 65536 = limb (v * n) k := by
  have hp : 0 < 65536 ^ k := Nat.pow_pos (by decide)
  have e : v * n / 65536 ^ k % 65536 = v % 65536 ^ (k + 1) * n / 65536 ^ k % 65536 := by
    have h : v * n = v % 65536 ^ (k + 1) * n + 65536 ^ k * (65536 * (v / 65536 ^ (k + 1) * n)) := by
      have := Nat.mod_add_div v (65536 ^ (k + 1))
      calc v * n = (v % 65536 ^ (k + 1) + 65536 ^ (k + 1) * (v / 65536 ^ (k + 1))) * n := by rw [this]
        _ = _ := by rw [Nat.add_mul, Nat.pow_succ, Nat.mul_assoc, Nat.mul_assoc]
    rw [h, Nat.add_mul_div_left _ _ hp, Nat.add_mul_mod_self_left]
  unfold limb carry
  rw [← Int.natCast_mul, ← Int.natCast_add, step_eq, e]
  omega
theorem prod_bd (v n k : Nat) (hn : n < 68719476736) : 0 ≤ limb v k * (n : Int) ∧ limb v k * (n : Int) < 4503599627370496 := by
  have h := limb_bd v k
  unfold limb at h ⊢
  rw [← Int.natCast_mul]
  have : v / 65536 ^ k % 65536 * n ≤ 65535 * 68719476736 := Nat.mul_le_mul (by omega) (by omega)
  omega
theorem limbs_one : limbs 1 = #[.int .u64 1, .int .u64 0, .int .u64 0, .int .u64 0, .int .u64 0, .int .u64 0, .int .u64 0, .int .u64 0] := by
  simp [limbs, limb]
theorem part_eq (a k : Nat) : a / 65536 ^ k = 65536 * (a / 65536 ^ (k + 1)) + a / 65536 ^ k % 65536 := by
  rw [Nat.pow_succ, ← Nat.div_div_eq_div_mul]; omega
theorem part_same (a b k : Nat) (h : a / 65536 ^ (k + 1) = b / 65536 ^ (k + 1)) (hl : limb a k = limb b k) : a / 65536 ^ k = b / 65536 ^ k := by
  unfold limb at hl
  rw [part_eq a k, part_eq b k, h]; omega
theorem part_above (a b k : Nat) (h : a / 65536 ^ (k + 1) = b / 65536 ^ (k + 1)) (hl : limb a k ≠ limb b k) : decide (limb b k < limb a k) = decide (b < a) := by
  unfold limb at hl ⊢
  have ha := part_eq a k
  have hb := part_eq b k
  have hp : 0 < 65536 ^ k := Nat.pow_pos (by decide)
  rw [decide_eq_decide]
  constructor
  · intro g
    have : b / 65536 ^ k < a / 65536 ^ k := by omega
    exact Nat.lt_of_not_le fun le => absurd (Nat.div_le_div_right (c := 65536 ^ k) le) (by omega)
  · intro g
    have h1 : b / 65536 ^ k ≤ a / 65536 ^ k := Nat.div_le_div_right (Nat.le_of_lt g)
    have h2 : a / 65536 ^ k ≠ b / 65536 ^ k := by omega
    omega
/-- What a k-th power is held against: p, moved by 32 k bits. -/
def goalN (p k : Nat) : Nat := p * 65536 ^ (2 * k)
/-- The step of the search behind j rounds: 2 to 36, halved j times. -/
def stepAt (j : Nat) : Nat := 68719476736 / 2 ^ j
def rootStep (p k n step : Nat) : Nat := if n + step < 68719476736 ∧ (n + step) ^ k ≤ goalN p k then n + step else n
/-- What the search has found behind j rounds. -/
def rootAt (p k : Nat) : Nat → Nat
  | 0 => 0
  | j + 1 => rootStep p k (rootAt p k j) (stepAt j)
theorem stepAt_bd (j : Nat) : stepAt j ≤ 68719476736 := Nat.div_le_self _ _
theorem stepAt_succ (j : Nat) : stepAt j / 2 = stepAt (j + 1) := by
  unfold stepAt; rw [Nat.pow_succ, Nat.div_div_eq_div_mul]
theorem stepAt_pos (j : Nat) (h : j < 37) : 0 < stepAt j := by
  unfold stepAt
  have h1 : 2 ^ j ≤ 2 ^ 36 := Nat.pow_le_pow_right (by decide) (by omega)
  exact Nat.div_pos (by simpa using h1) (Nat.pow_pos (by decide))
theorem stepAt_end : stepAt 37 = 0 := by decide
theorem rootAt_yes (p k j : Nat) (h1 : rootAt p k j + stepAt j < 68719476736) (h2 : ¬ goalN p k < (rootAt p k j + stepAt j) ^ k) : rootAt p k (j + 1) = rootAt p k j + stepAt j := by
  show rootStep p k (rootAt p k j) (stepAt j) = _
  unfold rootStep; rw [if_pos ⟨h1, Nat.le_of_not_lt h2⟩]
theorem rootAt_no (p k j : Nat) (h : ¬ rootAt p k j + stepAt j < 68719476736 ∨ goalN p k < (rootAt p k j + stepAt j) ^ k) : rootAt p k (j + 1) = rootAt p k j := by
  show rootStep p k (rootAt p k j) (stepAt j) = _
  unfold rootStep; rw [if_neg]
  rintro ⟨a, b⟩
  rcases h with h | h
  · exact h a
  · exact Nat.not_lt_of_le b h
theorem stepAt_half (j : Nat) : (stepAt j : Int) / 2 = (stepAt (j + 1) : Nat) := by
  have := stepAt_succ j; omega
theorem rootAt_bd (p k j : Nat) : rootAt p k j < 68719476736 := by
  induction j with
  | zero => show 0 < 68719476736; omega
  | succ j ih =>
    unfold rootAt rootStep
    split
    · omega
    · exact ih
/-- A block's eight cells are the words of v. -/
def Goal8 (v g : Nat) (w : World) : Prop :=
  w.cell? ⟨g, 0, none⟩ = some (.int .u64 (limb v 0)) ∧ w.cell? ⟨g, 1, none⟩ = some (.int .u64 (limb v 1)) ∧ w.cell? ⟨g, 2, none⟩ = some (.int .u64 (limb v 2)) ∧ w.cell? ⟨g, 3, none⟩ = some (.int .u64 (limb v 3)) ∧
  w.cell? ⟨g, 4, none⟩ = some (.int .u64 (limb v 4)) ∧ w.cell? ⟨g, 5, none⟩ = some (.int .u64 (limb v 5)) ∧ w.cell? ⟨g, 6, none⟩ = some (.int .u64 (limb v 6)) ∧ w.cell? ⟨g, 7, none⟩ = some (.int .u64 (limb v 7))
theorem goal8_of {v g : Nat} {t : TypeId} {w : World} (h : w.heap[g]? = some (.cells (limbs v) t (0, 0))) : Goal8 v g w :=
  ⟨cell_of_row w g 0 _ _ _ h, cell_of_row w g 1 _ _ _ h, cell_of_row w g 2 _ _ _ h, cell_of_row w g 3 _ _ _ h, cell_of_row w g 4 _ _ _ h, cell_of_row w g 5 _ _ _ h, cell_of_row w g 6 _ _ _ h, cell_of_row w g 7 _ _ _ h⟩
theorem limbs_goal2 (p : Nat) (hp : p < 65536) : limbs (goalN p 2) = #[.int .u64 0, .int .u64 0, .int .u64 0, .int .u64 0, .int .u64 p, .int .u64 0, .int .u64 0, .int .u64 0] := by
  simp [limbs, limb, goalN]; omega
theorem limbs_goal3 (p : Nat) (hp : p < 65536) : limbs (goalN p 3) = #[.int .u64 0, .int .u64 0, .int .u64 0, .int .u64 0, .int .u64 0, .int .u64 0, .int .u64 p, .int .u64 0] := by
  simp [limbs, limb, goalN]; omega
theorem top_power (n k : Nat) (hn : n < 68719476736) (hk : k ≤ 3) : n ^ k / 65536 ^ 8 = 0 := by
  have h : n ^ k ≤ 68719476736 ^ k := Nat.pow_le_pow_left (by omega) k
  have h2 : 68719476736 ^ k ≤ 68719476736 ^ 3 := Nat.pow_le_pow_right (by decide) hk
  exact Nat.div_eq_of_lt (Nat.lt_of_le_of_lt (Nat.le_trans h h2) (by decide))
theorem top_goal (p k : Nat) (hp : p < 65536) (hk : k ≤ 3) : goalN p k / 65536 ^ 8 = 0 := by
  unfold goalN
  have h2 : 65536 ^ (2 * k) ≤ 65536 ^ 6 := Nat.pow_le_pow_right (by decide) (by omega)
  have h3 : p * 65536 ^ (2 * k) ≤ 65535 * 65536 ^ 6 := Nat.mul_le_mul (by omega) h2
  exact Nat.div_eq_of_lt (Nat.lt_of_le_of_lt h3 (by decide))
def cubeRoot (p : Nat) : Nat := rootAt p 3 37
def squareRoot (p : Nat) : Nat := rootAt p 2 37
theorem cubeRoot_eq (p : Nat) : cubeRoot p = rootAt p 3 37 := rfl
theorem squareRoot_eq (p : Nat) : squareRoot p = rootAt p 2 37 := rfl
theorem cubeRoot_bd (p : Nat) : cubeRoot p < 68719476736 := rootAt_bd p 3 37
theorem squareRoot_bd (p : Nat) : squareRoot p < 68719476736 := rootAt_bd p 2 37
attribute [irreducible] cubeRoot squareRoot
end Go.Proofs.Ytblmmpgainogbaa
