/-
Numbers as floats: how the floats nearest to two numbers of 64 bits stand to each other (never the wrong way round; below 2^53 as the numbers do). No program is named here.
-/
import Derived.Laws.FloatArith
namespace Go.Proofs.YtfechljjkblkhaaDoor
open Ieee
def frac : Nat := 2 ^ 52
theorem frac_pos : 0 < frac := Nat.two_pow_pos _
/-- What the rungs of double floats stand for, in units of the least. -/
def rungV (r : Nat) : Nat := if r < frac then r else (frac + r % frac) * 2 ^ (r / frac - 1)
def rungExp (r : Nat) : Nat := if r < frac then 0 else r / frac - 1
def rungMant (r : Nat) : Nat := if r < frac then r else frac + r % frac
theorem rungV_eq (r : Nat) : rungV r = rungMant r * 2 ^ rungExp r := by
  unfold rungV rungMant rungExp
  split <;> simp
theorem rungV_mono {r q : Nat} (h : r ≤ q) : rungV r ≤ rungV q := by
  have hp := frac_pos
  unfold rungV
  by_cases h1 : r < frac
  · rw [if_pos h1]
    by_cases h2 : q < frac
    · rw [if_pos h2]; exact h
    · rw [if_neg h2]
      have : 1 ≤ 2 ^ (q / frac - 1) := Nat.two_pow_pos _
      calc r ≤ (frac + q % frac) * 1 := by omega
        _ ≤ _ := Nat.mul_le_mul_left _ this
  · rw [if_neg h1, if_neg (by omega)]
    have a := Nat.div_add_mod r frac
    have b := Nat.div_add_mod q frac
    have c := Nat.mod_lt r hp
    have d := Nat.mod_lt q hp
    have e1 : 1 ≤ r / frac := (Nat.le_div_iff_mul_le hp).2 (by omega)
    have e : r / frac ≤ q / frac := Nat.div_le_div_right h
    rcases Nat.lt_or_eq_of_le e with e | e
    · obtain ⟨k, hk⟩ : ∃ k, q / frac - 1 = (r / frac - 1) + 1 + k := ⟨q / frac - 1 - (r / frac - 1) - 1, by omega⟩
      rw [hk, Nat.pow_add, Nat.pow_succ]
      generalize 2 ^ (r / frac - 1) = P
      have : 1 ≤ 2 ^ k := Nat.two_pow_pos _
      calc (frac + r % frac) * P ≤ (2 * frac) * P := Nat.mul_le_mul_right _ (by omega)
        _ = frac * (P * 2 * 1) := by simp [Nat.mul_comm, Nat.mul_left_comm]
        _ ≤ (frac + q % frac) * (P * 2 * 2 ^ k) := Nat.mul_le_mul (by omega) (Nat.mul_le_mul_left _ this)
    · rw [← e]
      refine Nat.mul_le_mul_right _ ?_
      rw [← e] at b
      omega
def sgn (s : Bool) (n : Nat) : Int := if s then -(n : Int) else n
theorem read_word (s : Bool) (r : Nat) (h : r < double.infRung) : double.read (double.word s r) = .number s (rungMant r) (double.leastPlace + (rungExp r : Nat)) := by
  have hw := double.infRung_lt
  have hq : r < double.signWeight := Nat.lt_trans h hw
  have hpos : 0 < double.signWeight := Nat.lt_of_le_of_lt (Nat.zero_le _) hq
  have e1 : (double.word s r / double.signWeight % 2 == 1) = s := by
    cases s with
    | false => simp [Format.word, Nat.div_eq_of_lt hq]
    | true =>
      have : (double.signWeight + r) / double.signWeight = 1 := by rw [Nat.add_div_left _ hpos, Nat.div_eq_of_lt hq]
      simp [Format.word, this]
  have e2 : double.word s r % double.signWeight = r := by
    cases s with
    | false => simp [Format.word, Nat.mod_eq_of_lt hq]
    | true => simp [Format.word, Nat.mod_eq_of_lt hq]
  unfold Format.read
  simp only [e1, e2]
  have hb : double.binade = frac := rfl
  rw [hb]
  unfold rungMant rungExp
  split
  · simp
  · first | rfl | (rw [if_pos h])
theorem order_words (s t : Bool) (r q : Nat) (hr : r < double.infRung) (hq : q < double.infRung) :
    double.order (double.word s r) (double.word t q) = some (compare (sgn s (rungV r)) (sgn t (rungV q))) := by
  unfold Format.order
  rw [read_word s r hr, read_word t q hq, rungV_eq, rungV_eq]
  generalize rungMant r = m
  generalize rungMant q = n
  generalize rungExp r = i
  generalize rungExp q = j
  generalize double.leastPlace = L
  unfold Datum.order
  simp only
  congr 1
  have key : ∀ (c : Nat) (x y : Int), compare x y = compare (x * (2 ^ c : Nat)) (y * (2 ^ c : Nat)) := by
    intro c x y
    have hp : (0 : Int) < ((2 ^ c : Nat) : Int) := by exact_mod_cast Nat.two_pow_pos c
    generalize ((2 ^ c : Nat) : Int) = C at hp
    simp only [compare, compareOfLessAndEq]
    have a : (x * C < y * C) ↔ x < y := Int.mul_lt_mul_right hp
    have b : (x * C = y * C) ↔ x = y := by
      constructor
      · exact fun h => Int.eq_of_mul_eq_mul_right (by omega) h
      · exact fun h => by rw [h]
    simp only [a, b]
  have sg : ∀ (s : Bool) (m k c : Nat), signed s m k * ((2 ^ c : Nat) : Int) = sgn s (m * 2 ^ (k + c)) := by
    intro s m k c
    unfold signed sgn
    rw [Nat.shiftLeft_eq, Nat.pow_add, ← Nat.mul_assoc]
    cases s <;> simp [Int.neg_mul]
  rw [key (min i j), sg, sg]
  have h1 : (L + (i : Int) - min (L + (i : Int)) (L + (j : Int))).toNat + min i j = i := by omega
  have h2 : (L + (j : Int) - min (L + (i : Int)) (L + (j : Int))).toNat + min i j = j := by omega
  rw [h1, h2]
/-- The rung of the float nearest to a number. -/
def kept (n : Nat) : Nat := Toward.even.cut false (n <<< (52 - n.log2)) (n.log2 - 52)
def rungN (n : Nat) : Nat := if n = 0 then 0 else (1022 + n.log2) * frac + kept n
theorem cut_neg (a b : Bool) (n d : Nat) : Toward.even.cut a n d = Toward.even.cut b n d := rfl
theorem infRung_val : double.infRung = 2047 * frac := by rfl
theorem nearest_num (n : Int) (h : rungN n.natAbs < double.infRung) : FloatKind.f64.nearest n = double.word (decide (n < 0)) (rungN n.natAbs) := by
  unfold FloatKind.nearest FloatKind.encode Format.write FloatKind.format
  simp only
  unfold Format.nearest
  by_cases h0 : n.natAbs = 0
  · rw [if_pos h0, h0]; rfl
  · rw [if_neg h0]
    have hl : double.leastPlace = -1074 := by decide
    have hf : double.fractionBits = 52 := rfl
    have hb : double.binade = frac := rfl
    rw [hl, hf, hb]
    have e1 : max (0 + (n.natAbs.log2 : Int) - (52 : Nat)) (-1074) = (n.natAbs.log2 : Int) - 52 := by omega
    simp only [e1]
    have e2 : (0 - ((n.natAbs.log2 : Int) - 52)).toNat = 52 - n.natAbs.log2 := by omega
    have e3 : ((n.natAbs.log2 : Int) - 52 - 0).toNat = n.natAbs.log2 - 52 := by omega
    have e4 : ((n.natAbs.log2 : Int) - 52 - -1074).toNat = 1022 + n.natAbs.log2 := by omega
    rw [e2, e3, e4]
    have h1 : (1022 + n.natAbs.log2) * frac + Toward.even.cut (decide (n < 0)) (n.natAbs <<< (52 - n.natAbs.log2)) (n.natAbs.log2 - 52) = rungN n.natAbs := by
      rw [rungN, if_neg h0]; rfl
    rw [h1, Nat.min_eq_left (Nat.le_of_lt h)]
theorem cut_even (s : Bool) (n d : Nat) (hd : d ≤ n.log2 + 2) : Toward.even.cut s n d = n / 2 ^ d + (decide (2 ^ d < 2 * (n % 2 ^ d)) || (2 ^ d == 2 * (n % 2 ^ d) && n / 2 ^ d % 2 == 1)).toNat := by
  unfold Toward.cut
  simp only [Nat.shiftLeft_eq, Nat.one_mul, Nat.min_eq_left hd]
/-- A number of 53 digits at most is kept whole. -/
theorem kept_small (n : Nat) (h : n.log2 ≤ 52) : kept n = n * 2 ^ (52 - n.log2) := by
  unfold kept
  rw [show n.log2 - 52 = 0 by omega, cut_even _ _ _ (Nat.zero_le _), Nat.shiftLeft_eq]
  simp [Nat.mod_one]
theorem kept_big (n : Nat) (h : 52 ≤ n.log2) : kept n = n / 2 ^ (n.log2 - 52) + (decide (2 ^ (n.log2 - 52) < 2 * (n % 2 ^ (n.log2 - 52))) || (2 ^ (n.log2 - 52) == 2 * (n % 2 ^ (n.log2 - 52)) && n / 2 ^ (n.log2 - 52) % 2 == 1)).toNat := by
  unfold kept
  rw [show 52 - n.log2 = 0 by omega, Nat.shiftLeft_zero, cut_even _ _ _ (by omega)]
theorem kept_bounds (n : Nat) (h0 : n ≠ 0) : frac ≤ kept n ∧ kept n ≤ 2 * frac := by
  have l1 := Nat.log2_self_le h0
  have l2 : n < 2 ^ (n.log2 + 1) := Nat.lt_log2_self
  rcases Nat.le_total n.log2 52 with h | h
  · rw [kept_small n h]
    have e : frac = 2 ^ n.log2 * 2 ^ (52 - n.log2) := by rw [← Nat.pow_add, frac]; congr 1; omega
    have e2 : 2 * frac = 2 ^ (n.log2 + 1) * 2 ^ (52 - n.log2) := by rw [e, Nat.pow_succ, Nat.mul_comm (2 ^ n.log2) 2, Nat.mul_assoc]
    rw [e2, e]
    exact ⟨Nat.mul_le_mul_right _ l1, Nat.mul_le_mul_right _ (Nat.le_of_lt l2)⟩
  · rw [kept_big n h]
    have hp : 0 < 2 ^ (n.log2 - 52) := Nat.two_pow_pos _
    have e : frac * 2 ^ (n.log2 - 52) = 2 ^ n.log2 := by rw [frac, ← Nat.pow_add]; congr 1; omega
    have e2 : (2 * frac) * 2 ^ (n.log2 - 52) = 2 ^ (n.log2 + 1) := by rw [Nat.mul_assoc, e, Nat.pow_succ, Nat.mul_comm]
    have a : frac ≤ n / 2 ^ (n.log2 - 52) := (Nat.le_div_iff_mul_le hp).2 (by rw [e]; exact l1)
    have b : n / 2 ^ (n.log2 - 52) < 2 * frac := (Nat.div_lt_iff_lt_mul hp).2 (by rw [e2]; exact l2)
    have c : ∀ x : Bool, x.toNat ≤ 1 := by decide
    have := c (decide (2 ^ (n.log2 - 52) < 2 * (n % 2 ^ (n.log2 - 52))) || (2 ^ (n.log2 - 52) == 2 * (n % 2 ^ (n.log2 - 52)) && n / 2 ^ (n.log2 - 52) % 2 == 1))
    omega
/-- Rounding rises. -/
theorem round_mono (p n m : Nat) (h : n ≤ m) :
    n / p + (decide (p < 2 * (n % p)) || (p == 2 * (n % p) && n / p % 2 == 1)).toNat ≤ m / p + (decide (p < 2 * (m % p)) || (p == 2 * (m % p) && m / p % 2 == 1)).toNat := by
  have c : ∀ x : Bool, x.toNat ≤ 1 := by decide
  have e : n / p ≤ m / p := Nat.div_le_div_right h
  rcases Nat.lt_or_eq_of_le e with e | e
  · have := c (decide (p < 2 * (n % p)) || (p == 2 * (n % p) && n / p % 2 == 1))
    omega
  · have a := Nat.div_add_mod n p
    have b := Nat.div_add_mod m p
    rw [e] at a ⊢
    have hm : n % p ≤ m % p := by omega
    refine Nat.add_le_add_left ?_ _
    generalize n % p = x at *
    generalize m % p = y at *
    generalize m / p % 2 = z at *
    by_cases h1 : p < 2 * y
    · simp [h1]; exact c _
    · have h2 : ¬ p < 2 * x := by omega
      simp only [h1, h2, decide_false, Bool.false_or]
      by_cases h3 : p = 2 * x
      · have : p = 2 * y := by omega
        rw [show (p == 2 * x) = true from by simpa using h3, show (p == 2 * y) = true from by simpa using this]
        exact Nat.le_refl _
      · rw [show (p == 2 * x) = false from by simpa using h3]; simp
theorem rungN_mono {n m : Nat} (h : n ≤ m) : rungN n ≤ rungN m := by
  unfold rungN
  by_cases h0 : n = 0
  · rw [if_pos h0]; exact Nat.zero_le _
  · rw [if_neg h0, if_neg (by omega)]
    have hm : m ≠ 0 := by omega
    have b1 := kept_bounds n h0
    have b2 := kept_bounds m hm
    have hl : n.log2 ≤ m.log2 := by
      rcases Nat.lt_or_ge m.log2 n.log2 with hc | hc
      · exfalso
        have l1 := Nat.log2_self_le h0
        have l2 : m < 2 ^ (m.log2 + 1) := Nat.lt_log2_self
        have : 2 ^ (m.log2 + 1) ≤ 2 ^ n.log2 := Nat.pow_le_pow_right (by decide) hc
        omega
      · exact hc
    rcases Nat.lt_or_eq_of_le hl with hl | hl
    · have : (1022 + n.log2) * frac + frac ≤ (1022 + m.log2) * frac := by
        rw [← Nat.succ_mul]; exact Nat.mul_le_mul_right _ (by omega)
      omega
    · rw [hl]
      refine Nat.add_le_add_left ?_ _
      rcases Nat.le_total m.log2 52 with h1 | h1
      · rw [kept_small n (by omega), kept_small m h1, hl]; exact Nat.mul_le_mul_right _ h
      · rw [kept_big n (by omega), kept_big m h1, hl]; exact round_mono _ _ _ h
/-- A number of 64 bits has a finite rung. -/
theorem rungN_lt (n : Nat) (h : n ≤ 9223372036854775808) : rungN n < double.infRung := by
  have h1 := rungN_mono h
  have h2 : rungN 9223372036854775808 < double.infRung := by decide +kernel
  omega
/-- What a float of a number stands for, in units of the least. -/
def floatV (a : Int) : Int := sgn (decide (a < 0)) (rungV (rungN a.natAbs))
theorem order_nums (a b : Int) (ha : a.natAbs ≤ 9223372036854775808) (hb : b.natAbs ≤ 9223372036854775808) :
    FloatKind.f64.format.order (FloatKind.f64.nearest a) (FloatKind.f64.nearest b) = some (compare (floatV a) (floatV b)) := by
  have h1 := rungN_lt _ ha
  have h2 := rungN_lt _ hb
  rw [nearest_num a h1, nearest_num b h2]
  exact order_words _ _ _ _ h1 h2
theorem floatV_mono {a b : Int} (h : a ≤ b) : floatV a ≤ floatV b := by
  unfold floatV sgn
  by_cases h1 : a < 0
  · by_cases h2 : b < 0
    · have := rungV_mono (rungN_mono (show b.natAbs ≤ a.natAbs by omega))
      simp [h1, h2]; omega
    · simp [h1, h2]
      first | omega | skip
  · have := rungV_mono (rungN_mono (show a.natAbs ≤ b.natAbs by omega))
    have h2 : ¬ b < 0 := by omega
    simp [h1, h2]; omega
theorem rungV_small (k : Nat) (hk : k = 1074) (n : Nat) (h : n < 9007199254740992) : rungV (rungN n) = n * 2 ^ k := by
  by_cases h0 : n = 0
  · subst h0; simp [rungN, rungV, frac_pos]
  · have l1 := Nat.log2_self_le h0
    have hl : n.log2 ≤ 52 := by
      rcases Nat.lt_or_ge 52 n.log2 with hc | hc
      · exfalso
        have : 2 ^ 53 ≤ 2 ^ n.log2 := Nat.pow_le_pow_right (by decide) hc
        omega
      · exact hc
    have hb : n < 2 ^ (n.log2 + 1) := Nat.lt_log2_self
    have k1 := kept_small n hl
    have kb := kept_bounds n h0
    have k2 : kept n < 2 * frac := by
      have e : frac = 2 ^ n.log2 * 2 ^ (52 - n.log2) := by rw [← Nat.pow_add, frac]; congr 1; omega
      have e2 : 2 * frac = 2 ^ (n.log2 + 1) * 2 ^ (52 - n.log2) := by rw [e, Nat.pow_succ, Nat.mul_comm (2 ^ n.log2) 2, Nat.mul_assoc]
      rw [k1, e2]
      exact Nat.mul_lt_mul_of_pos_right hb (Nat.two_pow_pos _)
    have hp := frac_pos
    obtain ⟨f, hf⟩ : ∃ f, kept n = frac + f := ⟨kept n - frac, by omega⟩
    have hf2 : f < frac := by omega
    have hr : rungN n = f + frac * (1022 + n.log2 + 1) := by
      rw [rungN, if_neg h0, hf, Nat.mul_comm frac, Nat.succ_mul]; omega
    have d1 : rungN n / frac = 1022 + n.log2 + 1 := by rw [hr, Nat.add_mul_div_left _ _ hp, Nat.div_eq_of_lt hf2, Nat.zero_add]
    have d2 : rungN n % frac = f := by rw [hr, Nat.add_mul_mod_self_left, Nat.mod_eq_of_lt hf2]
    have d3 : ¬ rungN n < frac := by
      intro hc
      have := Nat.div_eq_of_lt hc
      omega
    rw [rungV, if_neg d3, d1, d2, ← hf, k1, Nat.mul_assoc, ← Nat.pow_add]
    congr 2
    omega
theorem floatV_small (k : Nat) (hk : k = 1074) (a : Int) (h : a.natAbs < 9007199254740992) : floatV a = a * ((2 ^ k : Nat) : Int) := by
  unfold floatV sgn
  rw [rungV_small k hk _ h]
  generalize (2 : Nat) ^ k = B
  by_cases h1 : a < 0
  · simp only [h1, decide_true, if_true]
    rw [Int.natCast_mul, ← Int.neg_mul]
    congr 1
    omega
  · simp only [h1, decide_false, Bool.false_eq_true, if_false]
    rw [Int.natCast_mul]
    congr 1
    omega
theorem floatV_lt {a b : Int} (ha : a.natAbs < 9007199254740992) (hb : b.natAbs < 9007199254740992) : floatV a < floatV b ↔ a < b := by
  obtain ⟨k, hk⟩ : ∃ k, k = 1074 := ⟨_, rfl⟩
  rw [floatV_small k hk a ha, floatV_small k hk b hb]
  have hp : (0 : Int) < ((2 ^ k : Nat) : Int) := Int.natCast_pos.2 (Nat.two_pow_pos _)
  exact Int.mul_lt_mul_right hp
theorem floatV_eq {a b : Int} (ha : a.natAbs < 9007199254740992) (hb : b.natAbs < 9007199254740992) : floatV a = floatV b ↔ a = b := by
  constructor
  · intro h
    have h1 : ¬ a < b := fun c => by have := (floatV_lt ha hb).2 c; omega
    have h2 : ¬ b < a := fun c => by have := (floatV_lt hb ha).2 c; omega
    omega
  · exact fun h => by rw [h]
end Go.Proofs.YtfechljjkblkhaaDoor
