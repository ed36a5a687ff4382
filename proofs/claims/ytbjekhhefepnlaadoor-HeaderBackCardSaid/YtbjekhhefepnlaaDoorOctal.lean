/-
Plain mathematics of header fields: figures to the base 8, texts with bytes 0 behind them, a header's sum; no program is named here.
-/
import Derived.Test.YtbjekhhefepnlaaDoorText
namespace Go.Proofs.YtbjekhhefepnlaaDoor
open Go.RowKit
/-- The last k figures to the base 8 of a number. -/
def octs : Nat → Nat → List UInt8
  | 0, _ => []
  | k + 1, n => octs k (n / 8) ++ [UInt8.ofNat (48 + n % 8)]
theorem octs_zero (n : Nat) : octs 0 n = [] := rfl
theorem octs_succ (k n : Nat) : octs (k + 1) n = octs k (n / 8) ++ [UInt8.ofNat (48 + n % 8)] := rfl
theorem oct_toNat (m : Nat) (h : m < 8) : (UInt8.ofNat (48 + m)).toNat = 48 + m := by rw [UInt8.toNat_ofNat', Nat.mod_eq_of_lt (by omega)]
theorem octs_length (k n : Nat) : (octs k n).length = k := by
  induction k generalizing n with
  | zero => rfl
  | succ k ih => rw [octs_succ, List.length_append, ih]; rfl
/-- The figures from the front. -/
theorem octs_front (k n : Nat) : octs (k + 1) n = UInt8.ofNat (48 + n / 8 ^ k % 8) :: octs k n := by
  induction k generalizing n with
  | zero => simp [octs]
  | succ k ih =>
    rw [octs_succ, ih, octs_succ k n, List.cons_append]
    congr 3
    rw [Nat.div_div_eq_div_mul, Nat.pow_succ, Nat.mul_comm 8]
/-- The number of figures, by their last three bits. -/
def val8 (l : List UInt8) : Nat := l.foldl (fun n c => 8 * n + c.toNat % 8) 0
theorem val8_nil : val8 [] = 0 := rfl
theorem val8_snoc (l : List UInt8) (c : UInt8) : val8 (l ++ [c]) = 8 * val8 l + c.toNat % 8 := by simp [val8, List.foldl_append]
theorem val8_octs (k n : Nat) (h : n < 8 ^ k) : val8 (octs k n) = n := by
  induction k generalizing n with
  | zero => simp at h; subst h; rfl
  | succ k ih =>
    rw [octs_succ, val8_snoc, oct_toNat _ (by omega), ih (n / 8) (by rw [Nat.pow_succ] at h; omega)]
    omega
theorem val8_lt (l : List UInt8) : val8 l < 8 ^ l.length := by
  obtain ⟨n, hn⟩ : ∃ n, n = l.length := ⟨_, rfl⟩
  induction n generalizing l with
  | zero => obtain rfl : l = [] := List.eq_nil_of_length_eq_zero hn.symm; decide
  | succ n ih =>
    rcases List.eq_nil_or_concat l with rfl | ⟨t, c, rfl⟩
    · simp at hn
    · rw [List.concat_eq_append] at hn ⊢
      rw [List.length_append, List.length_singleton] at hn ⊢
      rw [val8_snoc, Nat.pow_succ]
      have := ih t (by omega)
      omega
theorem octs_inj (k n m : Nat) (hn : n < 8 ^ k) (hm : m < 8 ^ k) (h : octs k n = octs k m) : n = m := by
  rw [← val8_octs k n hn, h, val8_octs k m hm]
/-- A number's field. -/
def putL (n w : Nat) : List UInt8 := octs (w - 1) n ++ [0]
theorem putL_length (n w : Nat) (h : 1 ≤ w) : (putL n w).length = w := by rw [putL, List.length_append, octs_length]; simp; omega
/-- What Put answers: a field and an error's number. -/
def putErr (n w : Int) : Int := if w < 2 ∨ 12 < w then 1 else if n < 0 then 8 else if n.toNat / 8 ^ (w.toNat - 1) ≠ 0 then 8 else 0
def putT (n w : Int) : List UInt8 := if putErr n w = 0 then putL n.toNat w.toNat else []
theorem putErr_width (n w : Int) : putErr n w = 1 ↔ w < 2 ∨ 12 < w := by
  unfold putErr
  by_cases h : w < 2 ∨ 12 < w
  · simp [h]
  · rw [if_neg h]
    refine ⟨fun e => ?_, fun e => absurd e h⟩
    split at e
    · cases e
    · split at e <;> cases e
theorem putErr_ok (n w : Int) : putErr n w = 0 ↔ 2 ≤ w ∧ w ≤ 12 ∧ 0 ≤ n ∧ n.toNat < 8 ^ (w.toNat - 1) := by
  unfold putErr
  by_cases h : w < 2 ∨ 12 < w
  · rw [if_pos h]; constructor
    · intro e; cases e
    · intro e; omega
  · rw [if_neg h]
    by_cases h1 : n < 0
    · rw [if_pos h1]; constructor
      · intro e; cases e
      · intro e; omega
    · rw [if_neg h1]
      have hp : 0 < 8 ^ (w.toNat - 1) := Nat.pow_pos (by decide)
      by_cases h2 : n.toNat / 8 ^ (w.toNat - 1) = 0
      · rw [if_neg (by simpa using h2)]
        have := (Nat.div_eq_zero_iff_lt hp).1 h2
        exact ⟨fun _ => ⟨by omega, by omega, by omega, this⟩, fun _ => rfl⟩
      · rw [if_pos h2]; constructor
        · intro e; cases e
        · rintro ⟨_, _, _, e⟩; exact absurd ((Nat.div_eq_zero_iff_lt hp).2 e) h2
theorem putErr_cases (n w : Int) : putErr n w = 0 ∨ putErr n w = 1 ∨ putErr n w = 8 := by
  unfold putErr; split
  · exact .inr (.inl rfl)
  · split
    · exact .inr (.inr rfl)
    · split
      · exact .inr (.inr rfl)
      · exact .inl rfl
/-- Is it a number's field? -/
def isOct (b : List UInt8) : Bool := decide (2 ≤ b.length) && (decide (b.length ≤ 12) && (putL (val8 b.dropLast) b.length == b))
/-- What Get answers. -/
def getN (b : List UInt8) : Int := if isOct b then val8 b.dropLast else 0
def getErr (b : List UInt8) : Int := if isOct b then 0 else 2
theorem isOct_putL (n w : Nat) (h2 : 2 ≤ w) (h12 : w ≤ 12) (h : n < 8 ^ (w - 1)) : isOct (putL n w) = true ∧ val8 (putL n w).dropLast = n := by
  have hl := putL_length n w (by omega)
  have hv : val8 (putL n w).dropLast = n := by rw [putL, List.dropLast_concat, val8_octs _ _ h]
  refine ⟨?_, hv⟩
  simp [isOct, hl, hv, h2, h12]
theorem isOct_of {b : List UInt8} (h : isOct b = true) : 2 ≤ b.length ∧ b.length ≤ 12 ∧ putL (val8 b.dropLast) b.length = b ∧ val8 b.dropLast < 8 ^ (b.length - 1) := by
  simp only [isOct, Bool.and_eq_true, decide_eq_true_eq, beq_iff_eq] at h
  refine ⟨h.1, h.2.1, h.2.2, ?_⟩
  have := val8_lt b.dropLast
  rwa [List.length_dropLast] at this
/-- What was put is got. -/
theorem get_put (n w : Int) (h : putErr n w = 0) : getN (putT n w) = n ∧ getErr (putT n w) = 0 ∧ (putT n w).length = w.toNat := by
  obtain ⟨h1, h2, h3, h4⟩ := (putErr_ok n w).1 h
  obtain ⟨e1, e2⟩ := isOct_putL n.toNat w.toNat (by omega) (by omega) h4
  rw [putT, if_pos h, getN, getErr, if_pos e1, if_pos e1, e2, putL_length _ _ (by omega)]
  exact ⟨by omega, rfl, rfl⟩
/-- What is got is put as it stood. -/
theorem put_get (b : List UInt8) (h : getErr b = 0) : putErr (getN b) b.length = 0 ∧ putT (getN b) b.length = b := by
  have ho : isOct b = true := by
    unfold getErr at h
    by_cases e : isOct b = true
    · exact e
    · rw [if_neg e] at h; cases h
  obtain ⟨h1, h2, h3, h4⟩ := isOct_of ho
  have he : putErr (getN b) b.length = 0 := (putErr_ok _ _).2 ⟨by omega, by omega, by rw [getN, if_pos ho]; omega, by rw [getN, if_pos ho]; simpa using h4⟩
  refine ⟨he, ?_⟩
  rw [putT, if_pos he, getN, if_pos ho]
  simpa using h3
/-- Fields of one width stand in the order of their numbers. -/
theorem oct_lt {n m : Nat} (hn : n < 8) (hm : m < 8) : (decide (UInt8.ofNat (48 + n) < UInt8.ofNat (48 + m))) = decide (n < m) := by
  rw [decide_eq_decide, UInt8.lt_iff_toNat_lt, oct_toNat n hn, oct_toNat m hm]; omega
theorem oct_beq {n m : Nat} (hn : n < 8) (hm : m < 8) : (UInt8.ofNat (48 + n) == UInt8.ofNat (48 + m)) = decide (n = m) := by
  rw [Bool.eq_iff_iff, beq_iff_eq, decide_eq_true_eq]
  refine ⟨fun h => ?_, fun h => by rw [h]⟩
  have := congrArg UInt8.toNat h
  rw [oct_toNat n hn, oct_toNat m hm] at this
  omega
theorem octs_mod (k n : Nat) : octs k (n % 8 ^ k) = octs k n := by
  induction k generalizing n with
  | zero => rfl
  | succ k ih =>
    rw [octs_succ, octs_succ]
    have h1 : n % 8 ^ (k + 1) / 8 = n / 8 % 8 ^ k := by rw [Nat.pow_succ, Nat.mul_comm, Nat.mod_mul_right_div_self]
    have h2 : n % 8 ^ (k + 1) % 8 = n % 8 := Nat.mod_mod_of_dvd n ⟨8 ^ k, by rw [Nat.pow_succ, Nat.mul_comm]⟩
    rw [h1, h2, ih]
theorem order_octs (k : Nat) : ∀ (n m : Nat) (r : List UInt8), Op.bytesLess r r = false → n < 8 ^ k → m < 8 ^ k → Op.bytesLess (octs k n ++ r) (octs k m ++ r) = decide (n < m) := by
  induction k with
  | zero => intro n m r hr hn hm; simp at hn hm; subst hn; subst hm; simpa [octs] using hr
  | succ k ih =>
    intro n m r hr hn hm
    have hp : 0 < 8 ^ k := Nat.pow_pos (by decide)
    rw [Nat.pow_succ] at hn hm
    have hn8 : n / 8 ^ k < 8 := (Nat.div_lt_iff_lt_mul hp).2 (by rw [Nat.mul_comm]; exact hn)
    have hm8 : m / 8 ^ k < 8 := (Nat.div_lt_iff_lt_mul hp).2 (by rw [Nat.mul_comm]; exact hm)
    have hdn := Nat.div_add_mod n (8 ^ k)
    have hdm := Nat.div_add_mod m (8 ^ k)
    have hrn := Nat.mod_lt n hp
    have hrm := Nat.mod_lt m hp
    rw [octs_front, octs_front, ← octs_mod k n, ← octs_mod k m, Nat.mod_eq_of_lt hn8, Nat.mod_eq_of_lt hm8]
    simp only [List.cons_append, Op.bytesLess, ih _ _ r hr hrn hrm]
    rw [oct_lt hn8 hm8, oct_beq hn8 hm8]
    generalize n / 8 ^ k = a at *
    generalize m / 8 ^ k = b at *
    generalize n % 8 ^ k = x at *
    generalize m % 8 ^ k = y at *
    generalize 8 ^ k = p at *
    rcases Nat.lt_trichotomy a b with h | h | h
    · have : p * (a + 1) ≤ p * b := Nat.mul_le_mul_left p h
      rw [Nat.mul_add] at this
      simp [h, show n < m from by omega]
    · subst h; simp; omega
    · have : p * (b + 1) ≤ p * a := Nat.mul_le_mul_left p h
      rw [Nat.mul_add] at this
      simp [show ¬ a < b from by omega, show ¬ a = b from by omega, show ¬ n < m from by omega]
theorem order_put (n m : Nat) (w : Nat) (hn : n < 8 ^ (w - 1)) (hm : m < 8 ^ (w - 1)) : Op.bytesLess (putL n w) (putL m w) = decide (n < m) :=
  order_octs (w - 1) n m [0] (by decide) hn hm
/-- What Text answers. -/
def fieldErr (s : List UInt8) (w : Int) : Int := if w < 1 ∨ 255 < w then 1 else if s.contains 0 then 2 else if w < s.length then 8 else 0
def fieldT (s : List UInt8) (w : Int) : List UInt8 := if fieldErr s w = 0 then s ++ List.replicate (w.toNat - s.length) 0 else []
theorem fieldErr_width (s : List UInt8) (w : Int) : fieldErr s w = 1 ↔ w < 1 ∨ 255 < w := by
  unfold fieldErr
  by_cases h : w < 1 ∨ 255 < w
  · simp [h]
  · rw [if_neg h]
    refine ⟨fun e => ?_, fun e => absurd e h⟩
    split at e
    · cases e
    · split at e <;> cases e
theorem fieldErr_ok (s : List UInt8) (w : Int) : fieldErr s w = 0 ↔ 1 ≤ w ∧ w ≤ 255 ∧ s.contains 0 = false ∧ (s.length : Int) ≤ w := by
  unfold fieldErr
  by_cases h : w < 1 ∨ 255 < w
  · rw [if_pos h]; constructor
    · intro e; cases e
    · intro e; omega
  · rw [if_neg h]
    cases hc : s.contains 0 with
    | true => rw [if_pos rfl]; constructor
              · intro e; cases e
              · rintro ⟨_, _, e, _⟩; cases e
    | false =>
      rw [if_neg (by decide)]
      by_cases h1 : w < s.length
      · rw [if_pos h1]; constructor
        · intro e; cases e
        · intro e; omega
      · rw [if_neg h1]; exact ⟨fun _ => ⟨by omega, by omega, rfl, by omega⟩, fun _ => rfl⟩
theorem fieldT_length (s : List UInt8) (w : Int) (h : fieldErr s w = 0) : (fieldT s w).length = w.toNat := by
  obtain ⟨h1, h2, h3, h4⟩ := (fieldErr_ok s w).1 h
  rw [fieldT, if_pos h, List.length_append, List.length_replicate]; omega
/-- What Name answers. -/
def headL (b : List UInt8) : List UInt8 := b.takeWhile (· != 0)
def isName (b : List UInt8) : Bool := (b.dropWhile (· != 0)).all (· == 0)
def nameT (b : List UInt8) : List UInt8 := if isName b then headL b else []
def nameErr (b : List UInt8) : Int := if isName b then 0 else 2
theorem head_none (s r : List UInt8) (h : s.contains 0 = false) : (s ++ r).takeWhile (· != 0) = s ++ r.takeWhile (· != 0) ∧ (s ++ r).dropWhile (· != 0) = r.dropWhile (· != 0) := by
  induction s with
  | nil => exact ⟨rfl, rfl⟩
  | cons a s ih =>
    simp only [List.contains_cons, Bool.or_eq_false_iff] at h
    have ha : (a != 0) = true := by
      have := h.1
      simp only [bne_iff_ne, ne_eq]
      intro e; subst e; simp at this
    obtain ⟨i1, i2⟩ := ih h.2
    constructor
    · rw [List.cons_append, List.takeWhile_cons, if_pos ha, i1]; rfl
    · rw [List.cons_append, List.dropWhile_cons, if_pos ha, i2]
theorem head_zeros (n : Nat) : (List.replicate n (0 : UInt8)).takeWhile (· != 0) = [] ∧ ((List.replicate n (0 : UInt8)).dropWhile (· != 0)).all (· == 0) = true := by
  cases n with
  | zero => exact ⟨rfl, rfl⟩
  | succ n => constructor <;> simp [List.replicate_succ]
theorem name_field (s : List UInt8) (w : Int) (h : fieldErr s w = 0) : nameT (fieldT s w) = s ∧ nameErr (fieldT s w) = 0 := by
  obtain ⟨h1, h2, h3, h4⟩ := (fieldErr_ok s w).1 h
  obtain ⟨e1, e2⟩ := head_none s (List.replicate (w.toNat - s.length) 0) h3
  obtain ⟨z1, z2⟩ := head_zeros (w.toNat - s.length)
  have hn : isName (fieldT s w) = true := by rw [fieldT, if_pos h, isName, e2]; exact z2
  rw [nameT, nameErr, if_pos hn, if_pos hn]
  refine ⟨?_, rfl⟩
  rw [fieldT, if_pos h, headL, e1, z1, List.append_nil]
theorem headL_no0 (b : List UInt8) : (headL b).contains 0 = false := by
  unfold headL
  induction b with
  | nil => rfl
  | cons a b ih =>
    rw [List.takeWhile_cons]
    by_cases ha : (a != 0) = true
    · rw [if_pos ha, List.contains_cons, ih, Bool.or_false]
      simp only [bne_iff_ne, ne_eq] at ha
      simp only [beq_eq_false_iff_ne, ne_eq]
      exact fun e => ha e.symm
    · rw [if_neg ha]; rfl
theorem field_name (b : List UInt8) (h : nameErr b = 0) (h1 : 1 ≤ b.length) (h2 : b.length ≤ 255) : fieldErr (nameT b) b.length = 0 ∧ fieldT (nameT b) b.length = b := by
  have hn : isName b = true := by
    unfold nameErr at h
    by_cases e : isName b = true
    · exact e
    · rw [if_neg e] at h; cases h
  have hs := List.takeWhile_append_dropWhile (p := (· != (0 : UInt8))) (l := b)
  have hl : (headL b).length ≤ b.length := by
    have := congrArg List.length hs
    rw [List.length_append] at this
    unfold headL; omega
  have he : fieldErr (nameT b) b.length = 0 := by
    rw [fieldErr_ok, nameT, if_pos hn]
    exact ⟨by omega, by omega, headL_no0 b, by omega⟩
  refine ⟨he, ?_⟩
  rw [fieldT, if_pos he, nameT, if_pos hn]
  have hz : b.dropWhile (· != 0) = List.replicate (((b.length : Int)).toNat - (headL b).length) 0 := by
    rw [List.eq_replicate_iff]
    constructor
    · have := congrArg List.length hs
      rw [List.length_append] at this
      unfold headL; omega
    · intro c hc
      unfold isName at hn
      rw [List.all_eq_true] at hn
      simpa using hn c hc
  rw [← hz]; exact hs
/-- The sum of a header's bytes, up to the k-th one. -/
def sumAt (b : List UInt8) (k : Nat) : Nat := if 148 ≤ k ∧ k ≤ 155 then 32 else (b.getD k 0).toNat
def sumTo (b : List UInt8) : Nat → Nat
  | 0 => 0
  | k + 1 => sumTo b k + sumAt b k
theorem sumTo_zero (b : List UInt8) : sumTo b 0 = 0 := rfl
theorem sumTo_succ (b : List UInt8) (k : Nat) : sumTo b (k + 1) = sumTo b k + sumAt b k := rfl
def sumL (b : List UInt8) : Nat := sumTo b b.length
theorem sumAt_lt (b : List UInt8) (k : Nat) : sumAt b k < 256 := by
  unfold sumAt; split
  · omega
  · exact UInt8.toNat_lt _
theorem sumTo_le (b : List UInt8) (k : Nat) : sumTo b k ≤ 255 * k := by
  induction k with
  | zero => exact Nat.le_refl 0
  | succ k ih => have := sumAt_lt b k; rw [sumTo_succ]; omega
theorem sumTo_congr (b c : List UInt8) (k : Nat) (h : ∀ i, i < k → sumAt b i = sumAt c i) : sumTo b k = sumTo c k := by
  induction k with
  | zero => rfl
  | succ k ih => rw [sumTo_succ, sumTo_succ, ih fun i hi => h i (by omega), h k (by omega)]
/-- A byte more at a place. -/
theorem sum_set (b : List UInt8) (k : Nat) (c : UInt8) (h : k < b.length) : (sumL (b.set k c) : Int) - sumL b = if 148 ≤ k ∧ k ≤ 155 then 0 else (c.toNat : Int) - (b.getD k 0).toNat := by
  have other : ∀ i, i ≠ k → sumAt (b.set k c) i = sumAt b i := fun i hi => by
    unfold sumAt; split
    · rfl
    · rw [List.getD_eq_getElem?_getD, List.getD_eq_getElem?_getD, List.getElem?_set_ne (Ne.symm hi)]
  have low : ∀ j, j ≤ k → sumTo (b.set k c) j = sumTo b j := fun j hj => sumTo_congr _ _ j fun i hi => other i (by omega)
  have high : ∀ j, (sumTo (b.set k c) (k + 1 + j) : Int) - sumTo b (k + 1 + j) = if 148 ≤ k ∧ k ≤ 155 then 0 else (c.toNat : Int) - (b.getD k 0).toNat := fun j => by
    induction j with
    | zero =>
      rw [Nat.add_zero, sumTo_succ, sumTo_succ, low k (Nat.le_refl k)]
      by_cases hk : 148 ≤ k ∧ k ≤ 155
      · simp [sumAt, hk]
      · rw [if_neg hk]
        simp only [sumAt, if_neg hk]
        rw [List.getD_eq_getElem?_getD, List.getElem?_set_self h, Option.getD_some]
        omega
    | succ j ih => rw [← Nat.add_assoc, sumTo_succ, sumTo_succ, other (k + 1 + j) (by omega)]; omega
  have := high (b.length - (k + 1))
  rw [show k + 1 + (b.length - (k + 1)) = b.length from by omega] at this
  rw [sumL, List.length_set]
  exact this
/-- The plain sum of bytes. -/
def plainTo (b : List UInt8) : Nat → Nat
  | 0 => 0
  | k + 1 => plainTo b k + (b.getD k 0).toNat
theorem plainTo_zero (b : List UInt8) : plainTo b 0 = 0 := rfl
theorem plainTo_succ (b : List UInt8) (k : Nat) : plainTo b (k + 1) = plainTo b k + (b.getD k 0).toNat := rfl
theorem plainTo_le (b : List UInt8) (k : Nat) : plainTo b k ≤ 255 * k := by
  induction k with
  | zero => exact Nat.le_refl 0
  | succ k ih => have := UInt8.toNat_lt (b.getD k 0); rw [plainTo_succ]; omega
theorem sum_append (b c : List UInt8) (h : 156 ≤ b.length) : sumL (b ++ c) = sumL b + plainTo c c.length := by
  have low : sumTo (b ++ c) b.length = sumTo b b.length := sumTo_congr _ _ _ fun i hi => by
    unfold sumAt; split
    · rfl
    · rw [List.getD_eq_getElem?_getD, List.getD_eq_getElem?_getD, List.getElem?_append_left hi]
  have high : ∀ j, sumTo (b ++ c) (b.length + j) = sumTo b b.length + plainTo c j := fun j => by
    induction j with
    | zero => rw [Nat.add_zero, low, plainTo_zero, Nat.add_zero]
    | succ j ih =>
      rw [← Nat.add_assoc, sumTo_succ, ih, plainTo_succ, sumAt, if_neg (by omega), List.getD_eq_getElem?_getD, List.getElem?_append_right (by omega), Nat.add_sub_cancel_left, ← List.getD_eq_getElem?_getD]
      omega
  rw [sumL, List.length_append, high c.length, sumL]
/-- A number that is too great by one figure, and the greatest one that fits. -/
theorem put_top (w : Nat) (h2 : 2 ≤ w) (h12 : w ≤ 12) : putErr ((8 ^ (w - 1) : Nat) : Int) w = 8 ∧ putErr ((8 ^ (w - 1) : Nat) - 1 : Int) w = 0 := by
  have hp : 0 < 8 ^ (w - 1) := Nat.pow_pos (by decide)
  constructor
  · have h1 : putErr ((8 ^ (w - 1) : Nat) : Int) w ≠ 1 := fun e => by have := (putErr_width _ _).1 e; omega
    have h0 : putErr ((8 ^ (w - 1) : Nat) : Int) w ≠ 0 := fun e => by have := ((putErr_ok _ _).1 e).2.2.2; rw [Int.toNat_natCast, Int.toNat_natCast] at this; omega
    rcases putErr_cases ((8 ^ (w - 1) : Nat) : Int) w with h | h | h
    · exact absurd h h0
    · exact absurd h h1
    · exact h
  · rw [putErr_ok]
    refine ⟨by omega, by omega, by omega, ?_⟩
    rw [Int.toNat_natCast]; omega
theorem put_top_first (w : Nat) (h2 : 2 ≤ w) : (putL (8 ^ (w - 1) - 1) w)[0]? = some 55 := by
  obtain ⟨k, rfl⟩ : ∃ k, w = k + 2 := ⟨w - 2, by omega⟩
  rw [putL, show k + 2 - 1 = k + 1 from by omega, octs_front]
  have hp : 0 < 8 ^ k := Nat.pow_pos (by decide)
  have : (8 ^ (k + 1) - 1) / 8 ^ k = 7 := by
    rw [Nat.pow_succ]
    refine Nat.div_eq_of_lt_le ?_ ?_ <;> omega
  rw [this]; rfl
attribute [irreducible] octs val8 sumTo plainTo
end Go.Proofs.YtbjekhhefepnlaaDoor
