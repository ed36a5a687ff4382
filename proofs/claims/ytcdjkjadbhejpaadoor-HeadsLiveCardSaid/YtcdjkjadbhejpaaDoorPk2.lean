/-
Texts that all claims of this seat share, part 2: Float, DotHold, DotSmall, VecCounts, Law09Orders, Ref10More, VecSmall, VecMay.
-/
import Derived.Laws.FloatArith
import Derived.WalkLawsBesides
import Derived.Test.YtcdjkjadbhejpaaDoorPk1
namespace Go.Proofs.YtcdjkjadbhejpaaDoor
open Ieee
def frac : Nat := 2 ^ 52
theorem frac_pos : 0 < frac := Nat.two_pow_pos _
/-- What the rungs of double floats stand for, in units of the least. -/
def rungV (r : Nat) : Nat := if r < frac then r else (frac + r % frac) * 2 ^ (r / frac - 1)
def rungExp (r : Nat) : Nat := if r < frac then 0 else r / frac - 1
def rungMant (r : Nat) : Nat := if r < frac then r else frac + r % frac
theorem rungV_eq (r : Nat) : rungV r = rungMant r * 2 ^ rungExp r := by
  unfold rungV rungMant rungExp
  split <;> simp
def sgn (s : Bool) (n : Nat) : Int := if s then -(n : Int) else n
theorem read_word (s : Bool) (r : Nat) (h : r < double.infRung) : double.read (double.word s r) = .number s (rungMant r) (double.leastPlace + (rungExp r : Nat)) := by
  have hw := double.infRung_lt
  have hq : r < double.signWeight := Nat.lt_trans h hw
  have hpos : 0 < double.signWeight := Nat.lt_of_le_of_lt (Nat.zero_le _) hq
  have e1 : (double.word s r / double.signWeight % 2 == 1) = s := by
    cases s with
    | false => simp [Format.word, Nat.div_eq_of_lt hq]
    | true =>
      have : (double.signWeight + r) / double.signWeight = 1 := by rw [Nat.add_div_left _ hpos, Nat.div_eq_of_lt hq]
      simp [Format.word, this]
  have e2 : double.word s r % double.signWeight = r := by
    cases s with
    | false => simp [Format.word, Nat.mod_eq_of_lt hq]
    | true => simp [Format.word, Nat.mod_eq_of_lt hq]
  unfold Format.read
  simp only [e1, e2]
  have hb : double.binade = frac := rfl
  rw [hb]
  unfold rungMant rungExp
  split
  · simp
  · first | rfl | (rw [if_pos h])
theorem order_words (s t : Bool) (r q : Nat) (hr : r < double.infRung) (hq : q < double.infRung) :
    double.order (double.word s r) (double.word t q) = some (compare (sgn s (rungV r)) (sgn t (rungV q))) := by
  unfold Format.order
  rw [read_word s r hr, read_word t q hq, rungV_eq, rungV_eq]
  generalize rungMant r = m
  generalize rungMant q = n
  generalize rungExp r = i
  generalize rungExp q = j
  generalize double.leastPlace = L
  unfold Datum.order
  simp only
  congr 1
  have key : ∀ (c : Nat) (x y : Int), compare x y = compare (x * (2 ^ c : Nat)) (y * (2 ^ c : Nat)) := by
    intro c x y
    have hp : (0 : Int) < ((2 ^ c : Nat) : Int) := by exact_mod_cast Nat.two_pow_pos c
    generalize ((2 ^ c : Nat) : Int) = C at hp
    simp only [compare, compareOfLessAndEq]
    have a : (x * C < y * C) ↔ x < y := Int.mul_lt_mul_right hp
    have b : (x * C = y * C) ↔ x = y := by
      constructor
      · exact fun h => Int.eq_of_mul_eq_mul_right (by omega) h
      · exact fun h => by rw [h]
    simp only [a, b]
  have sg : ∀ (s : Bool) (m k c : Nat), signed s m k * ((2 ^ c : Nat) : Int) = sgn s (m * 2 ^ (k + c)) := by
    intro s m k c
    unfold signed sgn
    rw [Nat.shiftLeft_eq, Nat.pow_add, ← Nat.mul_assoc]
    cases s <;> simp [Int.neg_mul]
  rw [key (min i j), sg, sg]
  have h1 : (L + (i : Int) - min (L + (i : Int)) (L + (j : Int))).toNat + min i j = i := by omega
  have h2 : (L + (j : Int) - min (L + (i : Int)) (L + (j : Int))).toNat + min i j = j := by omega
  rw [h1, h2]
/-- The rung of the float nearest to a number. -/
def kept (n : Nat) : Nat := Toward.even.cut false (n <<< (52 - n.log2)) (n.log2 - 52)
def rungN (n : Nat) : Nat := if n = 0 then 0 else (1022 + n.log2) * frac + kept n
theorem nearest_num (n : Int) (h : rungN n.natAbs < double.infRung) : FloatKind.f64.nearest n = double.word (decide (n < 0)) (rungN n.natAbs) := by
  unfold FloatKind.nearest FloatKind.encode Format.write FloatKind.format
  simp only
  unfold Format.nearest
  by_cases h0 : n.natAbs = 0
  · rw [if_pos h0, h0]; rfl
  · rw [if_neg h0]
    have hl : double.leastPlace = -1074 := by decide
    have hf : double.fractionBits = 52 := rfl
    have hb : double.binade = frac := rfl
    rw [hl, hf, hb]
    have e1 : max (0 + (n.natAbs.log2 : Int) - (52 : Nat)) (-1074) = (n.natAbs.log2 : Int) - 52 := by omega
    simp only [e1]
    have e2 : (0 - ((n.natAbs.log2 : Int) - 52)).toNat = 52 - n.natAbs.log2 := by omega
    have e3 : ((n.natAbs.log2 : Int) - 52 - 0).toNat = n.natAbs.log2 - 52 := by omega
    have e4 : ((n.natAbs.log2 : Int) - 52 - -1074).toNat = 1022 + n.natAbs.log2 := by omega
    rw [e2, e3, e4]
    have h1 : (1022 + n.natAbs.log2) * frac + Toward.even.cut (decide (n < 0)) (n.natAbs <<< (52 - n.natAbs.log2)) (n.natAbs.log2 - 52) = rungN n.natAbs := by
      rw [rungN, if_neg h0]; rfl
    rw [h1, Nat.min_eq_left (Nat.le_of_lt h)]
theorem cut_even (s : Bool) (n d : Nat) (hd : d ≤ n.log2 + 2) : Toward.even.cut s n d = n / 2 ^ d + (decide (2 ^ d < 2 * (n % 2 ^ d)) || (2 ^ d == 2 * (n % 2 ^ d) && n / 2 ^ d % 2 == 1)).toNat := by
  unfold Toward.cut
  simp only [Nat.shiftLeft_eq, Nat.one_mul, Nat.min_eq_left hd]
/-- A number of 53 digits at most is kept whole. -/
theorem kept_small (n : Nat) (h : n.log2 ≤ 52) : kept n = n * 2 ^ (52 - n.log2) := by
  unfold kept
  rw [show n.log2 - 52 = 0 by omega, cut_even _ _ _ (Nat.zero_le _), Nat.shiftLeft_eq]
  simp [Nat.mod_one]
theorem kept_big (n : Nat) (h : 52 ≤ n.log2) : kept n = n / 2 ^ (n.log2 - 52) + (decide (2 ^ (n.log2 - 52) < 2 * (n % 2 ^ (n.log2 - 52))) || (2 ^ (n.log2 - 52) == 2 * (n % 2 ^ (n.log2 - 52)) && n / 2 ^ (n.log2 - 52) % 2 == 1)).toNat := by
  unfold kept
  rw [show 52 - n.log2 = 0 by omega, Nat.shiftLeft_zero, cut_even _ _ _ (by omega)]
theorem kept_bounds (n : Nat) (h0 : n ≠ 0) : frac ≤ kept n ∧ kept n ≤ 2 * frac := by
  have l1 := Nat.log2_self_le h0
  have l2 : n < 2 ^ (n.log2 + 1) := Nat.lt_log2_self
  rcases Nat.le_total n.log2 52 with h | h
  · rw [kept_small n h]
    have e : frac = 2 ^ n.log2 * 2 ^ (52 - n.log2) := by rw [← Nat.pow_add, frac]; congr 1; omega
    have e2 : 2 * frac = 2 ^ (n.log2 + 1) * 2 ^ (52 - n.log2) := by rw [e, Nat.pow_succ, Nat.mul_comm (2 ^ n.log2) 2, Nat.mul_assoc]
    rw [e2, e]
    exact ⟨Nat.mul_le_mul_right _ l1, Nat.mul_le_mul_right _ (Nat.le_of_lt l2)⟩
  · rw [kept_big n h]
    have hp : 0 < 2 ^ (n.log2 - 52) := Nat.two_pow_pos _
    have e : frac * 2 ^ (n.log2 - 52) = 2 ^ n.log2 := by rw [frac, ← Nat.pow_add]; congr 1; omega
    have e2 : (2 * frac) * 2 ^ (n.log2 - 52) = 2 ^ (n.log2 + 1) := by rw [Nat.mul_assoc, e, Nat.pow_succ, Nat.mul_comm]
    have a : frac ≤ n / 2 ^ (n.log2 - 52) := (Nat.le_div_iff_mul_le hp).2 (by rw [e]; exact l1)
    have b : n / 2 ^ (n.log2 - 52) < 2 * frac := (Nat.div_lt_iff_lt_mul hp).2 (by rw [e2]; exact l2)
    have c : ∀ x : Bool, x.toNat ≤ 1 := by decide
    have := c (decide (2 ^ (n.log2 - 52) < 2 * (n % 2 ^ (n.log2 - 52))) || (2 ^ (n.log2 - 52) == 2 * (n % 2 ^ (n.log2 - 52)) && n / 2 ^ (n.log2 - 52) % 2 == 1))
    omega
/-- Rounding rises. -/
theorem round_mono (p n m : Nat) (h : n ≤ m) :
    n / p + (decide (p < 2 * (n % p)) || (p == 2 * (n % p) && n / p % 2 == 1)).toNat ≤ m / p + (decide (p < 2 * (m % p)) || (p == 2 * (m % p) && m / p % 2 == 1)).toNat := by
  have c : ∀ x : Bool, x.toNat ≤ 1 := by decide
  have e : n / p ≤ m / p := Nat.div_le_div_right h
  rcases Nat.lt_or_eq_of_le e with e | e
  · have := c (decide (p < 2 * (n % p)) || (p == 2 * (n % p) && n / p % 2 == 1))
    omega
  · have a := Nat.div_add_mod n p
    have b := Nat.div_add_mod m p
    rw [e] at a ⊢
    have hm : n % p ≤ m % p := by omega
    refine Nat.add_le_add_left ?_ _
    generalize n % p = x at *
    generalize m % p = y at *
    generalize m / p % 2 = z at *
    by_cases h1 : p < 2 * y
    · simp [h1]; exact c _
    · have h2 : ¬ p < 2 * x := by omega
      simp only [h1, h2, decide_false, Bool.false_or]
      by_cases h3 : p = 2 * x
      · have : p = 2 * y := by omega
        rw [show (p == 2 * x) = true from by simpa using h3, show (p == 2 * y) = true from by simpa using this]
        exact Nat.le_refl _
      · rw [show (p == 2 * x) = false from by simpa using h3]; simp
theorem rungN_mono {n m : Nat} (h : n ≤ m) : rungN n ≤ rungN m := by
  unfold rungN
  by_cases h0 : n = 0
  · rw [if_pos h0]; exact Nat.zero_le _
  · rw [if_neg h0, if_neg (by omega)]
    have hm : m ≠ 0 := by omega
    have b1 := kept_bounds n h0
    have b2 := kept_bounds m hm
    have hl : n.log2 ≤ m.log2 := by
      rcases Nat.lt_or_ge m.log2 n.log2 with hc | hc
      · exfalso
        have l1 := Nat.log2_self_le h0
        have l2 : m < 2 ^ (m.log2 + 1) := Nat.lt_log2_self
        have : 2 ^ (m.log2 + 1) ≤ 2 ^ n.log2 := Nat.pow_le_pow_right (by decide) hc
        omega
      · exact hc
    rcases Nat.lt_or_eq_of_le hl with hl | hl
    · have : (1022 + n.log2) * frac + frac ≤ (1022 + m.log2) * frac := by
        rw [← Nat.succ_mul]; exact Nat.mul_le_mul_right _ (by omega)
      omega
    · rw [hl]
      refine Nat.add_le_add_left ?_ _
      rcases Nat.le_total m.log2 52 with h1 | h1
      · rw [kept_small n (by omega), kept_small m h1, hl]; exact Nat.mul_le_mul_right _ h
      · rw [kept_big n (by omega), kept_big m h1, hl]; exact round_mono _ _ _ h
/-- A number of 64 bits has a finite rung. -/
theorem rungN_lt (n : Nat) (h : n ≤ 9223372036854775808) : rungN n < double.infRung := by
  have h1 := rungN_mono h
  have h2 : rungN 9223372036854775808 < double.infRung := by decide +kernel
  omega
/-- What a float of a number stands for, in units of the least. -/
def floatV (a : Int) : Int := sgn (decide (a < 0)) (rungV (rungN a.natAbs))
theorem order_nums (a b : Int) (ha : a.natAbs ≤ 9223372036854775808) (hb : b.natAbs ≤ 9223372036854775808) :
    FloatKind.f64.format.order (FloatKind.f64.nearest a) (FloatKind.f64.nearest b) = some (compare (floatV a) (floatV b)) := by
  have h1 := rungN_lt _ ha
  have h2 := rungN_lt _ hb
  rw [nearest_num a h1, nearest_num b h2]
  exact order_words _ _ _ _ h1 h2
theorem rungV_small (k : Nat) (hk : k = 1074) (n : Nat) (h : n < 9007199254740992) : rungV (rungN n) = n * 2 ^ k := by
  by_cases h0 : n = 0
  · subst h0; simp [rungN, rungV, frac_pos]
  · have l1 := Nat.log2_self_le h0
    have hl : n.log2 ≤ 52 := by
      rcases Nat.lt_or_ge 52 n.log2 with hc | hc
      · exfalso
        have : 2 ^ 53 ≤ 2 ^ n.log2 := Nat.pow_le_pow_right (by decide) hc
        omega
      · exact hc
    have hb : n < 2 ^ (n.log2 + 1) := Nat.lt_log2_self
    have k1 := kept_small n hl
    have kb := kept_bounds n h0
    have k2 : kept n < 2 * frac := by
      have e : frac = 2 ^ n.log2 * 2 ^ (52 - n.log2) := by rw [← Nat.pow_add, frac]; congr 1; omega
      have e2 : 2 * frac = 2 ^ (n.log2 + 1) * 2 ^ (52 - n.log2) := by rw [e, Nat.pow_succ, Nat.mul_comm (2 ^ n.log2) 2, Nat.mul_assoc]
      rw [k1, e2]
      exact Nat.mul_lt_mul_of_pos_right hb (Nat.two_pow_pos _)
    have hp := frac_pos
    obtain ⟨f, hf⟩ : ∃ f, kept n = frac + f := ⟨kept n - frac, by omega⟩
    have hf2 : f < frac := by omega
    have hr : rungN n = f + frac * (1022 + n.log2 + 1) := by
      rw [rungN, if_neg h0, hf, Nat.mul_comm frac, Nat.succ_mul]; omega
    have d1 : rungN n / frac = 1022 + n.log2 + 1 := by rw [hr, Nat.add_mul_div_left _ _ hp, Nat.div_eq_of_lt hf2, Nat.zero_add]
    have d2 : rungN n % frac = f := by rw [hr, Nat.add_mul_mod_self_left, Nat.mod_eq_of_lt hf2]
    have d3 : ¬ rungN n < frac := by
      intro hc
      have := Nat.div_eq_of_lt hc
      omega
    rw [rungV, if_neg d3, d1, d2, ← hf, k1, Nat.mul_assoc, ← Nat.pow_add]
    congr 2
    omega
theorem floatV_small (k : Nat) (hk : k = 1074) (a : Int) (h : a.natAbs < 9007199254740992) : floatV a = a * ((2 ^ k : Nat) : Int) := by
  unfold floatV sgn
  rw [rungV_small k hk _ h]
  generalize (2 : Nat) ^ k = B
  by_cases h1 : a < 0
  · simp only [h1, decide_true, if_true]
    rw [Int.natCast_mul, ← Int.neg_mul]
    congr 1
    omega
  · simp only [h1, decide_false, Bool.false_eq_true, if_false]
    rw [Int.natCast_mul]
    congr 1
    omega
theorem floatV_lt {a b : Int} (ha : a.natAbs < 9007199254740992) (hb : b.natAbs < 9007199254740992) : floatV a < floatV b ↔ a < b := by
  obtain ⟨k, hk⟩ : ∃ k, k = 1074 := ⟨_, rfl⟩
  rw [floatV_small k hk a ha, floatV_small k hk b hb]
  have hp : (0 : Int) < ((2 ^ k : Nat) : Int) := Int.natCast_pos.2 (Nat.two_pow_pos _)
  exact Int.mul_lt_mul_right hp
end Go.Proofs.YtcdjkjadbhejpaaDoor
namespace Go.Proofs.YtcdjkjadbhejpaaDoor
open Go.RowKit
/-- A whole number below 2^53. -/
def Sm (a : Int) : Prop := a.natAbs < 9007199254740992
def cmpI (a b : Int) : Int := if a < b then -1 else if b < a then 1 else 0
theorem compare_lt {x y : Int} (h : x < y) : compare x y = .lt := by simp [compare, compareOfLessAndEq, h]
theorem compare_eq (x : Int) : compare x x = .eq := by simp [compare, compareOfLessAndEq]
theorem compare_gt {x y : Int} (h : y < x) : compare x y = .gt := by
  have h1 : ¬ x < y := by omega
  have h2 : ¬ x = y := by omega
  simp [compare, compareOfLessAndEq, h1, h2]
theorem fl_order (a b : Int) (ha : Sm a) (hb : Sm b) : FloatKind.f64.format.order (floatOfInt .f64 a) (floatOfInt .f64 b) = some (compare a b) := by
  unfold Sm at ha hb
  have h := order_nums a b (by omega) (by omega)
  rw [show floatOfInt .f64 a = FloatKind.f64.nearest a from rfl, show floatOfInt .f64 b = FloatKind.f64.nearest b from rfl, h]
  rcases Int.lt_trichotomy a b with c | c | c
  · rw [compare_lt c, compare_lt ((floatV_lt ha hb).2 c)]
  · subst c; rw [compare_eq, compare_eq]
  · rw [compare_gt c, compare_gt ((floatV_lt hb ha).2 c)]
theorem isNaN_num (a : Int) (ha : Sm a) (w : World) : Calls Tryd.prog 65 #[.float .f64 (floatOfInt .f64 a)] w fun e w' => e = .returned (.bool false) ∧ w = w' := by
  have h1 := fl_order a a ha ha
  rw [compare_eq] at h1
  clear ha
  generalize floatOfInt .f64 a = x at *
  go_enter Tryd.func65, Tryd.ntmps65
  go_wp2
  go_ret
  exact ⟨rfl, rfl⟩
theorem cmpFloat_num (a b : Int) (ha : Sm a) (hb : Sm b) (w : World) : Calls Tryd.prog 59 #[.float .f64 (floatOfInt .f64 a), .float .f64 (floatOfInt .f64 b)] w fun e w' => e = .returned (.int .i64 (cmpI a b)) ∧ w = w' := by
  have N1 := Lib.hid (isNaN_num a ha)
  have N2 := Lib.hid (isNaN_num b hb)
  have h1 := fl_order a b ha hb
  clear ha hb
  generalize floatOfInt .f64 a = x at *
  generalize floatOfInt .f64 b = y at *
  rcases Int.lt_trichotomy a b with c | c | c
  · rw [compare_lt c] at h1
    have HR := Lib.hid (show cmpI a b = -1 by rw [cmpI, if_pos c])
    clear c
    go_enter Tryd.func59, Tryd.ntmps59
    go_upto_region 2 with (first | (go_at_call 65; refine (N1.out _).mono ?_; rintro e w1 ⟨rfl, rfl⟩))
    go_wp2_with (first | (go_at_call 65; refine (N2.out _).mono ?_; rintro e w1 ⟨rfl, rfl⟩))
    go_ret
    exact ⟨by rw [HR.out]; try rfl, rfl⟩
  · subst c
    rw [compare_eq] at h1
    have HR := Lib.hid (show cmpI a a = 0 by rw [cmpI, if_neg (by omega), if_neg (by omega)])
    go_enter Tryd.func59, Tryd.ntmps59
    go_upto_region 2 with (first | (go_at_call 65; refine (N1.out _).mono ?_; rintro e w1 ⟨rfl, rfl⟩))
    go_wp2_with (first | (go_at_call 65; refine (N2.out _).mono ?_; rintro e w1 ⟨rfl, rfl⟩))
    go_ret
    exact ⟨by rw [HR.out]; try rfl, rfl⟩
  · rw [compare_gt c] at h1
    have HR := Lib.hid (show cmpI a b = 1 by rw [cmpI, if_neg (by omega), if_pos c])
    clear c
    go_enter Tryd.func59, Tryd.ntmps59
    go_upto_region 2 with (first | (go_at_call 65; refine (N1.out _).mono ?_; rintro e w1 ⟨rfl, rfl⟩))
    go_wp2_with (first | (go_at_call 65; refine (N2.out _).mono ?_; rintro e w1 ⟨rfl, rfl⟩))
    go_ret
    exact ⟨by rw [HR.out]; try rfl, rfl⟩
/-- The first number that isn't 0. -/
def orI (x0 x1 x2 x3 : Int) : Int := if x0 ≠ 0 then x0 else if x1 ≠ 0 then x1 else if x2 ≠ 0 then x2 else x3
def four (x0 x1 x2 x3 : Int) : Array Value := #[.int .i64 x0, .int .i64 x1, .int .i64 x2, .int .i64 x3]
/-- The k-th of four. -/
def nth4 (x0 x1 x2 x3 : Int) (k : Nat) : Int := if k = 0 then x0 else if k = 1 then x1 else if k = 2 then x2 else x3
theorem nth4_cell (x0 x1 x2 x3 : Int) {w : World} {g k : Nat} {T : TypeId} (h : w.heap[g]? = some (.cells (four x0 x1 x2 x3) T (0, 0))) (hk : k < 4) : w.cell? ⟨g, k, none⟩ = some (.int .i64 (nth4 x0 x1 x2 x3 k)) := by
  rw [cell_of_row _ _ k _ _ _ h]
  match k, hk with
  | 0, _ => rfl
  | 1, _ => rfl
  | 2, _ => rfl
  | 3, _ => rfl
set_option maxRecDepth 100000 in
set_option maxHeartbeats 4000000 in
theorem or_any (x0 x1 x2 x3 : Int) (g : Nat) (T : TypeId) (w : World) (h : w.heap[g]? = some (.cells (four x0 x1 x2 x3) T (0, 0))) : Calls Tryd.prog 46 #[.slice (some ⟨g, 0, none⟩) 4 4] w fun e w' => e = .returned (.int .i64 (orI x0 x1 x2 x3)) ∧ w = w' := by
  have HC := Lib.hid (fun k hk => nth4_cell x0 x1 x2 x3 (k := k) h hk)
  clear h
  go_enter Tryd.func46, Tryd.ntmps46
  go_wp2
  go_loopw [8] (fun i wr => w = wr ∧ ∃ k : Nat, k ≤ 4 ∧ i = .int .i64 k ∧ ∀ j, j < k → nth4 x0 x1 x2 x3 j = 0) (fun i _ => 4 - (intOf i).toNat)
  case atStart => exact ⟨rfl, 0, by omega, rfl, fun j hj => by omega⟩
  case round =>
    obtain ⟨rfl, k, hk, rfl, hall⟩ := hrel
    have HA := Lib.hid hall
    clear hall
    by_cases hlt : k < 4
    · have q1 : (k : Int) < 4 := by omega
      have hc := HC.out k hlt
      obtain ⟨x, hx⟩ : ∃ x, nth4 x0 x1 x2 x3 k = x := ⟨_, rfl⟩
      rw [hx] at hc
      have HX := Lib.hid hx
      clear hx
      by_cases h0 : x = 0
      · subst h0
        have hk1 : wrap64 ((k : Int) + 1) = ((k + 1 : Nat) : Int) := by rw [wrap64]; omega
        go_wp2
        go_roundw
        case rel => exact ⟨trivial, k + 1, by omega, by go_num, fun j h2 => by
          rcases Nat.lt_or_ge j k with h | h
          · exact HA.out j h
          · obtain rfl : j = k := by omega
            exact HX.out⟩
        case measure => simp [intOf]; omega
      · have t0 : (x != 0) = true := bne_iff_ne.2 h0
        have HR := Lib.hid (show orI x0 x1 x2 x3 = x by
          have a := HA.out
          have b := HX.out
          unfold nth4 at a b
          unfold orI
          match k, hlt with
          | 0, _ => simp at b; subst b; simp [h0]
          | 1, _ => have a0 := a 0 (by omega); simp at a0 b; subst b; simp [h0, a0]
          | 2, _ => have a0 := a 0 (by omega); have a1 := a 1 (by omega); simp at a0 a1 b; subst b; simp [h0, a0, a1]
          | 3, _ => have a0 := a 0 (by omega); have a1 := a 1 (by omega); have a2 := a 2 (by omega); simp at a0 a1 a2 b; subst b; simp [a0, a1, a2])
        clear h0
        go_wp2
        go_ret
        exact ⟨by rw [HR.out]; try rfl, rfl⟩
    · obtain rfl : k = 4 := by omega
      have HR := Lib.hid (show orI x0 x1 x2 x3 = 0 by
        have a := HA.out
        have a0 := a 0 (by omega)
        have a1 := a 1 (by omega)
        have a2 := a 2 (by omega)
        have a3 := a 3 (by omega)
        unfold nth4 at a0 a1 a2 a3
        simp at a0 a1 a2 a3
        unfold orI
        simp [a0, a1, a2, a3])
      clear hlt
      go_wp2
      go_ret
      exact ⟨by rw [HR.out]; try rfl, rfl⟩
def hiI (a : Int) : Int := a / 4294967296
def loI (a : Int) : Int := a % 4294967296
theorem hiI_sm {a : Int} (h : I64 a) : Sm (hiI a) := by unfold I64 at h; unfold Sm hiI; omega
theorem loI_sm (a : Int) : Sm (loI a) := by unfold Sm loI; omega
set_option maxRecDepth 100000 in
set_option maxHeartbeats 4000000 in
theorem halves_any (r q : Int) (w : World) : Calls Tryd.prog 58 #[.agg #[.int .i64 r, .int .i64 q]] w fun e w' => e = .returned (.tuple #[.complex .f64 (floatOfInt .f64 (hiI r)) (floatOfInt .f64 (hiI q)), .complex .f64 (floatOfInt .f64 (loI r)) (floatOfInt .f64 (loI q))]) ∧ Below w.heap.size w w' := by
  have h1 := one_box w r q
  obtain ⟨c1, c2⟩ := dot_cells h1
  have B0 := Lib.hid ((Below.refl w.heap.size w).alloc (Nat.le_refl _) (dotO r q))
  clear h1
  unfold dotO at *
  go_enter Tryd.func58, Tryd.ntmps58
  go_upto_region 1 with fail
  generalize w.alloc (.cells #[.int .i64 r, .int .i64 q] 24 (0, 0)) = W0 at *
  go_quiet (fail)
  have B1 := Lib.hid (below_draws B0.out nq)
  generalize W0.drewN nq = W1 at *
  clear c1 c2 B0
  go_wp2
  go_ret2
  exact ⟨rfl, B1.out⟩
/-- Halves held against halves are numbers held against each other. -/
theorem hold_or (r q r' q' : Int) : orI (cmpI (hiI r) (hiI r')) (cmpI (loI r) (loI r')) (cmpI (hiI q) (hiI q')) (cmpI (loI q) (loI q')) = cmpD r q r' q' := by
  have key : ∀ a b : Int, (hiI a < hiI b ∧ a < b) ∨ (hiI b < hiI a ∧ b < a) ∨ (hiI a = hiI b ∧ ((loI a < loI b ∧ a < b) ∨ (loI b < loI a ∧ b < a) ∨ (loI a = loI b ∧ a = b))) := by
    intro a b; unfold hiI loI; omega
  have k1 := key r r'
  have k2 := key q q'
  unfold orI cmpI cmpD
  generalize hiI r = a1 at *
  generalize hiI r' = a2 at *
  generalize hiI q = a3 at *
  generalize hiI q' = a4 at *
  generalize loI r = b1 at *
  generalize loI r' = b2 at *
  generalize loI q = b3 at *
  generalize loI q' = b4 at *
  rcases k1 with ⟨h1, h2⟩ | ⟨h1, h2⟩ | ⟨h1, ⟨h3, h2⟩ | ⟨h3, h2⟩ | ⟨h3, h2⟩⟩
  · rw [if_pos h1, if_pos (by decide), if_neg (by omega), if_pos (by omega)]
  · rw [if_neg (show ¬ a1 < a2 by omega), if_pos h1, if_pos (by decide), if_neg (by omega), if_neg (by omega)]
  · subst h1
    rw [if_neg (show ¬ a1 < a1 by omega), if_neg (show ¬ a1 < a1 by omega), if_pos h3, if_neg (by decide), if_pos (by decide), if_neg (by omega), if_pos (by omega)]
  · subst h1
    rw [if_neg (show ¬ a1 < a1 by omega), if_neg (show ¬ a1 < a1 by omega), if_neg (show ¬ b1 < b2 by omega), if_pos h3, if_neg (by decide), if_pos (by decide), if_neg (by omega), if_neg (by omega)]
  · subst h1; subst h3; subst h2
    rw [if_neg (show ¬ a1 < a1 by omega), if_neg (show ¬ a1 < a1 by omega), if_neg (show ¬ b1 < b1 by omega), if_neg (show ¬ b1 < b1 by omega), if_neg (by decide), if_neg (by decide)]
    rcases k2 with ⟨h1, h2⟩ | ⟨h1, h2⟩ | ⟨h1, ⟨h3, h2⟩ | ⟨h3, h2⟩ | ⟨h3, h2⟩⟩
    · rw [if_pos h1, if_pos (by decide), if_neg (by omega), if_pos (by omega)]
    · rw [if_neg (show ¬ a3 < a4 by omega), if_pos h1, if_pos (by decide), if_neg (by omega), if_neg (by omega)]
    · subst h1
      rw [if_neg (show ¬ a3 < a3 by omega), if_neg (show ¬ a3 < a3 by omega), if_pos h3, if_neg (by decide), if_neg (by omega), if_pos (by omega)]
    · subst h1
      rw [if_neg (show ¬ a3 < a3 by omega), if_neg (show ¬ a3 < a3 by omega), if_neg (show ¬ b3 < b4 by omega), if_pos h3, if_neg (by decide), if_neg (by omega), if_neg (by omega)]
    · subst h1; subst h3; subst h2
      rw [if_neg (show ¬ a3 < a3 by omega), if_neg (show ¬ a3 < a3 by omega), if_neg (show ¬ b3 < b3 by omega), if_neg (show ¬ b3 < b3 by omega), if_neg (by decide), if_pos ⟨rfl, rfl⟩]
set_option maxRecDepth 100000 in
set_option maxHeartbeats 8000000 in
theorem compare_any (r q r' q' : Int) (hr : I64 r) (hq : I64 q) (hr' : I64 r') (hq' : I64 q') (w : World) : Calls Tryd.prog 48 #[.agg #[.int .i64 r, .int .i64 q], .agg #[.int .i64 r', .int .i64 q']] w fun e w' => e = .returned (.int .i64 (cmpD r q r' q')) ∧ Below w.heap.size w w' := by
  obtain ⟨h1, h2⟩ := two_boxes w r q r' q'
  have H1 := Lib.hid h1
  have H2 := Lib.hid h2
  have B0 := Lib.hid (((Below.refl w.heap.size w).alloc (Nat.le_refl _) (dotO r q)).alloc (by simp) (dotO r' q'))
  have HO := Lib.hid (hold_or r q r' q')
  have HV1 := Lib.hid (halves_any r q)
  have HV2 := Lib.hid (halves_any r' q')
  have F1 := Lib.hid (cmpFloat_num (hiI r) (hiI r') (hiI_sm hr) (hiI_sm hr'))
  have F2 := Lib.hid (cmpFloat_num (loI r) (loI r') (loI_sm r) (loI_sm r'))
  have F3 := Lib.hid (cmpFloat_num (hiI q) (hiI q') (hiI_sm hq) (hiI_sm hq'))
  have F4 := Lib.hid (cmpFloat_num (loI q) (loI q') (loI_sm q) (loI_sm q'))
  clear h1 h2 hr hq hr' hq'
  generalize cmpI (hiI r) (hiI r') = x0 at *
  generalize cmpI (loI r) (loI r') = x1 at *
  generalize cmpI (hiI q) (hiI q') = x2 at *
  generalize cmpI (loI q) (loI q') = x3 at *
  generalize floatOfInt .f64 (hiI r) = a1 at *
  generalize floatOfInt .f64 (hiI r') = a2 at *
  generalize floatOfInt .f64 (loI r) = a3 at *
  generalize floatOfInt .f64 (loI r') = a4 at *
  generalize floatOfInt .f64 (hiI q) = a5 at *
  generalize floatOfInt .f64 (hiI q') = a6 at *
  generalize floatOfInt .f64 (loI q) = a7 at *
  generalize floatOfInt .f64 (loI q') = a8 at *
  unfold dotO at *
  go_enter Tryd.func48, Tryd.ntmps48
  go_upto_region 1 with fail
  generalize (w.alloc (.cells #[.int .i64 r, .int .i64 q] 24 (0, 0))).alloc (.cells #[.int .i64 r', .int .i64 q'] 24 (0, 0)) = W0 at *
  go_upto_region 2 with (first
    | (refine load_row_on (by rfl) 24 (.tmp 2) rfl w.heap.size rfl 24 _ (0, 0) _ H1.out Tryd.underlying24 rfl (by kernel_rfl) ?_)
    | (go_at_call 58; refine (HV1.out _).mono ?_; rintro e W1 ⟨rfl, hb⟩; have G2 := Lib.hid (row_kept H2.out hb); have B1 := Lib.hid (below_next B0.out hb); clear hb))
  go_upto_region 3 with (first
    | (refine load_row_on (by rfl) 24 (.tmp 3) rfl (w.heap.size + 1) rfl 24 _ (0, 0) _ G2.out Tryd.underlying24 rfl (by kernel_rfl) ?_)
    | (go_at_call 58; refine (HV2.out _).mono ?_; rintro e W2 ⟨rfl, hb⟩; have B2 := Lib.hid (below_next B1.out hb); clear hb))
  have HA := Lib.hid (fun T => heap_last W2 (.cells (four x0 x1 x2 x3) T (0, 0)))
  have BA := Lib.hid (fun T => B2.out.alloc B2.out.size (.cells (four x0 x1 x2 x3) T (0, 0)))
  go_wp2_with (first
    | (go_at_call 59; with_reducible refine (F1.out _).mono ?_; rintro e w1 ⟨rfl, rfl⟩)
    | (go_at_call 59; with_reducible refine (F2.out _).mono ?_; rintro e w1 ⟨rfl, rfl⟩)
    | (go_at_call 59; with_reducible refine (F3.out _).mono ?_; rintro e w1 ⟨rfl, rfl⟩)
    | (go_at_call 59; with_reducible refine (F4.out _).mono ?_; rintro e w1 ⟨rfl, rfl⟩)
    | (go_at_call 46; refine (or_any x0 x1 x2 x3 W2.heap.size _ _ (HA.out _)).mono ?_; rintro e w1 ⟨rfl, rfl⟩))
  go_ret
  exact ⟨by rw [HO.out]; try rfl, BA.out _⟩
end Go.Proofs.YtcdjkjadbhejpaaDoor
namespace Go.Proofs.YtcdjkjadbhejpaaDoor
open Go.RowKit
/-- May a replica have so many events so far, perhaps none? -/
def mayC (r q : Int) : Bool := decide (0 ≤ r ∧ r < 32 ∧ 0 ≤ q ∧ q ≤ 1099511627776)
set_option maxRecDepth 100000 in
set_option maxHeartbeats 4000000 in
theorem mayCount_any (r q : Int) (w : World) : Calls Tryd.prog 40 #[.agg #[.int .i64 r, .int .i64 q]] w fun e w' => e = .returned (.bool (mayC r q)) ∧ Below w.heap.size w w' := by
  have h1 := one_box w r q
  obtain ⟨c1, c2⟩ := dot_cells h1
  have B0 := Lib.hid ((Below.refl w.heap.size w).alloc (Nat.le_refl _) (dotO r q))
  clear h1
  unfold dotO at *
  go_enter Tryd.func40, Tryd.ntmps40
  go_wp2
  all_goals
    go_ret
    refine ⟨congrArg Ending.returned (show Value.bool _ = Value.bool _ from congrArg Value.bool ?_), B0.out⟩
    unfold mayC
    rw [Bool.eq_iff_iff]
    simp
    try omega
theorem mayC_q (r q : Int) : mayD r q = (mayC r q && decide (q > 0)) := by
  unfold mayD mayC
  rw [Bool.eq_iff_iff]
  simp
  omega
set_option maxRecDepth 100000 in
set_option maxHeartbeats 4000000 in
theorem may_any9 (r q : Int) (w : World) : Calls Tryd.prog 23 #[.agg #[.int .i64 r, .int .i64 q]] w fun e w' => e = .returned (.bool (mayD r q)) ∧ Below w.heap.size w w' := by
  have H1 := Lib.hid (one_box w r q)
  have B0 := Lib.hid ((Below.refl w.heap.size w).alloc (Nat.le_refl _) (dotO r q))
  have M1 := Lib.hid (mayCount_any r q)
  have HQ := Lib.hid (mayC_q r q)
  unfold dotO at *
  generalize mayC r q = m at *
  go_enter Tryd.func23, Tryd.ntmps23
  go_upto_region 1 with fail
  generalize w.alloc (.cells #[.int .i64 r, .int .i64 q] 24 (0, 0)) = W0 at *
  cases m with
  | true =>
    go_wp2_with (first
      | (refine load_row_on (by rfl) 24 (.tmp 1) rfl w.heap.size rfl 24 _ (0, 0) _ H1.out Tryd.underlying24 rfl (by kernel_rfl) ?_)
      | (go_at_call 40; refine (M1.out _).mono ?_; rintro e W1 ⟨rfl, hb⟩; have d1 := (dot_cells (row_kept H1.out hb)).2; have B1 := Lib.hid (below_next B0.out hb); clear hb))
    go_ret
    exact ⟨by rw [HQ.out]; try rfl, B1.out⟩
  | false =>
    go_wp2_with (first
      | (refine load_row_on (by rfl) 24 (.tmp 1) rfl w.heap.size rfl 24 _ (0, 0) _ H1.out Tryd.underlying24 rfl (by kernel_rfl) ?_)
      | (go_at_call 40; refine (M1.out _).mono ?_; rintro e W1 ⟨rfl, hb⟩; have B1 := Lib.hid (below_next B0.out hb); clear hb))
    go_ret
    exact ⟨by rw [HQ.out]; try rfl, B1.out⟩
end Go.Proofs.YtcdjkjadbhejpaaDoor
namespace Go.Proofs.YtcdjkjadbhejpaaDoor
open Go.RowKit
theorem zero49 : (Tryd.prog.info? 73).map (fun i => i.zero) = some (some (.agg (nums 32 fun _ => 0))) := by kernel_rfl
theorem seen_max (i : Nat) (m : Int) (d : D2) (hm : mayT d = true) (hd : d.1 = (i : Int)) : seen i m d = max m d.2 := by
  unfold seen
  by_cases h : m < d.2
  · rw [if_pos ⟨hm, hd, h⟩]; omega
  · rw [if_neg (fun hh => h hh.2.2)]; omega
set_option maxRecDepth 100000 in
set_option maxHeartbeats 16000000 in
theorem counts_long (l : List D2) (hl : l.length < 10000000000000) (v : Value) (w : World) (hv : HasDots w v l) : Calls Tryd.prog 53 #[v] w fun e w' => e = .returned (.agg (nums 32 (allV l))) ∧ Below w.heap.size w w' := by
  have HV := Lib.hid hv
  obtain ⟨n, hn⟩ : ∃ n, n = l.length := ⟨_, rfl⟩
  obtain ⟨ao, cap, rfl⟩ := dots_shape hv n hn
  have HN := Lib.hid hn
  have hn4 : n < 10000000000000 := by omega
  have Z0 := heap_last w (.cells (nums 32 fun _ => 0) 73 (0, 0))
  have Z1 := heap_last (w.alloc (.cells (nums 32 fun _ => 0) 73 (0, 0))) (.cells (nums 32 fun _ => 0) 73 (0, 0))
  have HZ := Lib.hid (And.intro (show ((w.alloc (.cells (nums 32 fun _ => 0) 73 (0, 0))).alloc (.cells (nums 32 fun _ => 0) 73 (0, 0))).heap[w.heap.size]? = some (.cells (nums 32 fun _ => 0) 73 (0, 0)) by rw [heap_at_alloc, if_neg (by simp)]; exact Z0) (by rwa [World.size_alloc] at Z1))
  have HB := Lib.hid (((Below.refl w.heap.size w).alloc (Nat.le_refl _) (.cells (nums 32 fun _ => 0) 73 (0, 0))).alloc (by simp) (.cells (nums 32 fun _ => 0) 73 (0, 0)))
  clear hn hv hl Z0 Z1
  go_enter Tryd.func53, Tryd.ntmps53
  go_wp2_with (first | (refine alloc_as rfl 73 rfl _ zero49 ?_))
  generalize ((w.alloc (.cells (nums 32 fun _ => 0) 73 (0, 0))).alloc (.cells (nums 32 fun _ => 0) 73 (0, 0))) = W0 at *
  go_loopw [8] (fun c wr => ∃ k : Nat, k ≤ n ∧ c = .int .i64 (k : Int) ∧ wr.heap[w.heap.size]? = some (.cells (nums 32 fun _ => 0) 73 (0, 0)) ∧ wr.heap[w.heap.size + 1]? = some (.cells (nums 32 (allV (l.take k))) 73 (0, 0)) ∧ Below w.heap.size w wr) (fun c _ => n - (intOf c).toNat)
  case atStart => exact ⟨0, Nat.zero_le _, rfl, HZ.out.1, HZ.out.2, HB.out⟩
  case round =>
    clear HZ HB
    obtain ⟨k, hk, rfl, hz, ho, hb⟩ := hrel
    by_cases hlt : k < n
    · have q0 : (k : Int) < (n : Int) := by omega
      have hkl : k < l.length := by rw [← HN.out]; exact hlt
      obtain ⟨d, hd⟩ : ∃ d, l[k]? = some d := ⟨_, List.getElem?_eq_getElem hkl⟩
      have HA := Lib.hid (allV_at hd)
      obtain ⟨r, q⟩ := d
      obtain ⟨ad, cap', e, c0, c1⟩ := dots_at (dots_below HV.out hb) n k HN.out.symm _ hd
      cases e
      have C0 := Lib.hid (And.intro c0 c1)
      have MY := Lib.hid (fun w => may_any9 r q w)
      have KK := Lib.hid (show k + 1 ≤ n ∧ n - (k + 1) < n - k by omega)
      have D0 := Lib.hid (heap_last wr (.cells #[.int .i64 r, .int .i64 q] 24 (0, 0)))
      have B0 := Lib.hid (hb.alloc hb.size (.cells #[.int .i64 r, .int .i64 q] 24 (0, 0)))
      have K0 := (Below.refl wr.heap.size wr).alloc (Nat.le_refl _) (.cells #[.int .i64 r, .int .i64 q] 24 (0, 0))
      have Z0 := Lib.hid (row_kept hz K0)
      have O0 := Lib.hid (row_kept ho K0)
      have LS := Lib.hid (show w.heap.size + 1 < wr.heap.size from by obtain ⟨h, -⟩ := Array.getElem?_eq_some_iff.1 ho; exact h)
      clear c0 c1 hz ho hb hd hkl K0
      generalize hW1 : wr.alloc (.cells #[.int .i64 r, .int .i64 q] 24 (0, 0)) = W1 at *
      cases hm : mayD r q with
      | false =>
        rw [hm] at MY
        have HS := Lib.hid (show nums 32 (allV (l.take (k + 1))) = nums 32 (allV (l.take k)) from nums_congr _ _ _ fun i _ => by
          rw [HA.out i, seen, if_neg (fun h => by have h2 := h.1; rw [mayT, hm] at h2; cases h2)])
        clear hm HA
        go_wp2_with (first
          | (refine load_dot10 (by rfl) 24 (.tmp 10) rfl (ad.add (k * 2)) rfl r q Tryd.underlying24 (by kernel_rfl) C0.out ?_; try rw [hW1])
          | (refine load_row_on (by rfl) 24 (.tmp 5) rfl wr.heap.size rfl 24 _ (0, 0) _ D0.out Tryd.underlying24 rfl (by kernel_rfl) ?_)
          | (go_at_call 23; refine (MY.out _).mono ?_; rintro e w1 ⟨rfl, hb⟩; have Z1 := Lib.hid (row_kept Z0.out hb); have O1 := Lib.hid (row_kept O0.out hb); have B1 := Lib.hid (below_next B0.out hb); clear hb))
        refine ⟨⟨k + 1, KK.out.1, by simp, Z1.out, by rw [HS.out]; exact O1.out, B1.out⟩, ?_⟩
        simp [intOf]; exact KK.out.2
      | true =>
        rw [hm] at MY
        have hb := mayT_bd (d := (r, q)) hm
        simp only at hb
        obtain ⟨i, hi⟩ : ∃ i : Nat, r = (i : Int) := ⟨r.toNat, by omega⟩
        subst hi
        have hi32 : i < 32 := by omega
        have qi : (i : Int) < 32 := by omega
        obtain ⟨m, hme⟩ : ∃ m, m = allV (l.take k) i := ⟨_, rfl⟩
        obtain ⟨M, hM⟩ : ∃ M, M = max m q := ⟨_, rfl⟩
        have HS := Lib.hid (show (nums 32 (allV (l.take k))).setIfInBounds i (.int .i64 M) = nums 32 (allV (l.take (k + 1))) from nums_set _ _ _ _ _ fun j _ => by
          rw [HA.out j]
          by_cases hj : j = i
          · subst hj; rw [if_pos rfl, seen_max _ _ ((j : Int), q) (show mayT ((j : Int), q) = true from hm) rfl, hM, hme]
          · rw [if_neg hj, seen, if_neg (fun h => hj (by have := h.2.1; simp only at this; omega))])
        have NC := Lib.hid (fun (w' : World) (h : w'.heap[w.heap.size + 1]? = some (.cells (nums 32 (allV (l.take k))) 73 (0, 0))) => show w'.cell? ⟨w.heap.size + 1, i, none⟩ = some (.int .i64 m) by rw [hme]; exact nums_cell h i hi32)
        have hI := Lib.hid hi32
        have hMM : (if m < q then q else m) = M := by rw [hM]; split <;> omega
        have hMX : max m q = M := hM.symm
        clear hm HA hb hme hi32 hM
        go_wp2_with (first
          | (refine load_dot10 (by rfl) 24 (.tmp 10) rfl (ad.add (k * 2)) rfl (i : Int) q Tryd.underlying24 (by kernel_rfl) C0.out ?_; try rw [hW1])
          | (refine load_row_on (by rfl) 24 (.tmp 5) rfl wr.heap.size rfl 24 _ (0, 0) _ D0.out Tryd.underlying24 rfl (by kernel_rfl) ?_)
          | (go_at_call 23; refine (MY.out _).mono ?_; rintro e w1 ⟨rfl, hb⟩; have Z1 := Lib.hid (row_kept Z0.out hb); have O1 := Lib.hid (row_kept O0.out hb); have D1 := Lib.hid (row_kept D0.out hb); have B1 := Lib.hid (below_next B0.out hb); clear hb))
        obtain ⟨c0, c1⟩ := dot_cells (show _ = some (dotO (i : Int) q) from D1.out)
        have cm := NC.out _ O1.out
        go_still_tail 10, (by kernel_rfl)
        change wpList _ _ _ _ _ w1.drew
        have hz : w1.drew.heap[w.heap.size]? = _ := Z1.out
        have ho : w1.drew.heap[w.heap.size + 1]? = _ := O1.out
        have hb := below_draws B1.out 1
        change Below _ _ w1.drew at hb
        clear O1 Z1 B1 c0 c1 cm D1
        generalize w1.drew = w7 at *
        go_wp2_with (first
          | (refine store_cell rfl 2 (.tmp 23) (.tmp 22) rfl rfl .i64 (w.heap.size + 1) i _ M 73 ho rfl rfl (by rw [nums_size]; exact hI.out) (by kernel_rfl) ?_; intro w8 hg8 hs8; rw [HS.out] at hg8; have H8 := Lib.hid (And.intro hg8 (And.intro ((hs8.block w.heap.size (by omega)).trans hz) (solo_below hb hs8 (by omega)))); clear hg8 hs8 hz ho hb))
        refine ⟨⟨k + 1, KK.out.1, by simp, H8.out.2.1, H8.out.1, H8.out.2.2⟩, ?_⟩
        simp [intOf]; exact KK.out.2
    · have q0 : ¬ (k : Int) < (n : Int) := by omega
      have HE := Lib.hid (show l.take k = l by rw [show k = l.length by rw [← HN.out]; omega, List.take_length])
      rw [HE.out] at ho
      have HZ := Lib.hid hz
      have HO := Lib.hid ho
      have HB := Lib.hid hb
      clear hz ho hb
      go_wp2_with (first
        | (refine wpList_load_row rfl 73 (.tmp 3) rfl (w.heap.size + 1) rfl 73 _ (0, 0) _ HO.out Tryd.underlying73 rfl (by rw [nums_size]; kernel_rfl) ?_)
        | (refine wpList_store_row rfl 73 (.tmp 2) (.tmp 25) rfl w.heap.size _ rfl rfl 73 _ HZ.out (by rw [nums_size]; kernel_rfl) (by rw [nums_size, nums_size]) (nums_one _ _) ?_))
      exact bodyPost_ret (results_cell_row Tryd.results53 _ _ w.heap.size 73 _ (0, 0) _ rfl (setRow_heap _ _ _ _ _ _ HZ.out) Tryd.underlying73 rfl (by rw [nums_size]; kernel_rfl)) rfl ⟨rfl, below_setRow HB.out (Nat.le_refl _) _⟩
theorem counts_any (l : List D2) (hl : l.length < 2000000) (v : Value) (w : World) (hv : HasDots w v l) : Calls Tryd.prog 53 #[v] w fun e w' => e = .returned (.agg (nums 32 (allV l))) ∧ Below w.heap.size w w' := counts_long l (by omega) v w hv
end Go.Proofs.YtcdjkjadbhejpaaDoor
namespace Go.Proofs.YtcdjkjadbhejpaaDoor
open Go.RowKit
theorem row_yields {P : Program} {ops : Array Oper} {S : World → Prop} {o : Oper} {a : Act} (hw : Region.wanted o (yielded ops a.tmps) = true) (ty : TypeId) (x : Operand) (ho : o.op = .load ty x) (g : Nat) (hx : a.eval x = .pointer (some ⟨g, 0, none⟩)) (t : TypeId) (cs : Array Value) (fr : Nat × Nat) (d : TypeDesc)
    (hu : P.underlying ty = some d) (hd : (match d with | .struct _ | .array _ _ => true | _ => false) = true) (hi : (P.info? ty).map (·.size) = some cs.size) (hS : ∀ w, S w → w.heap[g]? = some (.cells cs t fr)) : YieldsIf P ops S o (.agg cs) a :=
  .inl ⟨hw, fun w h => by
    unfold execOp
    simp [ho, hx, Instr.loadAt, Instr.sureAddr, run_loadVar_row w g t ty cs fr d (hS w h) hu hd hi]⟩
end Go.Proofs.YtcdjkjadbhejpaaDoor
namespace Go.Proofs.YtcdjkjadbhejpaaDoor
open Go.RowKit
theorem refAll_V (l : List D2) (hl : l.length < 2000000) (v : Value) (w : World) (hv : HasDots w v l) : Calls Tryd.prog 38 #[v] w fun e w' => e = .returned (numsV 32 (allV l)) ∧ Below w.heap.size w w' := refAll_any l hl v w hv
set_option maxRecDepth 100000 in
set_option maxHeartbeats 4000000 in
theorem refGet_any10 (l : List D2) (hl : l.length < 2000000) (r : Int) (v : Value) (w : World) (hv : HasDots w v l) : Calls Tryd.prog 21 #[v, .int .i64 r] w fun e w' => e = .returned (.int .i64 (getV l r)) ∧ Below w.heap.size w w' := by
  have HV := Lib.hid hv
  have A1 := Lib.hid (fun w v hv => refAll_V l hl v w hv)
  obtain ⟨ao, cap, rfl⟩ := dots_shape hv l.length rfl
  obtain ⟨n, hn⟩ : ∃ n, n = l.length := ⟨_, rfl⟩
  rw [← hn] at HV ⊢
  clear hv hl hn
  by_cases h0 : r < 0
  · have d1 : decide (r < 0) = true := decide_eq_true h0
    have HR := Lib.hid (show getV l r = 0 by rw [getV, if_pos (.inl h0)])
    clear h0
    go_enter Tryd.func21, Tryd.ntmps21
    go_wp2
    go_ret
    exact ⟨by rw [HR.out]; rfl, Below.refl _ _⟩
  · have d1 : decide (r < 0) = false := decide_eq_false h0
    by_cases h1 : 31 < r
    · have d2 : decide (r > 31) = true := decide_eq_true h1
      have HR := Lib.hid (show getV l r = 0 by rw [getV, if_pos (.inr h1)])
      clear h0 h1
      go_enter Tryd.func21, Tryd.ntmps21
      go_wp2
      go_ret
      exact ⟨by rw [HR.out]; rfl, Below.refl _ _⟩
    · have d2 : decide (r > 31) = false := decide_eq_false h1
      obtain ⟨i, hi⟩ : ∃ i : Nat, r = (i : Int) := ⟨r.toNat, by omega⟩
      subst hi
      have ix := fun w => index_nums (P := Tryd.prog) w (t := 62) (n := 32) (allV l) i (by omega) Tryd.underlying62 Tryd.underlying2 (by kernel_rfl)
      replace ix : ∀ w, (Instr.index 62 (numsV 32 (allV l)) (.int .i64 (i : Int))).run Tryd.prog w = .ok (.int .i64 (allV l i)) w := ix
      have HR := Lib.hid (show getV l (i : Int) = allV l i by rw [getV, if_neg (by omega), Int.toNat_natCast])
      clear h0 h1
      go_enter Tryd.func21, Tryd.ntmps21
      go_wp2_with (first
        | (go_at_call 38; refine (A1.out w _ HV.out).mono ?_; rintro e w1 ⟨rfl, hb⟩; have B1 := Lib.hid hb; clear hb))
      go_ret
      exact ⟨by rw [HR.out]; rfl, B1.out⟩
set_option maxRecDepth 100000 in
set_option maxHeartbeats 8000000 in
theorem refHas_any10 (l : List D2) (hl : l.length < 2000000) (r q : Int) (v : Value) (w : World) (hv : HasDots w v l) : Calls Tryd.prog 16 #[v, .agg #[.int .i64 r, .int .i64 q]] w fun e w' => e = .returned (.bool (hasV l r q)) ∧ Below w.heap.size w w' := by
  have HV := Lib.hid hv
  have MY := Lib.hid (fun w => refMay_any9 r q w)
  have GT := Lib.hid (fun w hv => refGet_any10 l hl r v w hv)
  have E0 := Lib.hid (show (w.alloc (.cells #[.int .i64 r, .int .i64 q] 24 (0, 0))).heap[w.heap.size]? = some (.cells #[.int .i64 r, .int .i64 q] 24 (0, 0)) from one_box w r q)
  obtain ⟨c0, c1⟩ := dot_cells (show _ = some (dotO r q) from E0.out)
  have C0 := Lib.hid c0
  have C1 := Lib.hid c1
  have B0 := Lib.hid ((Below.refl w.heap.size w).alloc (Nat.le_refl _) (.cells #[.int .i64 r, .int .i64 q] 24 (0, 0)))
  obtain ⟨ao, cap, rfl⟩ := dots_shape hv l.length rfl
  obtain ⟨n, hn⟩ : ∃ n, n = l.length := ⟨_, rfl⟩
  rw [← hn] at HV GT ⊢
  obtain ⟨G, hG⟩ : ∃ G, G = getV l r := ⟨_, rfl⟩
  rw [← hG] at GT
  have HR := Lib.hid (show hasV l r q = (mayD r q && decide (q ≤ G)) by rw [hasV, hG])
  clear hv hl hn hG c0 c1
  cases hm : mayD r q with
  | true =>
    rw [hm] at MY HR
    clear hm
    go_enter Tryd.func16, Tryd.ntmps16
    go_wp2
    generalize w.alloc (.cells #[.int .i64 r, .int .i64 q] 24 (0, 0)) = W0 at *
    refine wp_region_held_drew (S := fun w' => Below W0.heap.size W0 w') (by kernel_rfl) (drawS (Below.refl _ _)) (fun hHeld => ?_)
    generalize W0.drew = wd at hHeld ⊢
    refine take_at (i := 0) 5 rfl rfl (by kernel_rfl) (by kernel_rfl) (by kernel_rfl) (fun _ _ _ h => h) (row_yields (by rfl) 24 (.tmp 3) rfl w.heap.size rfl 24 _ (0, 0) _ Tryd.underlying24 rfl (by kernel_rfl) (fun _ h => row_kept E0.out h)) hHeld ?_
    simp only [List.setIfInBounds_toArray, List.set_cons_zero, List.set_cons_succ]
    refine wpAnyH_ready (rs := [1]) (by kernel_rfl) (by simp) ?_
    refine AllReadyH.cons rfl (fun K hK => ?_) AllReadyH.nil
    go_simp
    go_at_call 37
    refine (MY.out _).mono ?_
    rintro e w6 ⟨rfl, hb⟩
    dsimp only
    refine hK.out _ _ (below_next hHeld hb) (fun hHeld => ?_)
    clear hK K hb
    refine take_at (i := 2) 7 rfl rfl (by kernel_rfl) (by kernel_rfl) (by kernel_rfl) (fun _ _ _ h => h) (sure_yes (by rfl) (fun w => by go_simp; try with_reducible rfl)) hHeld ?_
    simp only [List.setIfInBounds_toArray, List.set_cons_zero, List.set_cons_succ]
    refine take_at (i := 3) 8 rfl rfl (by kernel_rfl) (by kernel_rfl) (by kernel_rfl) (fun _ _ _ h => h) (sure_yes (by rfl) (fun w => by go_simp; try with_reducible rfl)) hHeld ?_
    simp only [List.setIfInBounds_toArray, List.set_cons_zero, List.set_cons_succ]
    refine take_at (i := 5) 10 rfl rfl (by kernel_rfl) (by kernel_rfl) (by kernel_rfl) (fun _ _ _ h => h) (sure_yes (by rfl) (fun w => by go_simp; try with_reducible rfl)) hHeld ?_
    simp only [List.setIfInBounds_toArray, List.set_cons_zero, List.set_cons_succ]
    refine take_at (i := 6) 11 rfl rfl (by kernel_rfl) (by kernel_rfl) (by kernel_rfl) (fun _ _ _ h => h) (sure_yes (by rfl) (fun w => by go_simp; try with_reducible rfl)) hHeld ?_
    simp only [List.setIfInBounds_toArray, List.set_cons_zero, List.set_cons_succ]
    refine take_at (i := 4) 9 rfl rfl (by kernel_rfl) (by kernel_rfl) (by kernel_rfl) (fun _ _ _ h => h) (cell_yields (by rfl) 2 (.tmp 8) rfl w.heap.size 1 rfl .i64 q Tryd.underlying2 (fun w h => (World.cell?_of_block (h.block _ (World.block_lt_of_cell? _ _ C1.out))).trans C1.out)) hHeld ?_
    simp only [List.setIfInBounds_toArray, List.set_cons_zero, List.set_cons_succ]
    refine take_at (i := 7) 12 rfl rfl (by kernel_rfl) (by kernel_rfl) (by kernel_rfl) (fun _ _ _ h => h) (cell_yields (by rfl) 3 (.tmp 11) rfl w.heap.size 0 rfl .i64 r Tryd.underlying3 (fun w h => (World.cell?_of_block (h.block _ (World.block_lt_of_cell? _ _ C0.out))).trans C0.out)) hHeld ?_
    simp only [List.setIfInBounds_toArray, List.set_cons_zero, List.set_cons_succ]
    refine wpAnyH_ready (rs := [8]) (by kernel_rfl) (by simp) ?_
    refine AllReadyH.cons rfl (fun K hK => ?_) AllReadyH.nil
    go_simp
    go_at_call 21
    refine (GT.out _ (dots_below HV.out (below_next B0.out hHeld))).mono ?_
    rintro e w6 ⟨rfl, hb⟩
    dsimp only
    refine hK.out _ _ (below_next hHeld hb) (fun hHeld => ?_)
    clear hK K hb
    refine take_at (i := 9) 14 rfl rfl (by kernel_rfl) (by kernel_rfl) (by kernel_rfl) (fun _ _ _ h => h) (sure_yes (by rfl) (fun w => by go_simp; try with_reducible rfl)) hHeld ?_
    simp only [List.setIfInBounds_toArray, List.set_cons_zero, List.set_cons_succ]
    refine take_at (i := 10) 15 rfl rfl (by kernel_rfl) (by kernel_rfl) (by kernel_rfl) (fun _ _ _ h => h) (sure_yes (by rfl) (fun w => by go_simp; try with_reducible rfl)) hHeld ?_
    simp only [List.setIfInBounds_toArray, List.set_cons_zero, List.set_cons_succ]
    refine take_at (i := 11) 4 rfl rfl (by kernel_rfl) (by kernel_rfl) (by kernel_rfl) (fun _ _ _ h => h) (sure_yes (by rfl) (fun w => by go_simp; try with_reducible rfl)) hHeld ?_
    simp only [List.setIfInBounds_toArray, List.set_cons_zero, List.set_cons_succ]
    refine wpAnyH_done (by kernel_rfl) ?_ _
    go_wp2
    go_ret
    exact ⟨by rw [HR.out]; rfl, below_next B0.out hHeld⟩
  | false =>
    rw [hm] at MY HR
    clear hm
    go_enter Tryd.func16, Tryd.ntmps16
    go_wp2
    generalize w.alloc (.cells #[.int .i64 r, .int .i64 q] 24 (0, 0)) = W0 at *
    refine wp_region_held_drew (S := fun w' => Below W0.heap.size W0 w') (by kernel_rfl) (drawS (Below.refl _ _)) (fun hHeld => ?_)
    generalize W0.drew = wd at hHeld ⊢
    refine take_at (i := 0) 5 rfl rfl (by kernel_rfl) (by kernel_rfl) (by kernel_rfl) (fun _ _ _ h => h) (row_yields (by rfl) 24 (.tmp 3) rfl w.heap.size rfl 24 _ (0, 0) _ Tryd.underlying24 rfl (by kernel_rfl) (fun _ h => row_kept E0.out h)) hHeld ?_
    simp only [List.setIfInBounds_toArray, List.set_cons_zero, List.set_cons_succ]
    refine wpAnyH_ready (rs := [1]) (by kernel_rfl) (by simp) ?_
    refine AllReadyH.cons rfl (fun K hK => ?_) AllReadyH.nil
    go_simp
    go_at_call 37
    refine (MY.out _).mono ?_
    rintro e w6 ⟨rfl, hb⟩
    dsimp only
    refine hK.out _ _ (below_next hHeld hb) (fun hHeld => ?_)
    clear hK K hb
    refine take_at (i := 2) 7 rfl rfl (by kernel_rfl) (by kernel_rfl) (by kernel_rfl) (fun _ _ _ h => h) (sure_yes (by rfl) (fun w => by go_simp; try with_reducible rfl)) hHeld ?_
    simp only [List.setIfInBounds_toArray, List.set_cons_zero, List.set_cons_succ]
    refine take_at (i := 3) 8 rfl rfl (by kernel_rfl) (by kernel_rfl) (by kernel_rfl) (fun _ _ _ h => h) (.inr ⟨by rfl, rfl⟩) hHeld ?_
    simp only [List.setIfInBounds_toArray, List.set_cons_zero, List.set_cons_succ]
    refine take_at (i := 4) 9 rfl rfl (by kernel_rfl) (by kernel_rfl) (by kernel_rfl) (fun _ _ _ h => h) (.inr ⟨by rfl, rfl⟩) hHeld ?_
    simp only [List.setIfInBounds_toArray, List.set_cons_zero, List.set_cons_succ]
    refine take_at (i := 5) 10 rfl rfl (by kernel_rfl) (by kernel_rfl) (by kernel_rfl) (fun _ _ _ h => h) (.inr ⟨by rfl, rfl⟩) hHeld ?_
    simp only [List.setIfInBounds_toArray, List.set_cons_zero, List.set_cons_succ]
    refine take_at (i := 6) 11 rfl rfl (by kernel_rfl) (by kernel_rfl) (by kernel_rfl) (fun _ _ _ h => h) (.inr ⟨by rfl, rfl⟩) hHeld ?_
    simp only [List.setIfInBounds_toArray, List.set_cons_zero, List.set_cons_succ]
    refine take_at (i := 7) 12 rfl rfl (by kernel_rfl) (by kernel_rfl) (by kernel_rfl) (fun _ _ _ h => h) (.inr ⟨by rfl, rfl⟩) hHeld ?_
    simp only [List.setIfInBounds_toArray, List.set_cons_zero, List.set_cons_succ]
    refine take_at (i := 8) 13 rfl rfl (by kernel_rfl) (by kernel_rfl) (by kernel_rfl) (fun _ _ _ h => h) (.inr ⟨by rfl, rfl⟩) hHeld ?_
    simp only [List.setIfInBounds_toArray, List.set_cons_zero, List.set_cons_succ]
    refine take_at (i := 9) 14 rfl rfl (by kernel_rfl) (by kernel_rfl) (by kernel_rfl) (fun _ _ _ h => h) (.inr ⟨by rfl, rfl⟩) hHeld ?_
    simp only [List.setIfInBounds_toArray, List.set_cons_zero, List.set_cons_succ]
    refine take_at (i := 10) 15 rfl rfl (by kernel_rfl) (by kernel_rfl) (by kernel_rfl) (fun _ _ _ h => h) (sure_yes (by rfl) (fun w => by go_simp; try with_reducible rfl)) hHeld ?_
    simp only [List.setIfInBounds_toArray, List.set_cons_zero, List.set_cons_succ]
    refine take_at (i := 11) 4 rfl rfl (by kernel_rfl) (by kernel_rfl) (by kernel_rfl) (fun _ _ _ h => h) (sure_yes (by rfl) (fun w => by go_simp; try with_reducible rfl)) hHeld ?_
    simp only [List.setIfInBounds_toArray, List.set_cons_zero, List.set_cons_succ]
    refine wpAnyH_done (by kernel_rfl) ?_ _
    go_wp2
    go_ret
    exact ⟨by rw [HR.out]; rfl, below_next B0.out hHeld⟩
end Go.Proofs.YtcdjkjadbhejpaaDoor
namespace Go.Proofs.YtcdjkjadbhejpaaDoor
open Go.RowKit
theorem counts_V (l : List D2) (hl : l.length < 2000000) (v : Value) (w : World) (hv : HasDots w v l) : Calls Tryd.prog 53 #[v] w fun e w' => e = .returned (numsV 32 (allV l)) ∧ Below w.heap.size w w' := counts_any l hl v w hv
set_option maxRecDepth 100000 in
set_option maxHeartbeats 16000000 in
theorem vecGet_any (l : List D2) (hl : l.length < 2000000) (r : Int) (v : Value) (w : World) (hv : HasDots w v l) : Calls Tryd.prog 42 #[v, .int .i64 r] w fun e w' => e = .returned (.int .i64 (getV l r)) ∧ Below w.heap.size w w' := by
  have HV := Lib.hid hv
  have A1 := Lib.hid (fun w v hv => counts_V l hl v w hv)
  obtain ⟨ao, cap, rfl⟩ := dots_shape hv l.length rfl
  obtain ⟨n, hn⟩ : ∃ n, n = l.length := ⟨_, rfl⟩
  rw [← hn] at HV ⊢
  clear hv hl hn
  by_cases h0 : r < 0
  · have d1 : decide (r < 0) = true := decide_eq_true h0
    have HR := Lib.hid (show getV l r = 0 by rw [getV, if_pos (.inl h0)])
    clear h0
    go_enter Tryd.func42, Tryd.ntmps42
    go_wp2
    go_ret
    exact ⟨by rw [HR.out]; rfl, Below.refl _ _⟩
  · have d1 : decide (r < 0) = false := decide_eq_false h0
    by_cases h1 : 31 < r
    · have d2 : decide (r ≥ 32) = true := decide_eq_true (by omega)
      have HR := Lib.hid (show getV l r = 0 by rw [getV, if_pos (.inr h1)])
      clear h0 h1
      go_enter Tryd.func42, Tryd.ntmps42
      go_wp2
      go_ret
      exact ⟨by rw [HR.out]; rfl, Below.refl _ _⟩
    · have d2 : decide (r ≥ 32) = false := decide_eq_false (by omega)
      obtain ⟨i, hi⟩ : ∃ i : Nat, r = (i : Int) := ⟨r.toNat, by omega⟩
      subst hi
      have ix := fun w => index_nums (P := Tryd.prog) w (t := 73) (n := 32) (allV l) i (by omega) Tryd.underlying73 Tryd.underlying2 (by kernel_rfl)
      replace ix : ∀ w, (Instr.index 73 (numsV 32 (allV l)) (.int .i64 (i : Int))).run Tryd.prog w = .ok (.int .i64 (allV l i)) w := ix
      have HR := Lib.hid (show getV l (i : Int) = allV l i by rw [getV, if_neg (by omega), Int.toNat_natCast])
      clear h0 h1
      go_enter Tryd.func42, Tryd.ntmps42
      go_wp2_with (first
        | (go_at_call 53; refine (A1.out w _ HV.out).mono ?_; rintro e w1 ⟨rfl, hb⟩; have B1 := Lib.hid hb; clear hb))
      go_ret
      exact ⟨by rw [HR.out]; rfl, B1.out⟩
set_option maxRecDepth 100000 in
set_option maxHeartbeats 16000000 in
theorem vecHas_any (l : List D2) (hl : l.length < 2000000) (r q : Int) (v : Value) (w : World) (hv : HasDots w v l) : Calls Tryd.prog 49 #[v, .agg #[.int .i64 r, .int .i64 q]] w fun e w' => e = .returned (.bool (hasV l r q)) ∧ Below w.heap.size w w' := by
  have HV := Lib.hid hv
  have MY := Lib.hid (fun w => may_any9 r q w)
  have GT := Lib.hid (fun w hv => vecGet_any l hl r v w hv)
  have E0 := Lib.hid (show (w.alloc (.cells #[.int .i64 r, .int .i64 q] 24 (0, 0))).heap[w.heap.size]? = some (.cells #[.int .i64 r, .int .i64 q] 24 (0, 0)) from one_box w r q)
  obtain ⟨c0, c1⟩ := dot_cells (show _ = some (dotO r q) from E0.out)
  have C0 := Lib.hid c0
  have C1 := Lib.hid c1
  have B0 := Lib.hid ((Below.refl w.heap.size w).alloc (Nat.le_refl _) (.cells #[.int .i64 r, .int .i64 q] 24 (0, 0)))
  obtain ⟨ao, cap, rfl⟩ := dots_shape hv l.length rfl
  obtain ⟨n, hn⟩ : ∃ n, n = l.length := ⟨_, rfl⟩
  rw [← hn] at HV GT ⊢
  obtain ⟨G, hG⟩ : ∃ G, G = getV l r := ⟨_, rfl⟩
  rw [← hG] at GT
  have HR := Lib.hid (show hasV l r q = (mayD r q && decide (q ≤ G)) by rw [hasV, hG])
  clear hv hl hn hG c0 c1
  cases hm : mayD r q with
  | true =>
    rw [hm] at MY HR
    clear hm
    go_enter Tryd.func49, Tryd.ntmps49
    go_wp2
    generalize w.alloc (.cells #[.int .i64 r, .int .i64 q] 24 (0, 0)) = W0 at *
    refine wp_region_held_drew (S := fun w' => Below W0.heap.size W0 w') (by kernel_rfl) (drawS (Below.refl _ _)) (fun hHeld => ?_)
    generalize W0.drew = wd at hHeld ⊢
    refine take_at (i := 0) 5 rfl rfl (by kernel_rfl) (by kernel_rfl) (by kernel_rfl) (fun _ _ _ h => h) (row_yields (by rfl) 24 (.tmp 3) rfl w.heap.size rfl 24 _ (0, 0) _ Tryd.underlying24 rfl (by kernel_rfl) (fun _ h => row_kept E0.out h)) hHeld ?_
    simp only [List.setIfInBounds_toArray, List.set_cons_zero, List.set_cons_succ]
    refine wpAnyH_ready (rs := [1]) (by kernel_rfl) (by simp) ?_
    refine AllReadyH.cons rfl (fun K hK => ?_) AllReadyH.nil
    go_simp
    go_at_call 23
    refine (MY.out _).mono ?_
    rintro e w6 ⟨rfl, hb⟩
    dsimp only
    refine hK.out _ _ (below_next hHeld hb) (fun hHeld => ?_)
    clear hK K hb
    refine take_at (i := 2) 7 rfl rfl (by kernel_rfl) (by kernel_rfl) (by kernel_rfl) (fun _ _ _ h => h) (sure_yes (by rfl) (fun w => by go_simp; try with_reducible rfl)) hHeld ?_
    simp only [List.setIfInBounds_toArray, List.set_cons_zero, List.set_cons_succ]
    refine take_at (i := 3) 8 rfl rfl (by kernel_rfl) (by kernel_rfl) (by kernel_rfl) (fun _ _ _ h => h) (sure_yes (by rfl) (fun w => by go_simp; try with_reducible rfl)) hHeld ?_
    simp only [List.setIfInBounds_toArray, List.set_cons_zero, List.set_cons_succ]
    refine take_at (i := 5) 10 rfl rfl (by kernel_rfl) (by kernel_rfl) (by kernel_rfl) (fun _ _ _ h => h) (sure_yes (by rfl) (fun w => by go_simp; try with_reducible rfl)) hHeld ?_
    simp only [List.setIfInBounds_toArray, List.set_cons_zero, List.set_cons_succ]
    refine take_at (i := 6) 11 rfl rfl (by kernel_rfl) (by kernel_rfl) (by kernel_rfl) (fun _ _ _ h => h) (sure_yes (by rfl) (fun w => by go_simp; try with_reducible rfl)) hHeld ?_
    simp only [List.setIfInBounds_toArray, List.set_cons_zero, List.set_cons_succ]
    refine take_at (i := 4) 9 rfl rfl (by kernel_rfl) (by kernel_rfl) (by kernel_rfl) (fun _ _ _ h => h) (cell_yields (by rfl) 2 (.tmp 8) rfl w.heap.size 1 rfl .i64 q Tryd.underlying2 (fun w h => (World.cell?_of_block (h.block _ (World.block_lt_of_cell? _ _ C1.out))).trans C1.out)) hHeld ?_
    simp only [List.setIfInBounds_toArray, List.set_cons_zero, List.set_cons_succ]
    refine take_at (i := 7) 12 rfl rfl (by kernel_rfl) (by kernel_rfl) (by kernel_rfl) (fun _ _ _ h => h) (cell_yields (by rfl) 3 (.tmp 11) rfl w.heap.size 0 rfl .i64 r Tryd.underlying3 (fun w h => (World.cell?_of_block (h.block _ (World.block_lt_of_cell? _ _ C0.out))).trans C0.out)) hHeld ?_
    simp only [List.setIfInBounds_toArray, List.set_cons_zero, List.set_cons_succ]
    refine wpAnyH_ready (rs := [8]) (by kernel_rfl) (by simp) ?_
    refine AllReadyH.cons rfl (fun K hK => ?_) AllReadyH.nil
    go_simp
    go_at_call 42
    refine (GT.out _ (dots_below HV.out (below_next B0.out hHeld))).mono ?_
    rintro e w6 ⟨rfl, hb⟩
    dsimp only
    refine hK.out _ _ (below_next hHeld hb) (fun hHeld => ?_)
    clear hK K hb
    refine take_at (i := 9) 14 rfl rfl (by kernel_rfl) (by kernel_rfl) (by kernel_rfl) (fun _ _ _ h => h) (sure_yes (by rfl) (fun w => by go_simp; try with_reducible rfl)) hHeld ?_
    simp only [List.setIfInBounds_toArray, List.set_cons_zero, List.set_cons_succ]
    refine take_at (i := 10) 15 rfl rfl (by kernel_rfl) (by kernel_rfl) (by kernel_rfl) (fun _ _ _ h => h) (sure_yes (by rfl) (fun w => by go_simp; try with_reducible rfl)) hHeld ?_
    simp only [List.setIfInBounds_toArray, List.set_cons_zero, List.set_cons_succ]
    refine take_at (i := 11) 4 rfl rfl (by kernel_rfl) (by kernel_rfl) (by kernel_rfl) (fun _ _ _ h => h) (sure_yes (by rfl) (fun w => by go_simp; try with_reducible rfl)) hHeld ?_
    simp only [List.setIfInBounds_toArray, List.set_cons_zero, List.set_cons_succ]
    refine wpAnyH_done (by kernel_rfl) ?_ _
    go_wp2
    go_ret
    exact ⟨by rw [HR.out]; rfl, below_next B0.out hHeld⟩
  | false =>
    rw [hm] at MY HR
    clear hm
    go_enter Tryd.func49, Tryd.ntmps49
    go_wp2
    generalize w.alloc (.cells #[.int .i64 r, .int .i64 q] 24 (0, 0)) = W0 at *
    refine wp_region_held_drew (S := fun w' => Below W0.heap.size W0 w') (by kernel_rfl) (drawS (Below.refl _ _)) (fun hHeld => ?_)
    generalize W0.drew = wd at hHeld ⊢
    refine take_at (i := 0) 5 rfl rfl (by kernel_rfl) (by kernel_rfl) (by kernel_rfl) (fun _ _ _ h => h) (row_yields (by rfl) 24 (.tmp 3) rfl w.heap.size rfl 24 _ (0, 0) _ Tryd.underlying24 rfl (by kernel_rfl) (fun _ h => row_kept E0.out h)) hHeld ?_
    simp only [List.setIfInBounds_toArray, List.set_cons_zero, List.set_cons_succ]
    refine wpAnyH_ready (rs := [1]) (by kernel_rfl) (by simp) ?_
    refine AllReadyH.cons rfl (fun K hK => ?_) AllReadyH.nil
    go_simp
    go_at_call 23
    refine (MY.out _).mono ?_
    rintro e w6 ⟨rfl, hb⟩
    dsimp only
    refine hK.out _ _ (below_next hHeld hb) (fun hHeld => ?_)
    clear hK K hb
    refine take_at (i := 2) 7 rfl rfl (by kernel_rfl) (by kernel_rfl) (by kernel_rfl) (fun _ _ _ h => h) (sure_yes (by rfl) (fun w => by go_simp; try with_reducible rfl)) hHeld ?_
    simp only [List.setIfInBounds_toArray, List.set_cons_zero, List.set_cons_succ]
    refine take_at (i := 3) 8 rfl rfl (by kernel_rfl) (by kernel_rfl) (by kernel_rfl) (fun _ _ _ h => h) (.inr ⟨by rfl, rfl⟩) hHeld ?_
    simp only [List.setIfInBounds_toArray, List.set_cons_zero, List.set_cons_succ]
    refine take_at (i := 4) 9 rfl rfl (by kernel_rfl) (by kernel_rfl) (by kernel_rfl) (fun _ _ _ h => h) (.inr ⟨by rfl, rfl⟩) hHeld ?_
    simp only [List.setIfInBounds_toArray, List.set_cons_zero, List.set_cons_succ]
    refine take_at (i := 5) 10 rfl rfl (by kernel_rfl) (by kernel_rfl) (by kernel_rfl) (fun _ _ _ h => h) (.inr ⟨by rfl, rfl⟩) hHeld ?_
    simp only [List.setIfInBounds_toArray, List.set_cons_zero, List.set_cons_succ]
    refine take_at (i := 6) 11 rfl rfl (by kernel_rfl) (by kernel_rfl) (by kernel_rfl) (fun _ _ _ h => h) (.inr ⟨by rfl, rfl⟩) hHeld ?_
    simp only [List.setIfInBounds_toArray, List.set_cons_zero, List.set_cons_succ]
    refine take_at (i := 7) 12 rfl rfl (by kernel_rfl) (by kernel_rfl) (by kernel_rfl) (fun _ _ _ h => h) (.inr ⟨by rfl, rfl⟩) hHeld ?_
    simp only [List.setIfInBounds_toArray, List.set_cons_zero, List.set_cons_succ]
    refine take_at (i := 8) 13 rfl rfl (by kernel_rfl) (by kernel_rfl) (by kernel_rfl) (fun _ _ _ h => h) (.inr ⟨by rfl, rfl⟩) hHeld ?_
    simp only [List.setIfInBounds_toArray, List.set_cons_zero, List.set_cons_succ]
    refine take_at (i := 9) 14 rfl rfl (by kernel_rfl) (by kernel_rfl) (by kernel_rfl) (fun _ _ _ h => h) (.inr ⟨by rfl, rfl⟩) hHeld ?_
    simp only [List.setIfInBounds_toArray, List.set_cons_zero, List.set_cons_succ]
    refine take_at (i := 10) 15 rfl rfl (by kernel_rfl) (by kernel_rfl) (by kernel_rfl) (fun _ _ _ h => h) (sure_yes (by rfl) (fun w => by go_simp; try with_reducible rfl)) hHeld ?_
    simp only [List.setIfInBounds_toArray, List.set_cons_zero, List.set_cons_succ]
    refine take_at (i := 11) 4 rfl rfl (by kernel_rfl) (by kernel_rfl) (by kernel_rfl) (fun _ _ _ h => h) (sure_yes (by rfl) (fun w => by go_simp; try with_reducible rfl)) hHeld ?_
    simp only [List.setIfInBounds_toArray, List.set_cons_zero, List.set_cons_succ]
    refine wpAnyH_done (by kernel_rfl) ?_ _
    go_wp2
    go_ret
    exact ⟨by rw [HR.out]; rfl, below_next B0.out hHeld⟩
end Go.Proofs.YtcdjkjadbhejpaaDoor
namespace Go.Proofs.YtcdjkjadbhejpaaDoor
open Go.RowKit
theorem dots_part {w : World} {ad : Addr} {n cap : Nat} {l : List D2} (h : HasDots w (.slice (some ad) n cap) l) (k : Nat) (hk : k ≤ n) (hn : n = l.length) : HasDots w (.slice (some ad) k cap) (l.take k) := by
  obtain ⟨ao, cap', e, hnil, hc⟩ := h
  injection e with e1 e2 e3
  subst e1 e3
  have hl : (l.take k).length = k := by rw [List.length_take]; omega
  refine ⟨some ad, cap, by rw [hl], (fun h => by cases h), fun ad' had => ?_⟩
  cases had
  refine ⟨by rw [hl]; have := (hc ad rfl).1; omega, fun j u hj => (hc ad rfl).2 j u ?_⟩
  obtain ⟨i, d, h1, h2⟩ := dotsC_inv _ j u hj
  have h3 : l[i]? = some d := by
    rw [List.getElem?_take] at h1
    split at h1
    · exact h1
    · cases h1
  obtain ⟨p1, p2⟩ := dotsC_at l i d h3
  rcases h2 with ⟨rfl, rfl⟩ | ⟨rfl, rfl⟩
  · exact p1
  · exact p2
theorem fol_no {l : List D2} {r q : Int} (h : mayD r q = false) : fol l (r, q) = false := by
  rw [fol, show mayT (r, q) = false from h]; rfl
theorem fol_nil {r q : Int} (h : mayD r q = true) : fol [] (r, q) = true := by
  rw [fol, show mayT (r, q) = true from h]; rfl
theorem fol_last {l : List D2} {r q r0 q0 : Int} {j : Nat} (h : mayD r q = true) (hj : l.length = j + 1) (hd : l[j]? = some (r0, q0)) : fol l (r, q) = decide (r0 < r) := by
  obtain ⟨a, b, rfl⟩ := list_snoc l (fun e => by rw [e] at hj; simp at hj)
  have ha : a.length = j := by simpa using hj
  subst ha
  obtain rfl : b = (r0, q0) := by simpa using hd
  rw [fol, show mayT (r, q) = true from h, List.getLastD_concat]
  simp
set_option maxRecDepth 100000 in
set_option maxHeartbeats 16000000 in
theorem mayFollow_any (l : List D2) (hl : l.length < 2000000) (r q : Int) (v : Value) (w : World) (hv : HasDots w v l) : Calls Tryd.prog 52 #[v, .agg #[.int .i64 r, .int .i64 q]] w fun e w' => e = .returned (.bool (fol l (r, q))) ∧ Below w.heap.size w w' := by
  have HV := Lib.hid hv
  have MY := Lib.hid (fun w => may_any9 r q w)
  have E0 := Lib.hid (show (w.alloc (.cells #[.int .i64 r, .int .i64 q] 24 (0, 0))).heap[w.heap.size]? = some (.cells #[.int .i64 r, .int .i64 q] 24 (0, 0)) from one_box w r q)
  have B0 := Lib.hid ((Below.refl w.heap.size w).alloc (Nat.le_refl _) (.cells #[.int .i64 r, .int .i64 q] 24 (0, 0)))
  cases hm : mayD r q with
  | false =>
    rw [hm] at MY
    have HR := Lib.hid (fol_no (l := l) hm)
    obtain ⟨ao, cap, rfl⟩ := dots_shape hv l.length rfl
    obtain ⟨n, hn⟩ : ∃ n, n = l.length := ⟨_, rfl⟩
    rw [← hn] at HV ⊢
    clear hv hl hn hm
    go_enter Tryd.func52, Tryd.ntmps52
    go_upto_region 1 with fail
    generalize w.alloc (.cells #[.int .i64 r, .int .i64 q] 24 (0, 0)) = W0 at *
    refine wp_region_held_drew (S := fun w' => Below W0.heap.size W0 w') (by kernel_rfl) (drawS (Below.refl _ _)) (fun hHeld => ?_)
    generalize W0.drew = wd at hHeld ⊢
    refine take_at (i := 0) 5 rfl rfl (by kernel_rfl) (by kernel_rfl) (by kernel_rfl) (fun _ _ _ h => h) (row_yields (by rfl) 24 (.tmp 3) rfl w.heap.size rfl 24 _ (0, 0) _ Tryd.underlying24 rfl (by kernel_rfl) (fun _ h => row_kept E0.out h)) hHeld ?_
    simp only [List.setIfInBounds_toArray, List.set_cons_zero, List.set_cons_succ]
    refine wpAnyH_ready (rs := [1]) (by kernel_rfl) (by simp) ?_
    refine AllReadyH.cons rfl (fun K hK => ?_) AllReadyH.nil
    go_simp
    go_at_call 23
    refine (MY.out _).mono ?_
    rintro e w6 ⟨rfl, hb⟩
    dsimp only
    refine hK.out _ _ (below_next hHeld hb) (fun hHeld => ?_)
    clear hK K hb
    refine take_at (i := 2) 7 rfl rfl (by kernel_rfl) (by kernel_rfl) (by kernel_rfl) (fun _ _ _ h => h) (sure_yes (by rfl) (fun w => by go_simp; try with_reducible rfl)) hHeld ?_
    simp only [List.setIfInBounds_toArray, List.set_cons_zero, List.set_cons_succ]
    refine take_at (i := 3) 8 rfl rfl (by kernel_rfl) (by kernel_rfl) (by kernel_rfl) (fun _ _ _ h => h) (.inr ⟨by rfl, rfl⟩) hHeld ?_
    simp only [List.setIfInBounds_toArray, List.set_cons_zero, List.set_cons_succ]
    refine take_at (i := 4) 9 rfl rfl (by kernel_rfl) (by kernel_rfl) (by kernel_rfl) (fun _ _ _ h => h) (.inr ⟨by rfl, rfl⟩) hHeld ?_
    simp only [List.setIfInBounds_toArray, List.set_cons_zero, List.set_cons_succ]
    refine take_at (i := 5) 10 rfl rfl (by kernel_rfl) (by kernel_rfl) (by kernel_rfl) (fun _ _ _ h => h) (.inr ⟨by rfl, rfl⟩) hHeld ?_
    simp only [List.setIfInBounds_toArray, List.set_cons_zero, List.set_cons_succ]
    refine take_at (i := 6) 11 rfl rfl (by kernel_rfl) (by kernel_rfl) (by kernel_rfl) (fun _ _ _ h => h) (.inr ⟨by rfl, rfl⟩) hHeld ?_
    simp only [List.setIfInBounds_toArray, List.set_cons_zero, List.set_cons_succ]
    refine take_at (i := 7) 12 rfl rfl (by kernel_rfl) (by kernel_rfl) (by kernel_rfl) (fun _ _ _ h => h) (.inr ⟨by rfl, rfl⟩) hHeld ?_
    simp only [List.setIfInBounds_toArray, List.set_cons_zero, List.set_cons_succ]
    refine take_at (i := 8) 13 rfl rfl (by kernel_rfl) (by kernel_rfl) (by kernel_rfl) (fun _ _ _ h => h) (.inr ⟨by rfl, rfl⟩) hHeld ?_
    simp only [List.setIfInBounds_toArray, List.set_cons_zero, List.set_cons_succ]
    refine take_at (i := 9) 14 rfl rfl (by kernel_rfl) (by kernel_rfl) (by kernel_rfl) (fun _ _ _ h => h) (.inr ⟨by rfl, rfl⟩) hHeld ?_
    simp only [List.setIfInBounds_toArray, List.set_cons_zero, List.set_cons_succ]
    refine take_at (i := 10) 15 rfl rfl (by kernel_rfl) (by kernel_rfl) (by kernel_rfl) (fun _ _ _ h => h) (.inr ⟨by rfl, rfl⟩) hHeld ?_
    simp only [List.setIfInBounds_toArray, List.set_cons_zero, List.set_cons_succ]
    refine take_at (i := 11) 16 rfl rfl (by kernel_rfl) (by kernel_rfl) (by kernel_rfl) (fun _ _ _ h => h) (.inr ⟨by rfl, rfl⟩) hHeld ?_
    simp only [List.setIfInBounds_toArray, List.set_cons_zero, List.set_cons_succ]
    refine take_at (i := 12) 17 rfl rfl (by kernel_rfl) (by kernel_rfl) (by kernel_rfl) (fun _ _ _ h => h) (.inr ⟨by rfl, rfl⟩) hHeld ?_
    simp only [List.setIfInBounds_toArray, List.set_cons_zero, List.set_cons_succ]
    refine take_at (i := 13) 18 rfl rfl (by kernel_rfl) (by kernel_rfl) (by kernel_rfl) (fun _ _ _ h => h) (.inr ⟨by rfl, rfl⟩) hHeld ?_
    simp only [List.setIfInBounds_toArray, List.set_cons_zero, List.set_cons_succ]
    refine take_at (i := 14) 19 rfl rfl (by kernel_rfl) (by kernel_rfl) (by kernel_rfl) (fun _ _ _ h => h) (.inr ⟨by rfl, rfl⟩) hHeld ?_
    simp only [List.setIfInBounds_toArray, List.set_cons_zero, List.set_cons_succ]
    refine take_at (i := 15) 20 rfl rfl (by kernel_rfl) (by kernel_rfl) (by kernel_rfl) (fun _ _ _ h => h) (.inr ⟨by rfl, rfl⟩) hHeld ?_
    simp only [List.setIfInBounds_toArray, List.set_cons_zero, List.set_cons_succ]
    refine take_at (i := 16) 21 rfl rfl (by kernel_rfl) (by kernel_rfl) (by kernel_rfl) (fun _ _ _ h => h) (.inr ⟨by rfl, rfl⟩) hHeld ?_
    simp only [List.setIfInBounds_toArray, List.set_cons_zero, List.set_cons_succ]
    refine take_at (i := 17) 22 rfl rfl (by kernel_rfl) (by kernel_rfl) (by kernel_rfl) (fun _ _ _ h => h) (.inr ⟨by rfl, rfl⟩) hHeld ?_
    simp only [List.setIfInBounds_toArray, List.set_cons_zero, List.set_cons_succ]
    refine take_at (i := 18) 23 rfl rfl (by kernel_rfl) (by kernel_rfl) (by kernel_rfl) (fun _ _ _ h => h) (sure_yes (by rfl) (fun w => by go_simp; try with_reducible rfl)) hHeld ?_
    simp only [List.setIfInBounds_toArray, List.set_cons_zero, List.set_cons_succ]
    refine take_at (i := 19) 4 rfl rfl (by kernel_rfl) (by kernel_rfl) (by kernel_rfl) (fun _ _ _ h => h) (sure_yes (by rfl) (fun w => by go_simp; try with_reducible rfl)) hHeld ?_
    simp only [List.setIfInBounds_toArray, List.set_cons_zero, List.set_cons_succ]
    refine wpAnyH_done (by kernel_rfl) ?_ _
    go_wp2
    go_ret
    exact ⟨by rw [HR.out]; rfl, below_next B0.out hHeld⟩
  | true =>
    rw [hm] at MY
    by_cases hnil : l = []
    · subst hnil
      have HR := Lib.hid (fol_nil hm)
      obtain ⟨ao, cap, rfl⟩ := dots_shape hv 0 rfl
      clear hv hl hm
      go_enter Tryd.func52, Tryd.ntmps52
      go_upto_region 1 with fail
      generalize w.alloc (.cells #[.int .i64 r, .int .i64 q] 24 (0, 0)) = W0 at *
      refine wp_region_held_drew (S := fun w' => Below W0.heap.size W0 w') (by kernel_rfl) (drawS (Below.refl _ _)) (fun hHeld => ?_)
      generalize W0.drew = wd at hHeld ⊢
      refine take_at (i := 0) 5 rfl rfl (by kernel_rfl) (by kernel_rfl) (by kernel_rfl) (fun _ _ _ h => h) (row_yields (by rfl) 24 (.tmp 3) rfl w.heap.size rfl 24 _ (0, 0) _ Tryd.underlying24 rfl (by kernel_rfl) (fun _ h => row_kept E0.out h)) hHeld ?_
      simp only [List.setIfInBounds_toArray, List.set_cons_zero, List.set_cons_succ]
      refine wpAnyH_ready (rs := [1]) (by kernel_rfl) (by simp) ?_
      refine AllReadyH.cons rfl (fun K hK => ?_) AllReadyH.nil
      go_simp
      go_at_call 23
      refine (MY.out _).mono ?_
      rintro e w6 ⟨rfl, hb⟩
      dsimp only
      refine hK.out _ _ (below_next hHeld hb) (fun hHeld => ?_)
      clear hK K hb
      refine take_at (i := 2) 7 rfl rfl (by kernel_rfl) (by kernel_rfl) (by kernel_rfl) (fun _ _ _ h => h) (sure_yes (by rfl) (fun w => by go_simp; try with_reducible rfl)) hHeld ?_
      simp only [List.setIfInBounds_toArray, List.set_cons_zero, List.set_cons_succ]
      refine take_at (i := 3) 8 rfl rfl (by kernel_rfl) (by kernel_rfl) (by kernel_rfl) (fun _ _ _ h => h) (sure_yes (by rfl) (fun w => by go_simp; try with_reducible rfl)) hHeld ?_
      simp only [List.setIfInBounds_toArray, List.set_cons_zero, List.set_cons_succ]
      refine take_at (i := 4) 9 rfl rfl (by kernel_rfl) (by kernel_rfl) (by kernel_rfl) (fun _ _ _ h => h) (sure_yes (by rfl) (fun w => by go_simp; try with_reducible rfl)) hHeld ?_
      simp only [List.setIfInBounds_toArray, List.set_cons_zero, List.set_cons_succ]
      refine take_at (i := 5) 10 rfl rfl (by kernel_rfl) (by kernel_rfl) (by kernel_rfl) (fun _ _ _ h => h) (sure_yes (by rfl) (fun w => by go_simp; try with_reducible rfl)) hHeld ?_
      simp only [List.setIfInBounds_toArray, List.set_cons_zero, List.set_cons_succ]
      refine take_at (i := 6) 11 rfl rfl (by kernel_rfl) (by kernel_rfl) (by kernel_rfl) (fun _ _ _ h => h) (sure_yes (by rfl) (fun w => by go_simp; try with_reducible rfl)) hHeld ?_
      simp only [List.setIfInBounds_toArray, List.set_cons_zero, List.set_cons_succ]
      refine take_at (i := 7) 12 rfl rfl (by kernel_rfl) (by kernel_rfl) (by kernel_rfl) (fun _ _ _ h => h) (.inr ⟨by rfl, rfl⟩) hHeld ?_
      simp only [List.setIfInBounds_toArray, List.set_cons_zero, List.set_cons_succ]
      refine take_at (i := 8) 13 rfl rfl (by kernel_rfl) (by kernel_rfl) (by kernel_rfl) (fun _ _ _ h => h) (.inr ⟨by rfl, rfl⟩) hHeld ?_
      simp only [List.setIfInBounds_toArray, List.set_cons_zero, List.set_cons_succ]
      refine take_at (i := 9) 14 rfl rfl (by kernel_rfl) (by kernel_rfl) (by kernel_rfl) (fun _ _ _ h => h) (.inr ⟨by rfl, rfl⟩) hHeld ?_
      simp only [List.setIfInBounds_toArray, List.set_cons_zero, List.set_cons_succ]
      refine take_at (i := 10) 15 rfl rfl (by kernel_rfl) (by kernel_rfl) (by kernel_rfl) (fun _ _ _ h => h) (.inr ⟨by rfl, rfl⟩) hHeld ?_
      simp only [List.setIfInBounds_toArray, List.set_cons_zero, List.set_cons_succ]
      refine take_at (i := 11) 16 rfl rfl (by kernel_rfl) (by kernel_rfl) (by kernel_rfl) (fun _ _ _ h => h) (.inr ⟨by rfl, rfl⟩) hHeld ?_
      simp only [List.setIfInBounds_toArray, List.set_cons_zero, List.set_cons_succ]
      refine take_at (i := 12) 17 rfl rfl (by kernel_rfl) (by kernel_rfl) (by kernel_rfl) (fun _ _ _ h => h) (.inr ⟨by rfl, rfl⟩) hHeld ?_
      simp only [List.setIfInBounds_toArray, List.set_cons_zero, List.set_cons_succ]
      refine take_at (i := 13) 18 rfl rfl (by kernel_rfl) (by kernel_rfl) (by kernel_rfl) (fun _ _ _ h => h) (.inr ⟨by rfl, rfl⟩) hHeld ?_
      simp only [List.setIfInBounds_toArray, List.set_cons_zero, List.set_cons_succ]
      refine take_at (i := 14) 19 rfl rfl (by kernel_rfl) (by kernel_rfl) (by kernel_rfl) (fun _ _ _ h => h) (.inr ⟨by rfl, rfl⟩) hHeld ?_
      simp only [List.setIfInBounds_toArray, List.set_cons_zero, List.set_cons_succ]
      refine take_at (i := 15) 20 rfl rfl (by kernel_rfl) (by kernel_rfl) (by kernel_rfl) (fun _ _ _ h => h) (.inr ⟨by rfl, rfl⟩) hHeld ?_
      simp only [List.setIfInBounds_toArray, List.set_cons_zero, List.set_cons_succ]
      refine take_at (i := 16) 21 rfl rfl (by kernel_rfl) (by kernel_rfl) (by kernel_rfl) (fun _ _ _ h => h) (.inr ⟨by rfl, rfl⟩) hHeld ?_
      simp only [List.setIfInBounds_toArray, List.set_cons_zero, List.set_cons_succ]
      refine take_at (i := 17) 22 rfl rfl (by kernel_rfl) (by kernel_rfl) (by kernel_rfl) (fun _ _ _ h => h) (sure_yes (by rfl) (fun w => by go_simp; try with_reducible rfl)) hHeld ?_
      simp only [List.setIfInBounds_toArray, List.set_cons_zero, List.set_cons_succ]
      refine take_at (i := 18) 23 rfl rfl (by kernel_rfl) (by kernel_rfl) (by kernel_rfl) (fun _ _ _ h => h) (sure_yes (by rfl) (fun w => by go_simp; try with_reducible rfl)) hHeld ?_
      simp only [List.setIfInBounds_toArray, List.set_cons_zero, List.set_cons_succ]
      refine take_at (i := 19) 4 rfl rfl (by kernel_rfl) (by kernel_rfl) (by kernel_rfl) (fun _ _ _ h => h) (sure_yes (by rfl) (fun w => by go_simp; try with_reducible rfl)) hHeld ?_
      simp only [List.setIfInBounds_toArray, List.set_cons_zero, List.set_cons_succ]
      refine wpAnyH_done (by kernel_rfl) ?_ _
      go_wp2
      go_ret
      exact ⟨by rw [HR.out]; rfl, below_next B0.out hHeld⟩
    · obtain ⟨j, hj⟩ : ∃ j, l.length = j + 1 := ⟨l.length - 1, by have := List.length_pos_iff.2 hnil; omega⟩
      obtain ⟨d, hd⟩ : ∃ d, l[j]? = some d := ⟨_, List.getElem?_eq_getElem (by omega)⟩
      obtain ⟨r0, q0⟩ := d
      have HR := Lib.hid (fol_last hm hj hd)
      obtain ⟨n, hn⟩ : ∃ n, n = l.length := ⟨_, rfl⟩
      obtain ⟨ad, cap, rfl, cd, -⟩ := dots_at hv n j hn.symm _ hd
      obtain ⟨c0, -⟩ := dot_cells (show _ = some (dotO r q) from E0.out)
      have CD := Lib.hid ((World.cell?_of_block (B0.out.block _ (World.block_lt_of_cell? _ _ cd))).trans cd)
      have C0 := Lib.hid c0
      have e1 : ((n : Int) == 0) = false := by rw [beq_eq_false_iff_ne]; omega
      have wj : IntKind.i64.wrap ((n : Int) - 1) = (j : Int) := by rw [IntKind.wrap_i64]; omega
      have qj : (j : Int) < (n : Int) := by omega
      clear hv hl hm hnil hj hd hn cd c0
      go_enter Tryd.func52, Tryd.ntmps52
      go_upto_region 1 with fail
      generalize w.alloc (.cells #[.int .i64 r, .int .i64 q] 24 (0, 0)) = W0 at *
      refine wp_region_held_drew (S := fun w' => Below W0.heap.size W0 w') (by kernel_rfl) (drawS (Below.refl _ _)) (fun hHeld => ?_)
      generalize W0.drew = wd at hHeld ⊢
      refine take_at (i := 0) 5 rfl rfl (by kernel_rfl) (by kernel_rfl) (by kernel_rfl) (fun _ _ _ h => h) (row_yields (by rfl) 24 (.tmp 3) rfl w.heap.size rfl 24 _ (0, 0) _ Tryd.underlying24 rfl (by kernel_rfl) (fun _ h => row_kept E0.out h)) hHeld ?_
      simp only [List.setIfInBounds_toArray, List.set_cons_zero, List.set_cons_succ]
      refine wpAnyH_ready (rs := [1]) (by kernel_rfl) (by simp) ?_
      refine AllReadyH.cons rfl (fun K hK => ?_) AllReadyH.nil
      go_simp
      go_at_call 23
      refine (MY.out _).mono ?_
      rintro e w6 ⟨rfl, hb⟩
      dsimp only
      refine hK.out _ _ (below_next hHeld hb) (fun hHeld => ?_)
      clear hK K hb
      refine take_at (i := 2) 7 rfl rfl (by kernel_rfl) (by kernel_rfl) (by kernel_rfl) (fun _ _ _ h => h) (sure_yes (by rfl) (fun w => by go_simp; try with_reducible rfl)) hHeld ?_
      simp only [List.setIfInBounds_toArray, List.set_cons_zero, List.set_cons_succ]
      refine take_at (i := 3) 8 rfl rfl (by kernel_rfl) (by kernel_rfl) (by kernel_rfl) (fun _ _ _ h => h) (sure_yes (by rfl) (fun w => by go_simp; try with_reducible rfl)) hHeld ?_
      simp only [List.setIfInBounds_toArray, List.set_cons_zero, List.set_cons_succ]
      refine take_at (i := 4) 9 rfl rfl (by kernel_rfl) (by kernel_rfl) (by kernel_rfl) (fun _ _ _ h => h) (sure_yes (by rfl) (fun w => by go_simp; try with_reducible rfl)) hHeld ?_
      simp only [List.setIfInBounds_toArray, List.set_cons_zero, List.set_cons_succ]
      refine take_at (i := 5) 10 rfl rfl (by kernel_rfl) (by kernel_rfl) (by kernel_rfl) (fun _ _ _ h => h) (sure_yes (by rfl) (fun w => by go_simp; try with_reducible rfl)) hHeld ?_
      simp only [List.setIfInBounds_toArray, List.set_cons_zero, List.set_cons_succ]
      refine take_at (i := 6) 11 rfl rfl (by kernel_rfl) (by kernel_rfl) (by kernel_rfl) (fun _ _ _ h => h) (sure_yes (by rfl) (fun w => by go_simp; try with_reducible rfl)) hHeld ?_
      simp only [List.setIfInBounds_toArray, List.set_cons_zero, List.set_cons_succ]
      refine take_at (i := 7) 12 rfl rfl (by kernel_rfl) (by kernel_rfl) (by kernel_rfl) (fun _ _ _ h => h) (sure_yes (by rfl) (fun w => by go_simp; try with_reducible rfl)) hHeld ?_
      simp only [List.setIfInBounds_toArray, List.set_cons_zero, List.set_cons_succ]
      refine take_at (i := 8) 13 rfl rfl (by kernel_rfl) (by kernel_rfl) (by kernel_rfl) (fun _ _ _ h => h) (sure_yes (by rfl) (fun w => by go_simp; try with_reducible rfl)) hHeld ?_
      simp only [List.setIfInBounds_toArray, List.set_cons_zero, List.set_cons_succ]
      refine take_at (i := 9) 14 rfl rfl (by kernel_rfl) (by kernel_rfl) (by kernel_rfl) (fun _ _ _ h => h) (sure_yes (by rfl) (fun w => by go_simp; try with_reducible rfl)) hHeld ?_
      simp only [List.setIfInBounds_toArray, List.set_cons_zero, List.set_cons_succ]
      refine take_at (i := 10) 15 rfl rfl (by kernel_rfl) (by kernel_rfl) (by kernel_rfl) (fun _ _ _ h => h) (sure_yes (by rfl) (fun w => by go_simp; try with_reducible rfl)) hHeld ?_
      simp only [List.setIfInBounds_toArray, List.set_cons_zero, List.set_cons_succ]
      refine take_at (i := 11) 16 rfl rfl (by kernel_rfl) (by kernel_rfl) (by kernel_rfl) (fun _ _ _ h => h) (sure_yes (by rfl) (fun w => by go_simp; try with_reducible rfl)) hHeld ?_
      simp only [List.setIfInBounds_toArray, List.set_cons_zero, List.set_cons_succ]
      refine take_at (i := 12) 17 rfl rfl (by kernel_rfl) (by kernel_rfl) (by kernel_rfl) (fun _ _ _ h => h) (sure_yes (by rfl) (fun w => by go_simp; try with_reducible rfl)) hHeld ?_
      simp only [List.setIfInBounds_toArray, List.set_cons_zero, List.set_cons_succ]
      refine take_at (i := 14) 19 rfl rfl (by kernel_rfl) (by kernel_rfl) (by kernel_rfl) (fun _ _ _ h => h) (sure_yes (by rfl) (fun w => by go_simp; try with_reducible rfl)) hHeld ?_
      simp only [List.setIfInBounds_toArray, List.set_cons_zero, List.set_cons_succ]
      refine take_at (i := 13) 18 rfl rfl (by kernel_rfl) (by kernel_rfl) (by kernel_rfl) (fun _ _ _ h => h) (addr_yields (by rfl) 3 (.tmp 17) rfl (ad.add (j * 2)) rfl .i64 r0 Tryd.underlying3 (fun w h => (World.cell?_of_block (h.block _ (World.block_lt_of_cell? _ _ CD.out))).trans CD.out)) hHeld ?_
      simp only [List.setIfInBounds_toArray, List.set_cons_zero, List.set_cons_succ]
      refine take_at (i := 15) 20 rfl rfl (by kernel_rfl) (by kernel_rfl) (by kernel_rfl) (fun _ _ _ h => h) (cell_yields (by rfl) 3 (.tmp 19) rfl w.heap.size 0 rfl .i64 r Tryd.underlying3 (fun w h => (World.cell?_of_block (h.block _ (World.block_lt_of_cell? _ _ C0.out))).trans C0.out)) hHeld ?_
      simp only [List.setIfInBounds_toArray, List.set_cons_zero, List.set_cons_succ]
      refine take_at (i := 16) 21 rfl rfl (by kernel_rfl) (by kernel_rfl) (by kernel_rfl) (fun _ _ _ h => h) (sure_yes (by rfl) (fun w => by go_simp; try with_reducible rfl)) hHeld ?_
      simp only [List.setIfInBounds_toArray, List.set_cons_zero, List.set_cons_succ]
      refine take_at (i := 17) 22 rfl rfl (by kernel_rfl) (by kernel_rfl) (by kernel_rfl) (fun _ _ _ h => h) (sure_yes (by rfl) (fun w => by go_simp; try with_reducible rfl)) hHeld ?_
      simp only [List.setIfInBounds_toArray, List.set_cons_zero, List.set_cons_succ]
      refine take_at (i := 18) 23 rfl rfl (by kernel_rfl) (by kernel_rfl) (by kernel_rfl) (fun _ _ _ h => h) (sure_yes (by rfl) (fun w => by go_simp; try with_reducible rfl)) hHeld ?_
      simp only [List.setIfInBounds_toArray, List.set_cons_zero, List.set_cons_succ]
      refine take_at (i := 19) 4 rfl rfl (by kernel_rfl) (by kernel_rfl) (by kernel_rfl) (fun _ _ _ h => h) (sure_yes (by rfl) (fun w => by go_simp; try with_reducible rfl)) hHeld ?_
      simp only [List.setIfInBounds_toArray, List.set_cons_zero, List.set_cons_succ]
      refine wpAnyH_done (by kernel_rfl) ?_ _
      go_wp2
      go_ret
      exact ⟨by rw [HR.out]; rfl, below_next B0.out hHeld⟩
set_option maxRecDepth 100000 in
set_option maxHeartbeats 16000000 in
theorem vecMay_any (l : List D2) (hl : l.length < 2000000) (v : Value) (w : World) (hv : HasDots w v l) : Calls Tryd.prog 41 #[v] w fun e w' => e = .returned (.bool (mayV l)) ∧ Below w.heap.size w w' := by
  have HV := Lib.hid hv
  obtain ⟨n, hn⟩ : ∃ n, n = l.length := ⟨_, rfl⟩
  obtain ⟨ao, cap, rfl⟩ := dots_shape hv n hn
  have HN := Lib.hid hn
  have hn4 : n < 2000000 := by omega
  clear hn hv hl
  go_enter Tryd.func41, Tryd.ntmps41
  go_wp2
  go_loopw [7] (fun c wr => ∃ k : Nat, k ≤ n ∧ c = .int .i64 (k : Int) ∧ mayV (l.take k) = true ∧ Below w.heap.size w wr) (fun c _ => n - (intOf c).toNat)
  case atStart => exact ⟨0, Nat.zero_le _, rfl, mayV_nil, Below.refl _ _⟩
  case round =>
    obtain ⟨k, hk, rfl, hok, hb⟩ := hrel
    by_cases hlt : k < n
    · have q0 : (k : Int) < (n : Int) := by omega
      have hkl : k < l.length := by rw [← HN.out]; exact hlt
      obtain ⟨d, hd⟩ : ∃ d, l[k]? = some d := ⟨_, List.getElem?_eq_getElem hkl⟩
      have HA := Lib.hid (mayV_take hd)
      obtain ⟨r, q⟩ := d
      have HVr := dots_below HV.out hb
      obtain ⟨ad, cap', e, c0, c1⟩ := dots_at HVr n k HN.out.symm _ hd
      cases e
      have C0 := Lib.hid (And.intro c0 c1)
      have KK := Lib.hid (show k + 1 ≤ n ∧ n - (k + 1) < n - k by omega)
      have D0 := Lib.hid (heap_last wr (.cells #[.int .i64 r, .int .i64 q] 24 (0, 0)))
      have B0 := Lib.hid (hb.alloc hb.size (.cells #[.int .i64 r, .int .i64 q] 24 (0, 0)))
      have HT := Lib.hid (dots_below (dots_part HVr k hk HN.out) ((Below.refl wr.heap.size wr).alloc (Nat.le_refl _) (.cells #[.int .i64 r, .int .i64 q] 24 (0, 0))))
      have MF := Lib.hid (fun w hv => mayFollow_any (l.take k) (by rw [List.length_take]; omega) r q (.slice (some ad) k cap) w hv)
      have q1 : (k : Int) ≤ (cap : Int) := by obtain ⟨ao, c', e, -, hc⟩ := HVr; injection e with e1 e2 e3; subst e3; have := (hc ad e1.symm).1; have := HN.out; omega
      have HO := Lib.hid hok
      obtain ⟨B, hB⟩ : ∃ B, fol (l.take k) (r, q) = B := ⟨_, rfl⟩
      rw [hB] at MF HA
      clear c0 c1 hb hd hkl HVr hok hB
      go_wp2_with (first
        | (refine load_dot10 (by rfl) 24 (.tmp 10) rfl (ad.add (k * 2)) rfl r q Tryd.underlying24 (by kernel_rfl) C0.out ?_))
      generalize wr.alloc (.cells #[.int .i64 r, .int .i64 q] 24 (0, 0)) = W1 at *
      refine wp_region_held_drew (S := fun w' => Below W1.heap.size W1 w') (by kernel_rfl) (drawS (Below.refl _ _)) (fun hHeld => ?_)
      generalize W1.drew = wd at hHeld ⊢
      refine take_at (i := 0) 12 rfl rfl (by kernel_rfl) (by kernel_rfl) (by kernel_rfl) (fun _ _ _ h => h) (sure_yes (by rfl) (fun w => by go_simp; try with_reducible rfl)) hHeld ?_
      simp only [List.setIfInBounds_toArray, List.set_cons_zero, List.set_cons_succ]
      refine take_at (i := 1) 13 rfl rfl (by kernel_rfl) (by kernel_rfl) (by kernel_rfl) (fun _ _ _ h => h) (sure_yes (by rfl) (fun w => by go_simp; try with_reducible rfl)) hHeld ?_
      simp only [List.setIfInBounds_toArray, List.set_cons_zero, List.set_cons_succ]
      refine take_at (i := 2) 14 rfl rfl (by kernel_rfl) (by kernel_rfl) (by kernel_rfl) (fun _ _ _ h => h) (sure_yes (by rfl) (fun w => by go_simp; try with_reducible rfl)) hHeld ?_
      simp only [List.setIfInBounds_toArray, List.set_cons_zero, List.set_cons_succ]
      refine take_at (i := 3) 15 rfl rfl (by kernel_rfl) (by kernel_rfl) (by kernel_rfl) (fun _ _ _ h => h) (row_yields (by rfl) 24 (.tmp 4) rfl wr.heap.size rfl 24 _ (0, 0) _ Tryd.underlying24 rfl (by kernel_rfl) (fun _ h => row_kept D0.out h)) hHeld ?_
      simp only [List.setIfInBounds_toArray, List.set_cons_zero, List.set_cons_succ]
      refine wpAnyH_ready (rs := [4]) (by kernel_rfl) (by simp) ?_
      refine AllReadyH.cons rfl (fun K hK => ?_) AllReadyH.nil
      go_simp
      go_at_call 52
      refine (MF.out _ (dots_below HT.out hHeld)).mono ?_
      rintro e w6 ⟨rfl, hb⟩
      dsimp only
      refine hK.out _ _ (below_next hHeld hb) (fun hHeld => ?_)
      clear hK K hb
      refine take_at (i := 5) 17 rfl rfl (by kernel_rfl) (by kernel_rfl) (by kernel_rfl) (fun _ _ _ h => h) (sure_yes (by rfl) (fun w => by go_simp; try with_reducible rfl)) hHeld ?_
      simp only [List.setIfInBounds_toArray, List.set_cons_zero, List.set_cons_succ]
      refine wpAnyH_done (by kernel_rfl) ?_ _
      cases B with
      | true =>
        go_wp2
        refine ⟨⟨k + 1, KK.out.1, by simp, by rw [HA.out, HO.out]; rfl, below_next B0.out hHeld⟩, ?_⟩
        simp [intOf]; exact KK.out.2
      | false =>
        have HF := Lib.hid (mayV_ahead (l := l) (k := k + 1) (by rw [HA.out, HO.out]; rfl))
        go_wp2
        go_ret
        exact ⟨by rw [HF.out]; rfl, below_next B0.out hHeld⟩
    · have q0 : ¬ (k : Int) < (n : Int) := by omega
      have HE := Lib.hid (show l.take k = l by rw [show k = l.length by rw [← HN.out]; omega, List.take_length])
      rw [HE.out] at hok
      have HO := Lib.hid hok
      have HB := Lib.hid hb
      clear hok hb
      go_wp2
      go_ret
      exact ⟨by rw [HO.out]; rfl, HB.out⟩
end Go.Proofs.YtcdjkjadbhejpaaDoor
