/-
Plain mathematics of the compression of SHA-256: a block's schedule, a round, a round undone, the rounds in turn; no program is named here.
-/
import Derived.Test.YtfechljjkblkhaaDoorWords
namespace Go.Proofs.YtfechljjkblkhaaDoor
open Go.RowKit
@[go_sem] theorem u32_add (x y : BitVec 32) : (u32 x + u32 y) % 4294967296 = u32 (x + y) := by
  unfold u32; rw [BitVec.toNat_add]; omega
@[go_sem] theorem u32_sub (x y : BitVec 32) : (u32 x - u32 y) % 4294967296 = u32 (x - y) := by
  unfold u32; rw [BitVec.toNat_sub]; have := x.isLt; have := y.isLt; omega
@[go_sem] theorem u32_wrap (x : BitVec 32) : IntKind.u32.wrap (u32 x) = u32 x := by
  have h0 := u32_lo x
  have h1 := u32_hi x
  rw [IntKind.wrap_u32]; omega
@[go_sem] theorem u32_shl24 (x : BitVec 32) : u32 x * (16777216 : Int) % (4294967296 : Int) = u32 (x <<< 24) := u32_shl x 24
@[go_sem] theorem u32_shl16 (x : BitVec 32) : u32 x * (65536 : Int) % (4294967296 : Int) = u32 (x <<< 16) := u32_shl x 16
@[go_sem] theorem u32_shl8 (x : BitVec 32) : u32 x * (256 : Int) % (4294967296 : Int) = u32 (x <<< 8) := u32_shl x 8
@[go_sem] theorem u32_mul256 (x : BitVec 32) : (256 : Int) * u32 x % (4294967296 : Int) = u32 (x <<< 8) := by rw [Int.mul_comm]; exact u32_shl8 x
@[go_sem] theorem wrap_shl24 (x : BitVec 32) : IntKind.u32.wrap (u32 x * 16777216) = u32 (x <<< 24) := by rw [IntKind.wrap_u32, u32_shl24]
@[go_sem] theorem wrap_shl16 (x : BitVec 32) : IntKind.u32.wrap (u32 x * 65536) = u32 (x <<< 16) := by rw [IntKind.wrap_u32, u32_shl16]
@[go_sem] theorem wrap_shl8 (x : BitVec 32) : IntKind.u32.wrap (u32 x * 256) = u32 (x <<< 8) := by rw [IntKind.wrap_u32, u32_shl8]
@[go_sem] theorem wrap_mul256 (x : BitVec 32) : IntKind.u32.wrap (256 * u32 x) = u32 (x <<< 8) := by rw [IntKind.wrap_u32, u32_mul256]
@[go_sem] theorem wrap_add (x y : BitVec 32) : IntKind.u32.wrap (u32 x + u32 y) = u32 (x + y) := by rw [IntKind.wrap_u32, u32_add]
@[go_sem] theorem wrap_sub (x y : BitVec 32) : IntKind.u32.wrap (u32 x - u32 y) = u32 (x - y) := by rw [IntKind.wrap_u32, u32_sub]
/-- The word of four bytes, the highest first. -/
def word (a b c d : BitVec 32) : BitVec 32 := a <<< 24 ||| b <<< 16 ||| c <<< 8 ||| d
theorem or_add (x y : BitVec 32) (h : u32 y < 256) : x <<< 8 ||| y = x <<< 8 + y := by
  have hy : y.toNat < 256 := by unfold u32 at h; omega
  apply BitVec.eq_of_getLsbD_eq
  intro i hi
  have e : x <<< 8 &&& y = 0#32 := by
    apply BitVec.eq_of_getLsbD_eq
    intro j hj
    rw [BitVec.getLsbD_and, BitVec.getLsbD_shiftLeft]
    by_cases h8 : j < 8
    · simp [h8]
    · have : y.getLsbD j = false := by
        rw [BitVec.getLsbD, Nat.testBit_lt_two_pow]
        exact Nat.lt_of_lt_of_le hy (Nat.pow_le_pow_right (n := 2) (i := 8) (by decide) (by omega))
      simp [this]
  rw [BitVec.add_eq_or_of_and_eq_zero _ _ e]
theorem shl_shl8 (x : BitVec 32) (n : Nat) : x <<< n <<< 8 = x <<< (n + 8) := (BitVec.shiftLeft_add x n 8).symm
/-- The word of bytes, as they are put behind one another. -/
def grown (f : Nat → BitVec 32) (t : Nat) : Nat → BitVec 32
  | 0 => 0#32
  | i + 1 => grown f t i <<< 8 + f (4 * t + i)
theorem grown_word (f : Nat → BitVec 32) (hf : ∀ i, u32 (f i) < 256) (t : Nat) : grown f t 4 = word (f (4 * t)) (f (4 * t + 1)) (f (4 * t + 2)) (f (4 * t + 3)) := by
  unfold grown grown grown grown grown word
  rw [← or_add _ _ (hf _), ← or_add _ _ (hf _), ← or_add _ _ (hf _)]
  simp only [Nat.add_zero, BitVec.shiftLeft_or_distrib, shl_shl8, BitVec.zero_shiftLeft, BitVec.zero_add]
/-- The words of the rounds. -/
def sched (f : Nat → BitVec 32) (t : Nat) : BitVec 32 :=
  if t < 16 then word (f (4 * t)) (f (4 * t + 1)) (f (4 * t + 2)) (f (4 * t + 3))
  else small1 (sched f (t - 2)) + sched f (t - 7) + small0 (sched f (t - 15)) + sched f (t - 16)
termination_by t
decreasing_by all_goals omega
theorem sched_lo (f : Nat → BitVec 32) (t : Nat) (h : t < 16) : sched f t = word (f (4 * t)) (f (4 * t + 1)) (f (4 * t + 2)) (f (4 * t + 3)) := by
  rw [sched, if_pos h]
theorem sched_hi (f : Nat → BitVec 32) (t : Nat) (h : 16 ≤ t) : sched f t = small1 (sched f (t - 2)) + sched f (t - 7) + small0 (sched f (t - 15)) + sched f (t - 16) := by
  rw [sched, if_neg (by omega)]
theorem word_def (a b c d : BitVec 32) : word a b c d = a <<< 24 ||| b <<< 16 ||| c <<< 8 ||| d := rfl
attribute [irreducible] word
/-- The first k words of a schedule, and no others. -/
def upTo (s : Nat → BitVec 32) (k i : Nat) : BitVec 32 := if i < k then s i else 0#32
theorem upTo_at (s : Nat → BitVec 32) (k i : Nat) (h : i < k) : upTo s k i = s i := if_pos h
theorem upTo_set (kd : IntKind) (n : Nat) (s : Nat → BitVec 32) (k : Nat) : (row kd n (upTo s k)).setIfInBounds k (.int kd (u32 (s k))) = row kd n (upTo s (k + 1)) :=
  row_set_to _ _ _ _ _ _ fun j _ => by
    unfold upTo
    by_cases h : j = k
    · subst h; rw [if_pos rfl, if_pos (by omega)]
    · rw [if_neg h]
      by_cases h2 : j < k
      · rw [if_pos h2, if_pos (by omega)]
      · rw [if_neg h2, if_neg (by omega)]
theorem upTo_zero (kd : IntKind) (n : Nat) (s : Nat → BitVec 32) : row kd n (upTo s 0) = row kd n (fun _ => 0#32) := row_congr _ _ _ _ fun _ _ => if_neg (by omega)
theorem upTo_rest (s : Nat → BitVec 32) (k i : Nat) (h : k ≤ i) : upTo s k i = 0#32 := if_neg (by omega)
theorem cell_upTo {w : World} {g : Nat} {t : TypeId} {kd : IntKind} {n k : Nat} {s : Nat → BitVec 32} (ho : w.heap[g]? = some (.cells (row kd n (upTo s k)) t (0, 0))) (i : Nat) (h : i < k) (hn : i < n) : w.cell? ⟨g, i, none⟩ = some (.int kd (u32 (s i))) := by
  rw [← upTo_at s k i h]; exact (cell_of_row w g i _ _ _ ho).trans (row_get kd n _ i hn)
theorem upTo_full (kd : IntKind) (n : Nat) (s : Nat → BitVec 32) : row kd n (upTo s n) = row kd n s := row_congr _ _ _ _ fun _ hi => upTo_at _ _ _ hi
/-- The first k words of a schedule, and of the next one the first j bytes. -/
def growTo (f : Nat → BitVec 32) (k j i : Nat) : BitVec 32 := if i = k then grown f k j else upTo (sched f) k i
theorem growTo_zero (kd : IntKind) (n : Nat) (f : Nat → BitVec 32) (k : Nat) : row kd n (growTo f k 0) = row kd n (upTo (sched f) k) := row_congr _ _ _ _ fun i _ => by
  unfold growTo
  by_cases h : i = k
  · subst h; rw [if_pos rfl, upTo_rest _ _ _ (Nat.le_refl _)]; rfl
  · rw [if_neg h]
theorem growTo_full (kd : IntKind) (n : Nat) (f : Nat → BitVec 32) (hf : ∀ i, u32 (f i) < 256) (k : Nat) (hk : k < 16) : row kd n (growTo f k 4) = row kd n (upTo (sched f) (k + 1)) := row_congr _ _ _ _ fun i _ => by
  unfold growTo upTo
  by_cases h : i = k
  · subst h; rw [if_pos rfl, if_pos (by omega), grown_word f hf, sched_lo f _ hk]
  · rw [if_neg h]
    by_cases h2 : i < k
    · rw [if_pos h2, if_pos (by omega)]
    · rw [if_neg h2, if_neg (by omega)]
theorem growTo_set (kd : IntKind) (n : Nat) (f : Nat → BitVec 32) (k j : Nat) : (row kd n (growTo f k j)).setIfInBounds k (.int kd (u32 (grown f k (j + 1)))) = row kd n (growTo f k (j + 1)) :=
  row_set_to _ _ _ _ _ _ fun i _ => by
    unfold growTo
    by_cases h : i = k
    · rw [if_pos h, if_pos h]
    · rw [if_neg h, if_neg h, if_neg h]
theorem growTo_at (f : Nat → BitVec 32) (k j : Nat) : growTo f k j k = grown f k j := if_pos rfl
theorem grown_succ (f : Nat → BitVec 32) (t i : Nat) : grown f t i <<< 8 + f (4 * t + i) = grown f t (i + 1) := rfl
attribute [irreducible] grown
/-- A round. -/
def one (h : Nat → BitVec 32) (k w : BitVec 32) : BitVec 32 := h 7 + big1 (h 4) + ch (h 4) (h 5) (h 6) + k + w
def two (h : Nat → BitVec 32) : BitVec 32 := big0 (h 0) + maj (h 0) (h 1) (h 2)
def eight (a b c d e f g h : BitVec 32) : Nat → BitVec 32
  | 0 => a | 1 => b | 2 => c | 3 => d | 4 => e | 5 => f | 6 => g | _ => h
def roundF (h : Nat → BitVec 32) (k w : BitVec 32) : Nat → BitVec 32 :=
  eight (one h k w + two h) (h 0) (h 1) (h 2) (h 3 + one h k w) (h 4) (h 5) (h 6)
/-- A round undone. -/
def undoTwo (h : Nat → BitVec 32) : BitVec 32 := big0 (h 1) + maj (h 1) (h 2) (h 3)
def undoOne (h : Nat → BitVec 32) : BitVec 32 := h 0 - undoTwo h
def undoF (h : Nat → BitVec 32) (k w : BitVec 32) : Nat → BitVec 32 :=
  eight (h 1) (h 2) (h 3) (h 4 - undoOne h) (h 5) (h 6) (h 7) (undoOne h - big1 (h 5) - ch (h 5) (h 6) (h 7) - k - w)
theorem eight_lt {p : Nat → BitVec 32 → Prop} {g : Nat → BitVec 32} (h0 : p 0 (g 0)) (h1 : p 1 (g 1)) (h2 : p 2 (g 2)) (h3 : p 3 (g 3)) (h4 : p 4 (g 4)) (h5 : p 5 (g 5)) (h6 : p 6 (g 6)) (h7 : p 7 (g 7)) : ∀ i, i < 8 → p i (g i)
  | 0, _ => h0 | 1, _ => h1 | 2, _ => h2 | 3, _ => h3 | 4, _ => h4 | 5, _ => h5 | 6, _ => h6 | 7, _ => h7
  | n + 8, h => absurd h (by omega)
theorem undo_round (h : Nat → BitVec 32) (k w : BitVec 32) : sameRow 8 (undoF (roundF h k w) k w) h = true := by
  rw [sameRow_iff]
  refine eight_lt (p := fun i x => x = h i) rfl rfl rfl ?_ rfl rfl rfl ?_
  · show h 3 + one h k w - (one h k w + two h - two h) = h 3
    rw [BitVec.add_sub_cancel, BitVec.add_sub_cancel]
  · show (one h k w + two h - two h) - big1 (h 4) - ch (h 4) (h 5) (h 6) - k - w = h 7
    rw [BitVec.add_sub_cancel]
    unfold one
    generalize big1 (h 4) = a
    generalize ch (h 4) (h 5) (h 6) = b
    rw [BitVec.sub_sub, BitVec.sub_sub, BitVec.sub_sub]
    rw [show h 7 + a + b + k + w = h 7 + (a + (b + (k + w))) from by ac_rfl, BitVec.add_sub_cancel]
theorem round_undo (h : Nat → BitVec 32) (k w : BitVec 32) : sameRow 8 (roundF (undoF h k w) k w) h = true := by
  have e : one (undoF h k w) k w = undoOne h := by
    show (undoOne h - big1 (h 5) - ch (h 5) (h 6) (h 7) - k - w) + big1 (h 5) + ch (h 5) (h 6) (h 7) + k + w = undoOne h
    generalize big1 (h 5) = a
    generalize ch (h 5) (h 6) (h 7) = b
    generalize undoOne h = u
    rw [BitVec.sub_sub, BitVec.sub_sub, BitVec.sub_sub]
    rw [show (u - (a + (b + (k + w)))) + a + b + k + w = (u - (a + (b + (k + w)))) + (a + (b + (k + w))) from by ac_rfl, BitVec.sub_add_cancel]
  rw [sameRow_iff]
  refine eight_lt (p := fun i x => x = h i) ?_ rfl rfl rfl ?_ rfl rfl rfl
  · show one (undoF h k w) k w + undoTwo h = h 0
    rw [e]; unfold undoOne; rw [BitVec.sub_add_cancel]
  · show (h 4 - undoOne h) + one (undoF h k w) k w = h 4
    rw [e, BitVec.sub_add_cancel]
/-- The constant of a round, as a word. -/
def kB (i : Nat) : BitVec 32 := BitVec.ofInt 32 (kTab.getD i 0)
theorem kTab_words : kTab = (List.range 64).map fun i => u32 (kB i) := by decide +kernel
theorem kTab_at (i : Nat) (hi : i < 64) : kTab.getD i 0 = u32 (kB i) := by
  rw [kTab_words]; simp [hi]
/-- The words behind the rounds. -/
def rounds (h : Nat → BitVec 32) (w : Nat → BitVec 32) : Nat → Nat → BitVec 32
  | 0 => h
  | n + 1 => roundF (rounds h w n) (kB n) (w n)
theorem rounds_zero (h w : Nat → BitVec 32) : rounds h w 0 = h := rfl
theorem rounds_succ (h w : Nat → BitVec 32) (n : Nat) : rounds h w (n + 1) = roundF (rounds h w n) (kB n) (w n) := rfl
theorem roundF_congr (h g : Nat → BitVec 32) (k w : BitVec 32) (e : ∀ i, i < 8 → h i = g i) : roundF h k w = roundF g k w := by
  unfold roundF one two
  rw [e 0 (by omega), e 1 (by omega), e 2 (by omega), e 3 (by omega), e 4 (by omega), e 5 (by omega), e 6 (by omega), e 7 (by omega)]
theorem undoF_congr (h g : Nat → BitVec 32) (k w : BitVec 32) (e : ∀ i, i < 8 → h i = g i) : undoF h k w = undoF g k w := by
  unfold undoF undoOne undoTwo
  rw [e 0 (by omega), e 1 (by omega), e 2 (by omega), e 3 (by omega), e 4 (by omega), e 5 (by omega), e 6 (by omega), e 7 (by omega)]
theorem roundF_inj (h g : Nat → BitVec 32) (k w : BitVec 32) (e : ∀ i, i < 8 → roundF h k w i = roundF g k w i) : ∀ i, i < 8 → h i = g i := by
  intro i hi
  have h1 := (sameRow_iff _ _ _).1 (undo_round h k w) i hi
  have h2 := (sameRow_iff _ _ _).1 (undo_round g k w) i hi
  rw [← h1, ← h2, undoF_congr _ _ k w e]
/-- Unlike words are unlike behind the rounds. -/
theorem rounds_same (h g w : Nat → BitVec 32) (n : Nat) : sameRow 8 (rounds h w n) (rounds g w n) = sameRow 8 h g := by
  rw [Bool.eq_iff_iff, sameRow_iff, sameRow_iff]
  induction n with
  | zero => rfl
  | succ n ih =>
    refine Iff.trans ?_ ih
    rw [rounds_succ, rounds_succ]
    exact ⟨fun e => roundF_inj _ _ _ _ e, fun e i _ => by rw [roundF_congr _ _ _ _ e]⟩
attribute [irreducible] rounds
/-- The words behind a block. -/
def compressed (h f : Nat → BitVec 32) (i : Nat) : BitVec 32 := rounds h (sched f) 64 i + h i
theorem compressed_less (h f : Nat → BitVec 32) (i : Nat) : compressed h f i - h i = rounds h (sched f) 64 i := by
  unfold compressed; rw [BitVec.add_sub_cancel]
/-- The first k words of a, and then those of b. -/
def mixTo (a b : Nat → BitVec 32) (k i : Nat) : BitVec 32 := if i < k then a i else b i
theorem mix_zero (kd : IntKind) (n : Nat) (a b : Nat → BitVec 32) : row kd n (mixTo a b 0) = row kd n b := row_congr _ _ _ _ fun _ _ => if_neg (by omega)
theorem mix_full (kd : IntKind) (n : Nat) (a b : Nat → BitVec 32) : row kd n (mixTo a b n) = row kd n a := row_congr _ _ _ _ fun _ hi => if_pos hi
theorem mix_at (a b : Nat → BitVec 32) (k : Nat) : mixTo a b k k = b k := if_neg (by omega)
theorem mix_set (kd : IntKind) (n : Nat) (a b : Nat → BitVec 32) (k : Nat) : (row kd n (mixTo a b k)).setIfInBounds k (.int kd (u32 (a k))) = row kd n (mixTo a b (k + 1)) :=
  row_set_to _ _ _ _ _ _ fun j _ => by
    unfold mixTo
    by_cases h : j = k
    · subst h; rw [if_pos rfl, if_pos (by omega)]
    · rw [if_neg h]
      by_cases h2 : j < k
      · rw [if_pos h2, if_pos (by omega)]
      · rw [if_neg h2, if_neg (by omega)]
theorem compressed_def (h f : Nat → BitVec 32) (i : Nat) : rounds h (sched f) 64 i + h i = compressed h f i := rfl
attribute [irreducible] compressed
end Go.Proofs.YtfechljjkblkhaaDoor
