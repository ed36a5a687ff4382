/-
Plain mathematics of the order of digests' texts, and of texts with a byte turned; no program is named here.
-/
import Derived.Test.YtikhmhgjaipnaaaDoorHexa
namespace Go.Proofs.YtikhmhgjaipnaaaDoor
open Go.RowKit
theorem figN_lt {n m : Nat} (hn : n < 16) (hm : m < 16) : figN n < figN m ↔ n < m := by unfold figN; split <;> split <;> omega
theorem figure_lt {n m : Nat} (hn : n < 16) (hm : m < 16) : (decide (figure n < figure m)) = decide (n < m) := by
  rw [decide_eq_decide, UInt8.lt_iff_toNat_lt, figure_toNat n hn, figure_toNat m hm, figN_lt hn hm]
theorem figure_beq {n m : Nat} (hn : n < 16) (hm : m < 16) : (figure n == figure m) = decide (n = m) := by
  rw [Bool.eq_iff_iff, beq_iff_eq, decide_eq_true_eq]
  refine ⟨fun h => ?_, fun h => by rw [h]⟩
  have := congrArg UInt8.toNat h
  rw [figure_toNat n hn, figure_toNat m hm] at this
  exact figN_inj this hn hm
/-- The text of some bytes. -/
def textL (l : List UInt8) : List UInt8 := l.flatMap fun b => [figure (b.toNat / 16), figure (b.toNat % 16)]
/-- The bytes of a digest. -/
def bytesF (f : Nat → BitVec 32) : List UInt8 := (List.range 32).map fun i => UInt8.ofNat (f i).toNat
theorem bytesF_length (f : Nat → BitVec 32) : (bytesF f).length = 32 := by simp [bytesF]
theorem textL_bytesF (f : Nat → BitVec 32) (hf : ∀ i, u32 (f i) < 256) : textL (bytesF f) = textF f := by
  unfold textL bytesF textF textTo
  rw [List.flatMap_map]
  congr 1
  funext i
  have h := hf i
  unfold u32 at h
  rw [UInt8.toNat_ofNat', Nat.mod_eq_of_lt (by omega)]
theorem less_text : ∀ (x y : List UInt8), x.length = y.length → Op.bytesLess (textL x) (textL y) = Op.bytesLess x y
  | [], [], _ => rfl
  | a :: x, b :: y, h => by
    have ha := UInt8.toNat_lt a
    have hb := UInt8.toNat_lt b
    have ih := less_text x y (by simpa using h)
    have e : ∀ (c : UInt8) l, textL (c :: l) = figure (c.toNat / 16) :: figure (c.toNat % 16) :: textL l := fun c l => by simp [textL]
    rw [e, e]
    simp only [Op.bytesLess, ih]
    rw [figure_lt (by omega) (by omega), figure_lt (by omega) (by omega), figure_beq (by omega) (by omega), figure_beq (by omega) (by omega)]
    have hlt : decide (a < b) = decide (a.toNat < b.toNat) := by rw [decide_eq_decide, UInt8.lt_iff_toNat_lt]
    have heq : (a == b) = decide (a.toNat = b.toNat) := by rw [Bool.eq_iff_iff, beq_iff_eq, decide_eq_true_eq]; exact ⟨fun h => by rw [h], fun h => UInt8.toNat_inj.1 h⟩
    rw [hlt, heq]
    rcases Nat.lt_trichotomy (a.toNat / 16) (b.toNat / 16) with h1 | h1 | h1
    · simp [h1, show a.toNat < b.toNat from by omega]
    · rcases Nat.lt_trichotomy (a.toNat % 16) (b.toNat % 16) with h2 | h2 | h2
      · simp [h1, h2, show a.toNat < b.toNat from by omega]
      · simp [show a.toNat = b.toNat from by omega]
      · simp [h1, show ¬ a.toNat < b.toNat from by omega, show ¬ a.toNat = b.toNat from by omega, show ¬ a.toNat % 16 < b.toNat % 16 from by omega, show ¬ a.toNat % 16 = b.toNat % 16 from by omega]
    · simp [show ¬ a.toNat < b.toNat from by omega, show ¬ a.toNat = b.toNat from by omega, show ¬ a.toNat / 16 < b.toNat / 16 from by omega, show ¬ a.toNat / 16 = b.toNat / 16 from by omega]
theorem order_text (f g : Nat → BitVec 32) (hf : ∀ i, u32 (f i) < 256) (hg : ∀ i, u32 (g i) < 256) : Op.bytesLess (textF f) (textF g) = Op.bytesLess (bytesF f) (bytesF g) := by
  rw [← textL_bytesF f hf, ← textL_bytesF g hg]
  exact less_text _ _ (by rw [bytesF_length, bytesF_length])
theorem textTo_congr (f g : Nat → BitVec 32) (k : Nat) (h : ∀ i, i < k → f i = g i) : textTo f k = textTo g k := by
  induction k with
  | zero => rfl
  | succ k ih => rw [textTo_succ, textTo_succ, ih fun i hi => h i (by omega), h k (by omega)]
theorem same_text (f g : Nat → BitVec 32) (hf : ∀ i, u32 (f i) < 256) (hg : ∀ i, u32 (g i) < 256) : (textF f == textF g) = sameRow 32 f g := by
  rw [Bool.eq_iff_iff, beq_iff_eq, sameRow_iff]
  refine ⟨fun h i hi => by rw [← parse_text f hf i hi, h, parse_text g hg i hi], fun h => ?_⟩
  exact textTo_congr f g 32 h
/-- A digest in memory as a slice of its bytes. -/
theorem hasText_row {w : World} {g : Nat} {t : TypeId} {f : Nat → BitVec 32} (hf : ∀ i, u32 (f i) < 256) (e : w.heap[g]? = some (.cells (row .u8 32 f) t (0, 0))) : HasText w (.slice (some ⟨g, 0, none⟩) 32 32) (bytesF f) := by
  refine ⟨some ⟨g, 0, none⟩, 32, by rw [List.length_map, bytesF_length], (fun h => by cases h), fun ad had => ⟨by rw [List.length_map, bytesF_length]; exact Nat.le_refl _, fun j u hu => ?_⟩⟩
  cases had
  have hj : j < 32 := by have := (List.getElem?_eq_some_iff.1 hu).1; rwa [bytesL_length, List.length_map, bytesF_length] at this
  have h := hf j
  unfold u32 at h
  rw [Addr.add_lit, Nat.zero_add, cell_of_row _ _ _ _ _ _ e, row_get _ _ _ _ hj, ← hu, bytesL_map]
  simp [bytesF, hj, u32]
  omega
/-- A text with a byte in the place of another one. -/
def turned (s : List UInt8) (k : Nat) (c : UInt8) : List UInt8 := s.take k ++ [c] ++ s.drop (k + 1)
theorem turned_length (s : List UInt8) (k : Nat) (c : UInt8) (h : k < s.length) : (turned s k c).length = s.length := by simp [turned]; omega
theorem turned_set (s : List UInt8) (k : Nat) (c : UInt8) (h : k < s.length) : turned s k c = s.set k c := by
  unfold turned; rw [List.set_eq_take_append_cons_drop, if_pos h]; simp
theorem turned_isText (s : List UInt8) (k : Nat) (c : UInt8) (h : k < 64) (hs : isText s = true) : isText (turned s k c) = (fig c).isSome := by
  simp only [isText, Bool.and_eq_true, beq_iff_eq, List.all_eq_true] at hs
  have hl := turned_length s k c (by omega)
  rw [Bool.eq_iff_iff]
  simp only [isText, Bool.and_eq_true, beq_iff_eq, List.all_eq_true, hl, hs.1, true_and]
  refine ⟨fun h => h c (by simp [turned]), fun hc x hx => ?_⟩
  simp only [turned, List.mem_append, List.mem_singleton] at hx
  rcases hx with (hx | rfl) | hx
  · exact hs.2 x (List.mem_of_mem_take hx)
  · exact hc
  · exact hs.2 x (List.mem_of_mem_drop hx)
theorem turned_same (f : Nat → BitVec 32) (hf : ∀ i, u32 (f i) < 256) (k : Nat) (c : UInt8) (h : k < 64) (hc : (fig c).isSome = true) (x : UInt8) (hx : (textF f)[k]? = some x) :
    sameRow 32 (parseF (turned (textF f) k c)) f = (x == c) := by
  have hl := textF_length f
  have hs := isText_textF f hf
  have ht := turned_isText (textF f) k c h hs
  rw [hc] at ht
  rw [← same_text _ _ (parseF_lt _) hf, text_parse _ ht, Bool.eq_iff_iff, beq_iff_eq, beq_iff_eq, turned_set _ _ _ (by omega)]
  obtain ⟨_, rfl⟩ := List.getElem?_eq_some_iff.1 hx
  refine ⟨fun e => ?_, fun e => by rw [← e]; exact List.set_getElem_self _⟩
  have := congrArg (fun l => l[k]?) e
  simp only [List.getElem?_set_self (show k < (textF f).length by omega), List.getElem?_eq_getElem (show k < (textF f).length by omega)] at this
  exact (Option.some.inj this).symm
theorem fine_fig (c : UInt8) : (fig c).isSome = ((decide (48 ≤ c.toNat) && decide (c.toNat ≤ 57)) || (decide (97 ≤ c.toNat) && decide (c.toNat ≤ 102))) := by
  unfold fig
  by_cases h1 : 48 ≤ c.toNat ∧ c.toNat ≤ 57
  · rw [if_pos h1]; simp [h1.1, h1.2]
  · rw [if_neg h1]
    by_cases h2 : 97 ≤ c.toNat ∧ c.toNat ≤ 102
    · rw [if_pos h2]; simp [h2.1, h2.2]
    · rw [if_neg h2]
      cases h3 : ((decide (48 ≤ c.toNat) && decide (c.toNat ≤ 57)) || (decide (97 ≤ c.toNat) && decide (c.toNat ≤ 102))) with
      | false => rfl
      | true => simp only [Bool.or_eq_true, Bool.and_eq_true, decide_eq_true_eq] at h3; exact absurd h3 (by rintro (h | h); exact h1 h; exact h2 h)
end Go.Proofs.YtikhmhgjaipnaaaDoor
