/-
Plain mathematics of figures to the base 16, of digests' texts and of numbers' texts; no program is named here.
-/
import Derived.Test.YtfechljjkblkhaaDoorText
namespace Go.Proofs.YtfechljjkblkhaaDoor
open Go.RowKit
/-- A figure of a number below 16. -/
def figN (n : Nat) : Nat := if n < 10 then 48 + n else 87 + n
def figure (n : Nat) : UInt8 := UInt8.ofNat (figN n)
theorem figure_toNat (n : Nat) (h : n < 16) : (figure n).toNat = figN n := by
  unfold figure
  rw [UInt8.toNat_ofNat', Nat.mod_eq_of_lt]
  unfold figN; split <;> omega
/-- The number of a figure. -/
def fig (c : UInt8) : Option Nat := if 48 ≤ c.toNat ∧ c.toNat ≤ 57 then some (c.toNat - 48) else if 97 ≤ c.toNat ∧ c.toNat ≤ 102 then some (c.toNat - 87) else none
theorem fig_figure (n : Nat) (h : n < 16) : fig (figure n) = some n := by
  unfold fig
  rw [figure_toNat n h]
  unfold figN
  by_cases h1 : n < 10
  · rw [if_pos h1, if_pos (by omega)]; congr 1; omega
  · rw [if_neg h1, if_neg (by omega), if_pos (by omega)]; congr 1; omega
theorem figN_inj {n m : Nat} (h : figN n = figN m) (hn : n < 16) (hm : m < 16) : n = m := by
  unfold figN at h; split at h <;> split at h <;> omega
theorem fig_some {c : UInt8} {n : Nat} (h : fig c = some n) : n < 16 ∧ c.toNat = figN n := by
  unfold fig at h
  split at h
  · cases h; unfold figN; constructor
    · omega
    · rw [if_pos (by omega)]; omega
  · split at h
    · cases h; unfold figN; constructor
      · omega
      · rw [if_neg (by omega)]; omega
    · cases h
theorem fig_eq {c : UInt8} {n : Nat} (h : fig c = some n) : c = figure n := by
  obtain ⟨h1, h2⟩ := fig_some h
  exact UInt8.toNat_inj.1 (by rw [figure_toNat n h1, h2])
theorem fig_of_eq {c : UInt8} {n : Nat} (hn : n < 16) (h : c.toNat = figN n) : fig c = some n := by
  have : c = figure n := UInt8.toNat_inj.1 (by rw [figure_toNat n hn, h])
  rw [this]; exact fig_figure n hn
/-- The text of the first k bytes of a digest. -/
def textTo (f : Nat → BitVec 32) (k : Nat) : List UInt8 := (List.range k).flatMap fun i => [figure ((f i).toNat / 16), figure ((f i).toNat % 16)]
theorem textTo_zero (f : Nat → BitVec 32) : textTo f 0 = [] := rfl
theorem textTo_succ (f : Nat → BitVec 32) (k : Nat) : textTo f (k + 1) = textTo f k ++ [figure ((f k).toNat / 16), figure ((f k).toNat % 16)] := by
  simp [textTo, List.range_succ]
theorem textTo_length (f : Nat → BitVec 32) (k : Nat) : (textTo f k).length = 2 * k := by
  induction k with
  | zero => rfl
  | succ k ih => rw [textTo_succ, List.length_append, ih]; simp; omega
def textF (f : Nat → BitVec 32) : List UInt8 := textTo f 32
theorem textF_length (f : Nat → BitVec 32) : (textF f).length = 64 := textTo_length f 32
theorem textTo_at (f : Nat → BitVec 32) (k j : Nat) (h : j < k) : (textTo f k)[2 * j]? = some (figure ((f j).toNat / 16)) ∧ (textTo f k)[2 * j + 1]? = some (figure ((f j).toNat % 16)) := by
  induction k with
  | zero => omega
  | succ k ih =>
    have hl := textTo_length f k
    rw [textTo_succ]
    by_cases e : j < k
    · rw [List.getElem?_append_left (by omega), List.getElem?_append_left (by omega)]; exact ih e
    · obtain rfl : j = k := by omega
      rw [List.getElem?_append_right (by omega), List.getElem?_append_right (by omega), hl]
      simp [show 2 * j + 1 - 2 * j = 1 from by omega]
theorem textF_at (f : Nat → BitVec 32) (j : Nat) (h : j < 32) : (textF f)[2 * j]? = some (figure ((f j).toNat / 16)) ∧ (textF f)[2 * j + 1]? = some (figure ((f j).toNat % 16)) := textTo_at f 32 j h
/-- Is it a digest's text? -/
def isText (s : List UInt8) : Bool := s.length == 64 && s.all fun c => (fig c).isSome
/-- The bytes of a digest's text. -/
def parseF (s : List UInt8) (j : Nat) : BitVec 32 := BitVec.ofNat 32 (16 * (fig (s.getD (2 * j) 0)).getD 0 + (fig (s.getD (2 * j + 1) 0)).getD 0)
theorem figD_lt (c : UInt8) : (fig c).getD 0 < 16 := by
  cases h : fig c with
  | none => decide
  | some n => exact (fig_some h).1
theorem parseF_toNat (s : List UInt8) (j : Nat) : (parseF s j).toNat = 16 * (fig (s.getD (2 * j) 0)).getD 0 + (fig (s.getD (2 * j + 1) 0)).getD 0 := by
  have h1 := figD_lt (s.getD (2 * j) 0)
  have h2 := figD_lt (s.getD (2 * j + 1) 0)
  unfold parseF
  rw [BitVec.toNat_ofNat, Nat.mod_eq_of_lt (by omega)]
theorem parseF_lt (s : List UInt8) (j : Nat) : u32 (parseF s j) < 256 := by
  have h1 := figD_lt (s.getD (2 * j) 0)
  have h2 := figD_lt (s.getD (2 * j + 1) 0)
  unfold u32; rw [parseF_toNat]; omega
/-- What Parse answers: a digest and an error's number. -/
def parsed (s : List UInt8) : Nat → BitVec 32 := if isText s then parseF s else fun _ => 0#32
def parseErr (s : List UInt8) : Int := if isText s then 0 else 2
theorem parsed_bad {s : List UInt8} (h : isText s = false) : parsed s = (fun _ => 0#32) ∧ parseErr s = 2 := by simp [parsed, parseErr, h]
theorem parsed_good {s : List UInt8} (h : isText s = true) : parsed s = parseF s ∧ parseErr s = 0 := by simp [parsed, parseErr, h]
theorem isText_textF (f : Nat → BitVec 32) (hf : ∀ i, u32 (f i) < 256) : isText (textF f) = true := by
  simp only [isText, textF_length, beq_self_eq_true, Bool.true_and, List.all_eq_true]
  intro c hc
  simp only [textF, textTo, List.mem_flatMap, List.mem_range] at hc
  obtain ⟨i, _, hc⟩ := hc
  have h := hf i
  unfold u32 at h
  simp only [List.mem_cons, List.not_mem_nil, or_false] at hc
  rcases hc with rfl | rfl
  · rw [fig_figure _ (by omega)]; rfl
  · rw [fig_figure _ (by omega)]; rfl
theorem parse_text (f : Nat → BitVec 32) (hf : ∀ i, u32 (f i) < 256) (j : Nat) (hj : j < 32) : parseF (textF f) j = f j := by
  obtain ⟨h1, h2⟩ := textF_at f j hj
  have h := hf j
  unfold u32 at h
  apply BitVec.eq_of_toNat_eq
  rw [parseF_toNat, List.getD_eq_getElem?_getD, List.getD_eq_getElem?_getD, h1, h2, Option.getD_some, Option.getD_some, fig_figure _ (by omega), fig_figure _ (by omega), Option.getD_some, Option.getD_some]
  omega
theorem text_parse (s : List UInt8) (hs : isText s = true) : textF (parseF s) = s := by
  simp only [isText, Bool.and_eq_true, beq_iff_eq, List.all_eq_true] at hs
  obtain ⟨hl, ha⟩ := hs
  have key : ∀ j (h : j < s.length), ∃ n, n < 16 ∧ fig s[j] = some n ∧ s[j] = figure n := fun j h => by
    have := ha s[j] (List.getElem_mem h)
    obtain ⟨n, hn⟩ := Option.isSome_iff_exists.1 this
    exact ⟨n, (fig_some hn).1, hn, fig_eq hn⟩
  apply List.ext_getElem?
  intro i
  by_cases hi : i < 64
  · obtain ⟨j, hj⟩ : ∃ j, j = i / 2 := ⟨_, rfl⟩
    obtain ⟨h1, h2⟩ := textF_at (parseF s) j (by omega)
    obtain ⟨a, ha1, ha2, ha3⟩ := key (2 * j) (by omega)
    obtain ⟨b, hb1, hb2, hb3⟩ := key (2 * j + 1) (by omega)
    have e1 : s.getD (2 * j) 0 = s[2 * j] := by simp [show 2 * j < s.length from by omega]
    have e2 : s.getD (2 * j + 1) 0 = s[2 * j + 1] := by simp [show 2 * j + 1 < s.length from by omega]
    have hp : (parseF s j).toNat = 16 * a + b := by rw [parseF_toNat, e1, e2, ha2, hb2, Option.getD_some, Option.getD_some]
    rcases Nat.mod_two_eq_zero_or_one i with h | h
    · obtain rfl : i = 2 * j := by omega
      rw [h1, hp, show (16 * a + b) / 16 = a from by omega, ← ha3]; simp [show 2 * j < s.length from by omega]
    · obtain rfl : i = 2 * j + 1 := by omega
      rw [h2, hp, show (16 * a + b) % 16 = b from by omega, ← hb3]; simp [show 2 * j + 1 < s.length from by omega]
  · rw [List.getElem?_eq_none (by rw [textF_length]; omega), List.getElem?_eq_none (by omega)]
/-- The figures of a number to the base 10. -/
def digs (m : Nat) : List UInt8 := if m < 10 then [UInt8.ofNat (48 + m)] else digs (m / 10) ++ [UInt8.ofNat (48 + m % 10)]
termination_by m
decreasing_by omega
theorem digs_lo (m : Nat) (h : m < 10) : digs m = [UInt8.ofNat (48 + m)] := by rw [digs, if_pos h]
theorem digs_hi (m : Nat) (h : 10 ≤ m) : digs m = digs (m / 10) ++ [UInt8.ofNat (48 + m % 10)] := by rw [digs, if_neg (by omega)]
def numL (n : Int) : List UInt8 := if n < 0 then 45 :: digs n.natAbs else digs n.natAbs
theorem digs_length (k : Nat) : ∀ m, m < 10 ^ k → 0 < k → (digs m).length ≤ k := by
  induction k with
  | zero => intro m _ h; omega
  | succ k ih =>
    intro m hm _
    by_cases h : m < 10
    · rw [digs_lo m h]; simp
    · rw [digs_hi m (by omega), List.length_append]
      have h1 : m / 10 < 10 ^ k := by rw [Nat.pow_succ] at hm; omega
      have h2 : 0 < k := by
        rcases Nat.eq_zero_or_pos k with rfl | h
        · simp at h1; omega
        · exact h
      have := ih (m / 10) h1 h2
      simp; omega
theorem digs_pos (m : Nat) : 0 < (digs m).length := by
  by_cases h : m < 10
  · rw [digs_lo m h]; simp
  · rw [digs_hi m (by omega)]; simp
/-- Is it a figure to the base 10? -/
def isDig (c : UInt8) : Bool := decide (48 ≤ c.toNat) && decide (c.toNat ≤ 57)
theorem dig_toNat (m : Nat) (h : m < 10) : (UInt8.ofNat (48 + m)).toNat = 48 + m := by rw [UInt8.toNat_ofNat', Nat.mod_eq_of_lt (by omega)]
theorem digs_dig (m : Nat) : ∀ c ∈ digs m, isDig c = true := by
  induction m using Nat.strongRecOn with
  | _ m ih =>
    intro c hc
    by_cases h : m < 10
    · rw [digs_lo m h, List.mem_singleton] at hc
      subst hc
      simp [isDig]; omega
    · rw [digs_hi m (by omega), List.mem_append, List.mem_singleton] at hc
      rcases hc with hc | rfl
      · exact ih _ (by omega) c hc
      · simp [isDig]; omega
/-- The number of figures to the base 10, one behind the other. -/
def valN (s : List UInt8) : Nat := s.foldl (fun n c => 10 * n + (c.toNat - 48)) 0
theorem valN_nil : valN [] = 0 := rfl
theorem valN_snoc (s : List UInt8) (c : UInt8) : valN (s ++ [c]) = 10 * valN s + (c.toNat - 48) := by simp [valN, List.foldl_append]
theorem valN_digs (m : Nat) : valN (digs m) = m := by
  induction m using Nat.strongRecOn with
  | _ m ih =>
    by_cases h : m < 10
    · rw [digs_lo m h, show ([UInt8.ofNat (48 + m)] : List UInt8) = [] ++ [UInt8.ofNat (48 + m)] from rfl, valN_snoc, dig_toNat m h, valN_nil]; omega
    · rw [digs_hi m (by omega), valN_snoc, ih _ (by omega), dig_toNat (m % 10) (by omega)]; omega
attribute [irreducible] valN
theorem valN_lt (s : List UInt8) (hs : ∀ c ∈ s, isDig c = true) : valN s < 10 ^ s.length := by
  obtain ⟨n, hn⟩ : ∃ n, n = s.length := ⟨_, rfl⟩
  induction n generalizing s with
  | zero => obtain rfl : s = [] := List.eq_nil_of_length_eq_zero hn.symm; rw [valN_nil]; decide
  | succ n ih =>
    rcases List.eq_nil_or_concat s with rfl | ⟨t, c, rfl⟩
    · simp at hn
    · rw [List.concat_eq_append] at hn hs ⊢
      rw [List.length_append, List.length_singleton] at hn
      rw [valN_snoc, List.length_append, List.length_singleton, Nat.pow_succ]
      have h1 := ih t (fun c hc => hs c (List.mem_append.2 (.inl hc))) (by omega)
      have h2 := hs c (by simp)
      simp [isDig] at h2
      omega
/-- Is it the text of a number from 0 to 2^63-1? -/
def isNum (s : List UInt8) : Bool := (!s.isEmpty && decide (s.length ≤ 19)) && (s.all isDig && (decide (valN s < 9223372036854775808) && digs (valN s) == s))
/-- What Read answers: a number and an error's number. -/
def readN (s : List UInt8) (most : Int) : Int := if isNum s then if most < valN s then 0 else valN s else 0
def readErr (s : List UInt8) (most : Int) : Int := if isNum s then if most < valN s then 8 else 0 else 2
theorem isNum_digs (m : Nat) (h : m < 9223372036854775808) : isNum (digs m) = true := by
  have h1 := digs_pos m
  have h2 := digs_length 19 m (by omega) (by omega)
  simp only [isNum, valN_digs, Bool.and_eq_true, Bool.not_eq_true', decide_eq_true_eq, List.all_eq_true, beq_self_eq_true, and_true]
  exact ⟨⟨by cases hd : digs m with | nil => rw [hd] at h1; simp at h1 | cons a l => rfl, h2⟩, digs_dig m, h⟩
theorem isNum_val {s : List UInt8} (h : isNum s = true) : valN s < 9223372036854775808 ∧ digs (valN s) = s := by
  simp only [isNum, Bool.and_eq_true, decide_eq_true_eq, beq_iff_eq] at h
  exact h.2.2
theorem isNum_neg (m : Nat) : isNum (45 :: digs m) = false := by
  have : isDig 45 = false := by decide
  simp [isNum, this]
end Go.Proofs.YtfechljjkblkhaaDoor
