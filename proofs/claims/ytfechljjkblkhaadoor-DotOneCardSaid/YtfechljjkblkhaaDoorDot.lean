/-
Plain mathematics of dots: their order, which may be, the next one, their texts; no program is named here.
-/
import Derived.Test.YtfechljjkblkhaaDoorPath
namespace Go.Proofs.YtfechljjkblkhaaDoor
open Go.RowKit
def cmpD (r q r' q' : Int) : Int := if r = r' ∧ q = q' then 0 else if r < r' ∨ (r = r' ∧ q < q') then -1 else 1
def mayD (r q : Int) : Bool := decide (0 ≤ r ∧ r ≤ 31 ∧ 1 ≤ q ∧ q ≤ 1099511627776)
def nextErr (r q : Int) : Int := if r < 0 ∨ 31 < r ∨ q < 0 ∨ 1099511627776 < q then 1 else if q = 1099511627776 then 8 else 0
def nextR (r q : Int) : Int := if nextErr r q = 0 then r else 0
def nextQ (r q : Int) : Int := if nextErr r q = 0 then q + 1 else 0
def textD (r q : Int) : List UInt8 := numL r ++ 58 :: numL q
theorem cmp_cases (r q r' q' : Int) : cmpD r q r' q' = 0 ∧ r = r' ∧ q = q' ∨ cmpD r q r' q' = -1 ∧ (r < r' ∨ r = r' ∧ q < q') ∨ cmpD r q r' q' = 1 ∧ (r' < r ∨ r = r' ∧ q' < q) := by
  unfold cmpD
  split
  · rename_i h; exact .inl ⟨rfl, h.1, h.2⟩
  · split
    · rename_i h; exact .inr (.inl ⟨rfl, h⟩)
    · rename_i h1 h2; exact .inr (.inr ⟨rfl, by omega⟩)
theorem next_cases (r q : Int) : nextErr r q = 0 ∧ (0 ≤ r ∧ r ≤ 31 ∧ 0 ≤ q ∧ q < 1099511627776) ∨ (nextErr r q = 1 ∨ nextErr r q = 8) ∧ (q < 0 ∨ 1099511627776 ≤ q ∨ r < 0 ∨ 31 < r) := by
  unfold nextErr
  split
  · rename_i h; exact .inr ⟨.inl rfl, by omega⟩
  · split
    · exact .inr ⟨.inr rfl, by omega⟩
    · exact .inl ⟨rfl, by omega⟩
theorem colon_num (n : Int) : (58 : UInt8) ∉ numL n := fun h => by
  have hd : ∀ m, (58 : UInt8) ∉ digs m := fun m hm => by have := digs_dig m _ hm; revert this; decide
  unfold numL at h
  split at h
  · rcases List.mem_cons.1 h with h | h
    · revert h; decide
    · exact hd _ h
  · exact hd _ h
theorem textD_inj {r q r' q' : Int} (h : textD r q = textD r' q') : r = r' ∧ q = q' := by
  obtain ⟨e1, e2⟩ := first_split (colon_num r) (colon_num r') h
  exact ⟨numL_inj e1, numL_inj e2⟩
theorem textD_ne (r q : Int) : textD r q ≠ [] := by simp [textD]
/-- What stands ahead of the first colon, and behind it. -/
def aheadD (s : List UInt8) : List UInt8 := s.takeWhile (· != 58)
def behindD (s : List UInt8) : List UInt8 := s.drop ((aheadD s).length + 1)
theorem ahead_not (s : List UInt8) : (58 : UInt8) ∉ aheadD s := fun h => by
  have := List.all_eq_true.1 (List.all_takeWhile (l := s) (p := (· != 58))) 58 h
  simp at this
theorem split58 {s : List UInt8} (h : (58 : UInt8) ∈ s) : s = aheadD s ++ 58 :: behindD s := by
  unfold behindD aheadD
  induction s with
  | nil => cases h
  | cons c t ih =>
    by_cases hc : c = 58
    · subst hc; simp
    · have h' : (58 : UInt8) ∈ t := by
        rcases List.mem_cons.1 h with h | h
        · exact absurd h.symm hc
        · exact h
      have := ih h'
      rw [List.takeWhile_cons_of_pos (by simpa using hc)]
      simp only [List.cons_append, List.length_cons, List.drop_succ_cons, List.cons.injEq, true_and]
      exact this
theorem ahead_of (a b : List UInt8) (h : (58 : UInt8) ∉ a) : aheadD (a ++ 58 :: b) = a ∧ behindD (a ++ 58 :: b) = b := by
  have e : aheadD (a ++ 58 :: b) = a := by
    unfold aheadD
    rw [List.takeWhile_append_of_pos (fun c hc => by simp; intro e; subst e; exact h hc)]
    simp
  refine ⟨e, ?_⟩
  unfold behindD
  rw [e, List.drop_append, List.drop_of_length_le (by omega)]
  simp
/-- May a text be a dot's? -/
def isDot (s : List UInt8) : Bool := s.contains 58 && (readErr (aheadD s) 31 == 0 && (readErr (behindD s) 1099511627776 == 0 && mayD (readN (aheadD s) 31) (readN (behindD s) 1099511627776)))
def parErr (s : List UInt8) : Int := if isDot s then 0 else 2
def parR (s : List UInt8) : Int := if isDot s then readN (aheadD s) 31 else 0
def parQ (s : List UInt8) : Int := if isDot s then readN (behindD s) 1099511627776 else 0
theorem parErr_cases (s : List UInt8) : parErr s = 0 ∧ isDot s = true ∨ parErr s = 2 ∧ isDot s = false ∧ parR s = 0 ∧ parQ s = 0 := by
  unfold parErr parR parQ
  cases h : isDot s <;> simp
theorem read_num {n m : Int} (h0 : 0 ≤ n) (h1 : n ≤ m) (h2 : n < 9223372036854775808) : readN (numL n) m = n ∧ readErr (numL n) m = 0 := by
  obtain ⟨k, rfl⟩ : ∃ k : Nat, n = (k : Int) := ⟨n.toNat, by omega⟩
  have e : numL (k : Int) = digs k := by rw [numL, if_neg (by omega)]; rfl
  rw [e, readN, readErr, if_pos (isNum_digs k (by omega)), if_pos (isNum_digs k (by omega)), valN_digs, if_neg (by omega), if_neg (by omega)]
  exact ⟨rfl, rfl⟩
theorem num_read {s : List UInt8} {m : Int} (h : readErr s m = 0) : numL (readN s m) = s ∧ readN s m ≤ m ∧ 0 ≤ readN s m := by
  unfold readErr at h
  by_cases hn : isNum s = true
  · rw [if_pos hn] at h
    by_cases hm : m < valN s
    · rw [if_pos hm] at h; cases h
    · rw [readN, if_pos hn, if_neg hm]
      have e : numL ((valN s : Nat) : Int) = digs (valN s) := by rw [numL, if_neg (by omega)]; rfl
      exact ⟨by rw [e, (isNum_val hn).2], by omega, by omega⟩
  · rw [if_neg hn] at h; cases h
theorem parse_text9 {r q : Int} (h : mayD r q = true) : parErr (textD r q) = 0 ∧ parR (textD r q) = r ∧ parQ (textD r q) = q := by
  have hm := of_decide_eq_true h
  obtain ⟨a1, a2⟩ := ahead_of (numL r) (numL q) (colon_num r)
  obtain ⟨r1, r2⟩ := read_num (n := r) (m := 31) hm.1 hm.2.1 (by omega)
  obtain ⟨q1, q2⟩ := read_num (n := q) (m := 1099511627776) (by omega) hm.2.2.2 (by omega)
  have hd : isDot (textD r q) = true := by
    rw [isDot, textD, a1, a2, r1, r2, q1, q2, h]
    simp
  rw [parErr, parR, parQ, hd]
  refine ⟨rfl, ?_, ?_⟩
  · rw [if_pos rfl, textD, a1, r1]
  · rw [if_pos rfl, textD, a2, q1]
theorem text_parse9 {s : List UInt8} (h : isDot s = true) : mayD (parR s) (parQ s) = true ∧ textD (parR s) (parQ s) = s := by
  have h' := h
  simp only [isDot, Bool.and_eq_true, beq_iff_eq, List.contains_iff_mem] at h'
  obtain ⟨h1, h2, h3, h4⟩ := h'
  rw [parR, parQ, h, if_pos rfl, if_pos rfl]
  refine ⟨h4, ?_⟩
  rw [textD, (num_read h2).1, (num_read h3).1]
  exact (split58 h1).symm
theorem parse_not {r q : Int} (h : mayD r q = false) : parErr (textD r q) = 2 := by
  rcases parErr_cases (textD r q) with ⟨h0, h1⟩ | ⟨h2, _⟩
  · obtain ⟨m, t⟩ := text_parse9 h1
    obtain ⟨e1, e2⟩ := textD_inj t
    rw [e1, e2, h] at m; cases m
  · exact h2
end Go.Proofs.YtfechljjkblkhaaDoor
