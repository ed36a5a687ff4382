/-
Plain mathematics of file paths: parts with / between, the two fields, what lies below what, copies; no program is named here.
-/
import Derived.Test.YtfechljjkblkhaaDoorHexa
namespace Go.Proofs.YtfechljjkblkhaaDoor
open Go.RowKit
/-- May a byte stand in a part? -/
def isLet (c : UInt8) : Bool := (decide (97 ≤ c.toNat) && decide (c.toNat ≤ 122)) || (decide (65 ≤ c.toNat) && decide (c.toNat ≤ 90)) || (decide (48 ≤ c.toNat) && decide (c.toNat ≤ 57)) || c == 45 || c == 46 || c == 95 || c == 43 || c == 126
/-- Is it a part? -/
def isPart (s : List UInt8) : Bool := s.all isLet && (decide (1 ≤ s.length) && (decide (s.length ≤ 100) && (s != [46] && s != [46, 46])))
/-- What stands between the bytes /. -/
def pieces : List UInt8 → List (List UInt8)
  | [] => [[]]
  | c :: t => if c = 47 then [] :: pieces t else match pieces t with
    | p :: ps => (c :: p) :: ps
    | [] => [[c]]
theorem pieces_ne (s : List UInt8) : pieces s ≠ [] := by
  cases s with
  | nil => simp [pieces]
  | cons c t =>
    rw [pieces]
    by_cases h : c = 47
    · rw [if_pos h]; simp
    · rw [if_neg h]; cases pieces t <;> simp
theorem pieces_end (a : List UInt8) (h : ∀ c ∈ a, c ≠ 47) : pieces a = [a] := by
  induction a with
  | nil => rfl
  | cons c t ih => rw [pieces, if_neg (h c (by simp)), ih fun c hc => h c (by simp [hc])]
theorem pieces_slash (a b : List UInt8) (h : ∀ c ∈ a, c ≠ 47) : pieces (a ++ 47 :: b) = a :: pieces b := by
  induction a with
  | nil => rw [List.nil_append, pieces, if_pos rfl]
  | cons c t ih => rw [List.cons_append, pieces, if_neg (h c (by simp)), ih fun c hc => h c (by simp [hc])]
/-- Of two texts with a byte / between, the pieces are those of the one, then those of the other. -/
theorem pieces_append (a b : List UInt8) : pieces (a ++ 47 :: b) = pieces a ++ pieces b := by
  induction a with
  | nil => simp [pieces]
  | cons c t ih =>
    rw [List.cons_append, pieces, pieces]
    by_cases h : c = 47
    · rw [if_pos h, if_pos h, ih]; rfl
    · rw [if_neg h, if_neg h, ih]
      cases hp : pieces t with
      | nil => exact absurd hp (pieces_ne t)
      | cons p ps => rfl
/-- Is it parts, with / between? -/
def isParts (s : List UInt8) : Bool := (pieces s).all isPart
theorem isParts_append (a b : List UInt8) : isParts (a ++ 47 :: b) = (isParts a && isParts b) := by rw [isParts, pieces_append, List.all_append]; rfl
theorem part_nil : isPart [] = false := by decide
theorem isParts_nil : isParts [] = false := by decide
theorem isPart_len {s : List UInt8} (h : isPart s = true) : 1 ≤ s.length ∧ s.length ≤ 100 := by
  simp only [isPart, Bool.and_eq_true, decide_eq_true_eq] at h
  exact ⟨h.2.1, h.2.2.1⟩
theorem isPart_let {s : List UInt8} (h : isPart s = true) : ∀ c ∈ s, isLet c = true := by
  simp only [isPart, Bool.and_eq_true, List.all_eq_true] at h
  exact h.1
theorem let_slash : isLet 47 = false := by decide
/-- The place of the first byte / behind which 100 bytes at most stand, from the k-th on. -/
def cutFrom (s : List UInt8) (k : Nat) : Option Nat := ((List.range s.length).drop k).find? fun i => s.getD i 0 == 47 && decide (s.length - i - 1 ≤ 100)
def cutI (s : List UInt8) : Option Nat := (List.range s.length).find? fun i => s.getD i 0 == 47 && decide (s.length - i - 1 ≤ 100)
theorem cut_some {s : List UInt8} {i : Nat} (h : cutI s = some i) : i < s.length ∧ s.getD i 0 = 47 ∧ s.length - i - 1 ≤ 100 ∧ ∀ j, j < i → s.getD j 0 = 47 → 100 < s.length - j - 1 := by
  unfold cutI at h
  have h1 := List.find?_some h
  have h2 := List.mem_of_find?_eq_some h
  simp only [Bool.and_eq_true, beq_iff_eq, decide_eq_true_eq] at h1
  refine ⟨by simpa using h2, h1.1, h1.2, fun j hj hs => ?_⟩
  obtain ⟨-, as, bs, hab, hn⟩ := List.find?_eq_some_iff_append.1 h
  have hlen : as.length = i := by
    have e1 := congrArg (·[as.length]?) hab
    simp only [List.getElem?_append_right (Nat.le_refl _), Nat.sub_self, List.getElem?_cons_zero] at e1
    rw [List.getElem?_range (by
      rcases Nat.lt_or_ge as.length s.length with h | h
      · exact h
      · have := congrArg List.length hab; simp at this; omega)] at e1
    exact Option.some.inj e1
  have hm : j ∈ as := by
    have e1 := congrArg (·[j]?) hab
    simp only [List.getElem?_append_left (show j < as.length by omega)] at e1
    rw [List.getElem?_range (by have := (show i < s.length by simpa using h2); omega)] at e1
    exact List.mem_of_getElem? e1.symm
  have := hn j hm
  simp only [Bool.not_eq_true', Bool.and_eq_false_iff, beq_eq_false_iff_ne, decide_eq_false_iff_not] at this
  rcases this with h | h
  · exact absurd hs h
  · omega
theorem cut_none {s : List UInt8} (h : cutI s = none) (j : Nat) (hj : j < s.length) (hs : s.getD j 0 = 47) : 100 < s.length - j - 1 := by
  unfold cutI at h
  have := List.find?_eq_none.1 h j (by simpa using hj)
  simp only [Bool.not_eq_true, Bool.and_eq_false_iff, beq_eq_false_iff_ne, decide_eq_false_iff_not] at this
  rcases this with h | h
  · exact absurd hs h
  · omega
theorem cut_of {s : List UInt8} {i : Nat} (hi : i < s.length) (hs : s.getD i 0 = 47) (h1 : s.length - i - 1 ≤ 100) (h2 : ∀ j, j < i → s.getD j 0 = 47 → 100 < s.length - j - 1) : cutI s = some i := by
  cases h : cutI s with
  | none => have := cut_none h i hi hs; omega
  | some k =>
    obtain ⟨k1, k2, k3, k4⟩ := cut_some h
    rcases Nat.lt_trichotomy i k with hlt | rfl | hlt
    · have := k4 i hlt hs; omega
    · rfl
    · have := h2 k hlt k2; omega
theorem cut_no {s : List UInt8} (h2 : ∀ j, j < s.length → s.getD j 0 = 47 → 100 < s.length - j - 1) : cutI s = none := by
  cases h : cutI s with
  | none => rfl
  | some k =>
    obtain ⟨k1, k2, k3, k4⟩ := cut_some h
    have := h2 k k1 k2; omega
/-- A path's two fields. -/
def splitR (s : List UInt8) : Option (List UInt8 × List UInt8) :=
  if isParts s = false ∨ 254 < s.length then none
  else if s.length ≤ 100 then some ([], s)
  else match cutI s with
    | some i => if 155 < i then none else some (s.take i, s.drop (i + 1))
    | none => none
def splitA (s : List UInt8) : List UInt8 := match splitR s with | some x => x.1 | none => []
def splitB (s : List UInt8) : List UInt8 := match splitR s with | some x => x.2 | none => []
def splitErr (s : List UInt8) : Int := match splitR s with | some _ => 0 | none => 9
def mayP (s : List UInt8) : Bool := (splitR s).isSome
theorem splitErr_zero (s : List UInt8) : (splitErr s == 0) = mayP s := by unfold splitErr mayP; cases splitR s <;> rfl
theorem take_slash {s : List UInt8} {i : Nat} (hi : i < s.length) (hs : s.getD i 0 = 47) : s = s.take i ++ 47 :: s.drop (i + 1) := by
  have e : s[i] = 47 := by rw [← hs]; simp [hi]
  rw [← e, ← List.drop_eq_getElem_cons hi, List.take_append_drop]
/-- What is known of a path that was split. -/
theorem split_some {s a b : List UInt8} (h : splitR s = some (a, b)) : isParts s = true ∧ s.length ≤ 254 ∧ a.length ≤ 155 ∧ b.length ≤ 100 ∧ b ≠ [] ∧ (if a = [] then b else a ++ 47 :: b) = s := by
  unfold splitR at h
  by_cases h1 : isParts s = false ∨ 254 < s.length
  · rw [if_pos h1] at h; cases h
  · rw [if_neg h1] at h
    have hp : isParts s = true := by
      cases hp : isParts s with
      | true => rfl
      | false => exact absurd (.inl hp) h1
    by_cases h2 : s.length ≤ 100
    · rw [if_pos h2] at h
      cases h
      refine ⟨hp, by omega, by simp, h2, fun e => ?_, by rw [if_pos rfl]⟩
      subst e; rw [isParts_nil] at hp; cases hp
    · rw [if_neg h2] at h
      cases hc : cutI s with
      | none => rw [hc] at h; cases h
      | some i =>
        rw [hc] at h
        simp only at h
        obtain ⟨k1, k2, k3, k4⟩ := cut_some hc
        by_cases h3 : 155 < i
        · rw [if_pos h3] at h; cases h
        · rw [if_neg h3] at h
          cases h
          have e := take_slash k1 k2
          have hpp := hp
          rw [e, isParts_append, Bool.and_eq_true] at hpp
          have ha : s.take i ≠ [] := fun e1 => by rw [e1, isParts_nil] at hpp; cases hpp.1
          refine ⟨hp, by omega, by rw [List.length_take]; omega, by rw [List.length_drop]; omega, fun e1 => ?_, by rw [if_neg ha]; exact e.symm⟩
          rw [e1, isParts_nil] at hpp; cases hpp.2
/-- Two fields' path. -/
def joinS (p n : List UInt8) : List UInt8 := if p = [] then n else p ++ 47 :: n
def joinOk (p n : List UInt8) : Bool := splitR (joinS p n) == some (p, n)
def joinT (p n : List UInt8) : List UInt8 := if joinOk p n then joinS p n else []
def joinErr (p n : List UInt8) : Int := if joinOk p n then 0 else 9
theorem join_split {s a b : List UInt8} (h : splitR s = some (a, b)) : joinT a b = s ∧ joinErr a b = 0 := by
  have e : joinS a b = s := (split_some h).2.2.2.2.2
  have : joinOk a b = true := by rw [joinOk, e, h]; simp
  rw [joinT, joinErr, if_pos this, if_pos this]
  exact ⟨e, rfl⟩
theorem split_join {p n : List UInt8} (h : joinErr p n = 0) : splitR (joinT p n) = some (p, n) := by
  have ho : joinOk p n = true := by
    unfold joinErr at h
    by_cases e : joinOk p n = true
    · exact e
    · rw [if_neg e] at h; cases h
  rw [joinT, if_pos ho]
  simpa [joinOk] using ho
/-- Is it a user's path? -/
def tail31 : List UInt8 := [126, 51, 49, 45, 49, 48, 57, 57, 53, 49, 49, 54, 50, 55, 55, 55, 54]
def ownP (s : List UInt8) : Bool := !s.contains 126 && (mayP s && (decide (s.length ≤ 200) && mayP (s ++ tail31)))
/-- Does it lie below? -/
def underP (s d : List UInt8) : Bool := decide (d.length + 1 < s.length) && (s.take d.length == d && s.getD d.length 0 == 47)
theorem under_iff (s d : List UInt8) : underP s d = true ↔ ∃ r, r ≠ [] ∧ s = d ++ 47 :: r := by
  simp only [underP, Bool.and_eq_true, decide_eq_true_eq, beq_iff_eq]
  constructor
  · rintro ⟨h1, h2, h3⟩
    have := take_slash (s := s) (i := d.length) (by omega) h3
    rw [h2] at this
    refine ⟨s.drop (d.length + 1), fun e => ?_, this⟩
    have := congrArg List.length e
    simp at this; omega
  · rintro ⟨r, hr, rfl⟩
    have : 0 < r.length := List.length_pos_iff.2 hr
    refine ⟨by simp; omega, by simp, ?_⟩
    rw [List.getD_eq_getElem?_getD, List.getElem?_append_right (Nat.le_refl _), Nat.sub_self]; rfl
theorem under_self (s : List UInt8) : underP s s = false := by simp [underP]
theorem under_trans {s d e : List UInt8} (h1 : underP s d = true) (h2 : underP d e = true) : underP s e = true := by
  rw [under_iff] at h1 h2 ⊢
  obtain ⟨r, hr, rfl⟩ := h1
  obtain ⟨q, hq, rfl⟩ := h2
  exact ⟨q ++ 47 :: r, by simp, by simp⟩
/-- What stands ahead of each byte /, up to the k-th byte. -/
def parTo (s : List UInt8) (k : Nat) : List (List UInt8) := (List.range k).filterMap fun i => if s.getD i 0 = 47 then some (s.take i) else none
theorem parTo_zero (s : List UInt8) : parTo s 0 = [] := rfl
theorem parTo_slash (s : List UInt8) (k : Nat) (h : s.getD k 0 = 47) : parTo s (k + 1) = parTo s k ++ [s.take k] := by
  rw [parTo, List.range_succ, List.filterMap_append, ← parTo]
  simp only [List.filterMap_cons, List.filterMap_nil]
  rw [if_pos h]
theorem parTo_other (s : List UInt8) (k : Nat) (h : s.getD k 0 ≠ 47) : parTo s (k + 1) = parTo s k := by
  rw [parTo, List.range_succ, List.filterMap_append, ← parTo]
  simp only [List.filterMap_cons, List.filterMap_nil]
  rw [if_neg h]; simp
def parL (s : List UInt8) : List (List UInt8) := parTo s s.length
theorem parTo_length (s : List UInt8) (k : Nat) : (parTo s k).length ≤ k := by
  induction k with
  | zero => simp [parTo]
  | succ k ih =>
    by_cases h : s.getD k 0 = 47
    · rw [parTo_slash s k h]; simp; omega
    · rw [parTo_other s k h]; omega
/-- A copy's path. -/
def copyL (s : List UInt8) (r q : Int) : List UInt8 := s ++ 126 :: (numL r ++ 45 :: numL q)
/-- A text's last piece. -/
theorem last_piece (a : List UInt8) : (∀ c ∈ a, c ≠ 47) ∨ ∃ h l, a = h ++ 47 :: l ∧ ∀ c ∈ l, c ≠ 47 := by
  induction a with
  | nil => exact .inl fun c hc => by simp at hc
  | cons c t ih =>
    rcases ih with h | ⟨h, l, rfl, hl⟩
    · by_cases hc : c = 47
      · exact .inr ⟨[], t, by rw [hc]; rfl, h⟩
      · exact .inl fun d hd => by
          rcases List.mem_cons.1 hd with rfl | hd
          · exact hc
          · exact h d hd
    · exact .inr ⟨c :: h, l, rfl, hl⟩
theorem let_noslash {x : List UInt8} (hx : ∀ c ∈ x, isLet c = true) : ∀ c ∈ x, c ≠ 47 := fun c hc e => by
  have := hx c hc; rw [e, let_slash] at this; cases this
theorem noslash_append {l u : List UInt8} (hl : ∀ c ∈ l, c ≠ 47) (hu : ∀ c ∈ u, c ≠ 47) : ∀ c ∈ l ++ u, c ≠ 47 := fun c hc => by
  rcases List.mem_append.1 hc with h | h
  · exact hl c h
  · exact hu c h
theorem isParts_one {l : List UInt8} (hl : ∀ c ∈ l, c ≠ 47) : isParts l = isPart l := by rw [isParts, pieces_end l hl]; simp
theorem part_longer {l u : List UInt8} (hl : ∀ c ∈ l, isLet c = true) (hu : ∀ c ∈ u, isLet c = true) (hn : 126 ∈ u) (h : (l ++ u).length ≤ 100) : isPart (l ++ u) = true := by
  simp only [isPart, Bool.and_eq_true, List.all_eq_true, decide_eq_true_eq, bne_iff_ne, ne_eq]
  have hm : (126 : UInt8) ∈ l ++ u := List.mem_append.2 (.inr hn)
  refine ⟨fun c hc => ?_, ?_, h, fun e => ?_, fun e => ?_⟩
  · rcases List.mem_append.1 hc with h | h
    · exact hl c h
    · exact hu c h
  · have := List.length_pos_of_mem hm; omega
  · rw [e] at hm; simp at hm
  · rw [e] at hm; simp at hm
/-- The last piece with another end, no longer than the one that was there. -/
theorem isParts_end {a t u : List UInt8} (ht : ∀ c ∈ t, isLet c = true) (hu : ∀ c ∈ u, isLet c = true) (hn : 126 ∈ u) (hl : u.length ≤ t.length) (h : isParts (a ++ t) = true) : isParts (a ++ u) = true := by
  have st := let_noslash ht
  have su := let_noslash hu
  rcases last_piece a with ha | ⟨p, l, rfl, hs⟩
  · rw [isParts_one (noslash_append ha st)] at h
    rw [isParts_one (noslash_append ha su)]
    have := (isPart_len h).2
    exact part_longer (fun c hc => isPart_let h c (List.mem_append.2 (.inl hc))) hu hn (by rw [List.length_append] at this ⊢; omega)
  · rw [List.append_assoc, List.cons_append, isParts_append, Bool.and_eq_true, isParts_one (noslash_append hs st)] at h
    rw [List.append_assoc, List.cons_append, isParts_append, Bool.and_eq_true, isParts_one (noslash_append hs su)]
    have := (isPart_len h.2).2
    exact ⟨h.1, part_longer (fun c hc => isPart_let h.2 c (List.mem_append.2 (.inl hc))) hu hn (by rw [List.length_append] at this ⊢; omega)⟩
/-- Parts with something behind, short enough. -/
theorem isParts_short {a u : List UInt8} (hu : ∀ c ∈ u, isLet c = true) (hn : 126 ∈ u) (hl : (a ++ u).length ≤ 100) (h : isParts a = true) : isParts (a ++ u) = true := by
  have su := let_noslash hu
  rcases last_piece a with ha | ⟨p, l, rfl, hs⟩
  · rw [isParts_one ha] at h
    rw [isParts_one (noslash_append ha su)]
    exact part_longer (isPart_let h) hu hn hl
  · rw [isParts_append, Bool.and_eq_true, isParts_one hs] at h
    rw [List.append_assoc, List.cons_append, isParts_append, Bool.and_eq_true, isParts_one (noslash_append hs su)]
    exact ⟨h.1, part_longer (isPart_let h.2) hu hn (by simp at hl ⊢; omega)⟩
theorem may_iff (s : List UInt8) : mayP s = true ↔ isParts s = true ∧ s.length ≤ 254 ∧ (100 < s.length → ∃ i, i < s.length ∧ s.getD i 0 = 47 ∧ s.length - i - 1 ≤ 100 ∧ i ≤ 155) := by
  unfold mayP
  constructor
  · intro h
    obtain ⟨⟨a, b⟩, hx⟩ := Option.isSome_iff_exists.1 h
    obtain ⟨h1, h2, -⟩ := split_some hx
    refine ⟨h1, h2, fun h3 => ?_⟩
    unfold splitR at hx
    rw [if_neg (by rw [h1]; simp; omega), if_neg (by omega)] at hx
    cases hc : cutI s with
    | none => rw [hc] at hx; cases hx
    | some i =>
      rw [hc] at hx
      obtain ⟨k1, k2, k3, k4⟩ := cut_some hc
      refine ⟨i, k1, k2, k3, ?_⟩
      by_cases h4 : 155 < i
      · simp only [if_pos h4] at hx; cases hx
      · omega
  · rintro ⟨h1, h2, h3⟩
    unfold splitR
    rw [if_neg (by rw [h1]; simp; omega)]
    by_cases h4 : s.length ≤ 100
    · rw [if_pos h4]; rfl
    · rw [if_neg h4]
      obtain ⟨i, i1, i2, i3, i4⟩ := h3 (by omega)
      cases hc : cutI s with
      | none => have := cut_none hc i i1 i2; omega
      | some k =>
        obtain ⟨k1, k2, k3, k4⟩ := cut_some hc
        have : k ≤ i := by
          rcases Nat.lt_or_ge i k with h | h
          · have := k4 i h i2; omega
          · exact h
        simp only
        rw [if_neg (by omega)]; rfl
/-- A copy's end, shorter than that of the greatest dot. -/
theorem may_end {a t u : List UInt8} (ht : ∀ c ∈ t, isLet c = true) (hu : ∀ c ∈ u, isLet c = true) (hn : 126 ∈ u) (hl : u.length ≤ t.length) (h : mayP (a ++ t) = true) : mayP (a ++ u) = true := by
  rw [may_iff] at h ⊢
  obtain ⟨h1, h2, h3⟩ := h
  rw [List.length_append] at h2 h3 ⊢
  refine ⟨isParts_end ht hu hn hl h1, by omega, fun h4 => ?_⟩
  obtain ⟨i, i1, i2, i3, i4⟩ := h3 (by omega)
  have hia : i < a.length := by
    rcases Nat.lt_or_ge i a.length with h | h
    · exact h
    · rw [List.getD_eq_getElem?_getD, List.getElem?_append_right h] at i2
      exfalso
      have hm : i - a.length < t.length := by omega
      rw [List.getElem?_eq_getElem hm, Option.getD_some] at i2
      have := ht _ (List.getElem_mem hm)
      rw [i2, let_slash] at this; cases this
  refine ⟨i, by omega, ?_, by omega, i4⟩
  rw [List.getD_eq_getElem?_getD, List.getElem?_append_left hia] at i2 ⊢
  exact i2
/-- What stands ahead of a byte / of a path is a path. -/
theorem may_parent {s : List UInt8} {j : Nat} (hj : j < s.length) (hs : s.getD j 0 = 47) (h : mayP s = true) : mayP (s.take j) = true := by
  rw [may_iff] at h ⊢
  obtain ⟨h1, h2, h3⟩ := h
  have e := take_slash hj hs
  have hpp := h1
  rw [e, isParts_append, Bool.and_eq_true] at hpp
  have hl : (s.take j).length = j := by rw [List.length_take]; omega
  rw [hl]
  refine ⟨hpp.1, by omega, fun h4 => ?_⟩
  obtain ⟨i, i1, i2, i3, i4⟩ := h3 (by omega)
  have at' : ∀ k, k < j → (s.take j).getD k 0 = s.getD k 0 := fun k hk => by
    rw [List.getD_eq_getElem?_getD, List.getD_eq_getElem?_getD, List.getElem?_take, if_pos hk]
  by_cases hij : i < j
  · exact ⟨i, hij, by rw [at' i hij]; exact i2, by omega, i4⟩
  · -- the last piece of what stands ahead
    rcases last_piece (s.take j) with ha | ⟨p, l, hp, hl'⟩
    · have := hpp.1
      rw [isParts_one ha] at this
      have := (isPart_len this).2; omega
    · have hll : l.length ≤ 100 := by
        have := hpp.1
        rw [hp, isParts_append, Bool.and_eq_true, isParts_one hl'] at this
        exact (isPart_len this.2).2
      have hjl := congrArg List.length hp
      rw [hl, List.length_append, List.length_cons] at hjl
      refine ⟨p.length, by omega, ?_, by omega, by omega⟩
      rw [hp, List.getD_eq_getElem?_getD, List.getElem?_append_right (Nat.le_refl _), Nat.sub_self]; rfl
/-- Texts that part at a byte that the beginnings don't have. -/
theorem first_split {x : UInt8} {a b r q : List UInt8} (ha : x ∉ a) (hb : x ∉ b) (h : a ++ x :: r = b ++ x :: q) : a = b ∧ r = q := by
  induction a generalizing b with
  | nil =>
    cases b with
    | nil => simpa using h
    | cons c b => simp at h; exact absurd (h.1 ▸ List.mem_cons_self) hb
  | cons c a ih =>
    cases b with
    | nil => simp at h; exact absurd (h.1 ▸ List.mem_cons_self) ha
    | cons d b =>
      simp only [List.cons_append, List.cons.injEq] at h
      obtain ⟨e1, e2⟩ := ih (fun hm => ha (List.mem_cons_of_mem _ hm)) (fun hm => hb (List.mem_cons_of_mem _ hm)) h.2
      exact ⟨by rw [h.1, e1], e2⟩
theorem digs_let (m : Nat) : ∀ c ∈ digs m, isLet c = true ∧ c ≠ 45 ∧ c ≠ 126 := fun c hc => by
  have := digs_dig m c hc
  simp only [isDig, Bool.and_eq_true, decide_eq_true_eq] at this
  refine ⟨by simp [isLet, this.1, this.2], fun e => ?_, fun e => ?_⟩
  · subst e; exact absurd this.1 (by decide)
  · subst e; exact absurd this.2 (by decide)
theorem numL_let (n : Int) : ∀ c ∈ numL n, isLet c = true ∧ c ≠ 126 := fun c hc => by
  unfold numL at hc
  split at hc
  · rcases List.mem_cons.1 hc with rfl | h
    · decide
    · exact ⟨(digs_let _ c h).1, (digs_let _ c h).2.2⟩
  · exact ⟨(digs_let _ c hc).1, (digs_let _ c hc).2.2⟩
theorem digs_inj {m k : Nat} (h : digs m = digs k) : m = k := by rw [← valN_digs m, h, valN_digs]
theorem digs_head (m : Nat) : ∃ c t, digs m = c :: t ∧ c ≠ 45 := by
  cases h : digs m with
  | nil => have := digs_pos m; rw [h] at this; simp at this
  | cons c t => exact ⟨c, t, rfl, (digs_let m c (by rw [h]; simp)).2.1⟩
theorem num_first {r r' : Int} {A B : List UInt8} (h : numL r ++ 45 :: A = numL r' ++ 45 :: B) : r = r' ∧ A = B := by
  unfold numL at h
  have n45 : ∀ m, (45 : UInt8) ∉ digs m := fun m hm => (digs_let m 45 hm).2.1 rfl
  by_cases h1 : r < 0
  · rw [if_pos h1] at h
    by_cases h2 : r' < 0
    · rw [if_pos h2] at h
      simp only [List.cons_append, List.cons.injEq, true_and] at h
      obtain ⟨e1, e2⟩ := first_split (n45 _) (n45 _) h
      exact ⟨by have := digs_inj e1; omega, e2⟩
    · rw [if_neg h2] at h
      obtain ⟨c, t, hc, hn⟩ := digs_head r'.natAbs
      rw [hc] at h
      simp only [List.cons_append, List.cons.injEq] at h
      exact absurd h.1.symm hn
  · rw [if_neg h1] at h
    by_cases h2 : r' < 0
    · rw [if_pos h2] at h
      obtain ⟨c, t, hc, hn⟩ := digs_head r.natAbs
      rw [hc] at h
      simp only [List.cons_append, List.cons.injEq] at h
      exact absurd h.1 hn
    · rw [if_neg h2] at h
      obtain ⟨e1, e2⟩ := first_split (n45 _) (n45 _) h
      exact ⟨by have := digs_inj e1; omega, e2⟩
theorem numL_inj {r r' : Int} (h : numL r = numL r') : r = r' := (num_first (A := []) (B := []) (by rw [h])).1
/-- What a copy's path has behind the user's. -/
def copyEnd (r q : Int) : List UInt8 := 126 :: (numL r ++ 45 :: numL q)
theorem copy_end (s : List UInt8) (r q : Int) : copyL s r q = s ++ copyEnd r q := rfl
theorem copyEnd_let (r q : Int) : ∀ c ∈ copyEnd r q, isLet c = true := fun c hc => by
  unfold copyEnd at hc
  simp only [List.mem_cons, List.mem_append] at hc
  rcases hc with rfl | hc | rfl | hc
  · decide
  · exact (numL_let r c hc).1
  · decide
  · exact (numL_let q c hc).1
theorem copyEnd_mem (r q : Int) : 126 ∈ copyEnd r q := by simp [copyEnd]
theorem own_iff (s : List UInt8) : ownP s = true ↔ 126 ∉ s ∧ mayP s = true ∧ s.length ≤ 200 ∧ mayP (s ++ tail31) = true := by
  simp only [ownP, Bool.and_eq_true, Bool.not_eq_true', decide_eq_true_eq]
  rw [List.contains_eq_mem, decide_eq_false_iff_not]
theorem copy_not_own (s : List UInt8) (r q : Int) : ownP (copyL s r q) = false := by
  cases h : ownP (copyL s r q) with
  | false => rfl
  | true => exact absurd (List.mem_append.2 (.inr (copyEnd_mem r q))) ((own_iff _).1 h).1
theorem copy_inj {a b : List UInt8} {r q r' q' : Int} (ha : ownP a = true) (hb : ownP b = true) : (copyL a r q = copyL b r' q') ↔ (a = b ∧ r = r' ∧ q = q') := by
  constructor
  · intro h
    obtain ⟨e1, e2⟩ := first_split ((own_iff a).1 ha).1 ((own_iff b).1 hb).1 h
    obtain ⟨e3, e4⟩ := num_first e2
    exact ⟨e1, e3, numL_inj e4⟩
  · rintro ⟨rfl, rfl, rfl⟩; rfl
theorem numL_len (n : Int) (k : Nat) (h0 : 0 ≤ n) (h1 : n.toNat < 10 ^ k) (hk : 0 < k) : (numL n).length ≤ k := by
  unfold numL
  rw [if_neg (by omega)]
  exact digs_length k _ (by rw [show n.natAbs = n.toNat from by omega]; exact h1) hk
/-- A copy by a dot that may be is a path, and not too long. -/
theorem copy_may {s : List UInt8} {r q : Int} (hs : ownP s = true) (hr0 : 0 ≤ r) (hr1 : r < 32) (hq0 : 1 ≤ q) (hq1 : q ≤ 1099511627776) : (copyL s r q).length ≤ 217 ∧ mayP (copyL s r q) = true := by
  obtain ⟨h1, h2, h3, h4⟩ := (own_iff s).1 hs
  have l1 := numL_len r 2 hr0 (by omega) (by omega)
  have l2 := numL_len q 13 (by omega) (by omega) (by omega)
  have l3 : (copyEnd r q).length ≤ 17 := by simp [copyEnd]; omega
  refine ⟨by rw [copy_end, List.length_append]; omega, ?_⟩
  rw [copy_end]
  exact may_end (t := tail31) (by decide) (copyEnd_let r q) (copyEnd_mem r q) (by rw [show tail31.length = 17 from rfl]; exact l3) h4
theorem may_short {s : List UInt8} (h : isParts s = true) (hl : s.length ≤ 100) : mayP s = true := (may_iff s).2 ⟨h, by omega, fun h => by omega⟩
/-- A copy that isn't a path is a long one. -/
theorem copy_long {s : List UInt8} {r q : Int} (hs : ownP s = true) (h : mayP (copyL s r q) = false) : 100 < (copyL s r q).length := by
  rcases Nat.lt_or_ge 100 (copyL s r q).length with h' | h'
  · exact h'
  · obtain ⟨h1, h2, h3, h4⟩ := (own_iff s).1 hs
    rw [copy_end] at h' h
    rw [may_short (isParts_short (copyEnd_let r q) (copyEnd_mem r q) h' ((may_iff s).1 h2).1) h'] at h
    cases h
theorem splitA_len (s : List UInt8) : (splitA s).length ≤ 155 := by
  unfold splitA
  cases h : splitR s with
  | none => simp
  | some x => exact (split_some (a := x.1) (b := x.2) h).2.2.1
/-- What lies below a path's parents, and their number. -/
theorem par_mem {s d : List UInt8} (h : underP s d = true) : d ∈ parL s := by
  obtain ⟨r, hr, rfl⟩ := (under_iff s d).1 h
  have key : ∀ k, d.length < k → d ∈ parTo (d ++ 47 :: r) k := fun k hk => by
    induction k with
    | zero => omega
    | succ k ih =>
      by_cases h47 : (d ++ 47 :: r).getD k 0 = 47
      · rw [parTo_slash _ k h47]
        rcases Nat.lt_or_ge d.length k with h | h
        · exact List.mem_append.2 (.inl (ih h))
        · obtain rfl : d.length = k := by omega
          simp
      · rw [parTo_other _ k h47]
        rcases Nat.lt_or_ge d.length k with h | h
        · exact ih h
        · obtain rfl : d.length = k := by omega
          exfalso; apply h47
          rw [List.getD_eq_getElem?_getD, List.getElem?_append_right (Nat.le_refl _), Nat.sub_self]; rfl
  exact key _ (by simp)
/-- The i-th parent: where it ends, and how many parents it has itself. -/
theorem par_at (s : List UInt8) : ∀ k, k ≤ s.length → ∀ i, i < (parTo s k).length → ∃ j, j < k ∧ s.getD j 0 = 47 ∧ (parTo s k)[i]? = some (s.take j) ∧ (parTo s j).length = i := by
  intro k
  induction k with
  | zero => intro _ i hi; simp [parTo] at hi
  | succ k ih =>
    intro hk i hi
    by_cases h47 : s.getD k 0 = 47
    · rw [parTo_slash s k h47] at hi ⊢
      rw [List.length_append, List.length_singleton] at hi
      rcases Nat.lt_or_ge i (parTo s k).length with h | h
      · obtain ⟨j, j1, j2, j3, j4⟩ := ih (by omega) i h
        exact ⟨j, by omega, j2, by rw [List.getElem?_append_left h]; exact j3, j4⟩
      · obtain rfl : i = (parTo s k).length := by omega
        exact ⟨k, by omega, h47, by rw [List.getElem?_append_right (Nat.le_refl _), Nat.sub_self]; rfl, rfl⟩
    · rw [parTo_other s k h47] at hi ⊢
      obtain ⟨j, j1, j2, j3, j4⟩ := ih (by omega) i hi
      exact ⟨j, by omega, j2, j3, j4⟩
theorem parTo_take (s : List UInt8) (j : Nat) : ∀ k, k ≤ j → parTo (s.take j) k = parTo s k := by
  intro k
  induction k with
  | zero => intro _; rfl
  | succ k ih =>
    intro hk
    have e : (s.take j).getD k 0 = s.getD k 0 := by rw [List.getD_eq_getElem?_getD, List.getD_eq_getElem?_getD, List.getElem?_take, if_pos (by omega)]
    have e2 : (s.take j).take k = s.take k := by rw [List.take_take, Nat.min_eq_left (by omega)]
    by_cases h47 : s.getD k 0 = 47
    · rw [parTo_slash s k h47, parTo_slash _ k (by rw [e]; exact h47), ih (by omega), e2]
    · rw [parTo_other s k h47, parTo_other _ k (by rw [e]; exact h47), ih (by omega)]
/-- How many parents a parent has. -/
theorem par_count (s : List UInt8) (i : Nat) (p : List UInt8) (h : (parL s)[i]? = some p) : (parL p).length = i := by
  obtain ⟨hi, -⟩ := List.getElem?_eq_some_iff.1 h
  obtain ⟨j, j1, j2, j3, j4⟩ := par_at s s.length (Nat.le_refl _) i hi
  rw [parL] at h
  rw [h] at j3
  obtain rfl := Option.some.inj j3
  rw [parL, show (s.take j).length = j from by rw [List.length_take]; omega, parTo_take s j j (Nat.le_refl _), j4]
theorem par_may (s : List UInt8) (i : Nat) (p : List UInt8) (h : (parL s)[i]? = some p) (hm : mayP s = true) : mayP p = true := by
  obtain ⟨hi, -⟩ := List.getElem?_eq_some_iff.1 h
  obtain ⟨j, j1, j2, j3, j4⟩ := par_at s s.length (Nat.le_refl _) i hi
  rw [parL] at h
  rw [h] at j3
  obtain rfl := Option.some.inj j3
  exact may_parent j1 j2 hm
/-- A path lies below each of its parents, but for one that ends with its last byte /. -/
theorem par_under (s : List UInt8) (i : Nat) (p : List UInt8) (h : (parL s)[i]? = some p) : p.length + 1 ≤ s.length ∧ (p.length + 1 < s.length → underP s p = true) := by
  obtain ⟨hi, -⟩ := List.getElem?_eq_some_iff.1 h
  obtain ⟨j, j1, j2, j3, j4⟩ := par_at s s.length (Nat.le_refl _) i hi
  rw [parL] at h
  rw [h] at j3
  obtain rfl := Option.some.inj j3
  have hl : (s.take j).length = j := by rw [List.length_take]; omega
  rw [hl]
  refine ⟨by omega, fun h' => (under_iff _ _).2 ⟨s.drop (j + 1), fun e => ?_, take_slash j1 j2⟩⟩
  have := congrArg List.length e
  simp at this; omega
/-- Parents rise: each, with one part more, lies below the one ahead of it. -/
theorem par_rise (s : List UInt8) (i : Nat) (p q : List UInt8) (hp : (parL s)[i]? = some p) (hq : (parL s)[i + 1]? = some q) : underP (q ++ [47, 120]) p = true := by
  obtain ⟨hi, -⟩ := List.getElem?_eq_some_iff.1 hp
  obtain ⟨hi', -⟩ := List.getElem?_eq_some_iff.1 hq
  obtain ⟨j, j1, j2, j3, j4⟩ := par_at s s.length (Nat.le_refl _) i hi
  obtain ⟨k, k1, k2, k3, k4⟩ := par_at s s.length (Nat.le_refl _) (i + 1) hi'
  rw [parL] at hp hq
  rw [hp] at j3; rw [hq] at k3
  obtain rfl := Option.some.inj j3
  obtain rfl := Option.some.inj k3
  have hjk : j < k := by
    rcases Nat.lt_or_ge j k with h | h
    · exact h
    · exfalso
      have : ∀ m, k ≤ m → (parTo s k).length ≤ (parTo s m).length := fun m hm => by
        induction m with
        | zero => obtain rfl : k = 0 := by omega
                  exact Nat.le_refl _
        | succ m ih =>
          rcases Nat.lt_or_ge k (m + 1) with h | h
          · have := ih (by omega)
            by_cases h47 : s.getD m 0 = 47
            · rw [parTo_slash s m h47]; simp; omega
            · rw [parTo_other s m h47]; exact this
          · obtain rfl : k = m + 1 := by omega
            exact Nat.le_refl _
      have := this j h
      omega
  have e : s.take k = s.take j ++ 47 :: (s.take k).drop (j + 1) := by
    have h1 : j < (s.take k).length := by rw [List.length_take]; omega
    have h2 : (s.take k).getD j 0 = 47 := by rw [List.getD_eq_getElem?_getD, List.getElem?_take, if_pos hjk, ← List.getD_eq_getElem?_getD]; exact j2
    have := take_slash h1 h2
    rwa [List.take_take, Nat.min_eq_left (by omega)] at this
  rw [under_iff]
  refine ⟨(s.take k).drop (j + 1) ++ [47, 120], by simp, ?_⟩
  conv => lhs; rw [e]
  simp
end Go.Proofs.YtfechljjkblkhaaDoor
