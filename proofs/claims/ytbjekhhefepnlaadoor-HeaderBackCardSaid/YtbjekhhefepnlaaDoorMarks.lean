/-
Plain mathematics of a text's pieces and where each begins; no program is named here.
-/
import Derived.Test.YtbjekhhefepnlaaDoorPath
import Derived.Test.YtbjekhhefepnlaaDoorRef06
import Derived.Lib.IndexLaws
namespace Go.Proofs.YtbjekhhefepnlaaDoor
open Go.RowKit
/-- Pieces, each with the place where it begins. -/
def marksAt (f : Nat) : List (List UInt8) → List (Nat × List UInt8)
  | [] => []
  | p :: ps => (f, p) :: marksAt (f + p.length + 1) ps
def marks (s : List UInt8) : List (Nat × List UInt8) := marksAt 0 (pieces s)
theorem marksAt_snd (f : Nat) (ps : List (List UInt8)) : (marksAt f ps).map (·.2) = ps := by
  induction ps generalizing f with
  | nil => rfl
  | cons p ps ih => rw [marksAt, List.map_cons, ih]
theorem marks_snd (s : List UInt8) : (marks s).map (·.2) = pieces s := marksAt_snd 0 _
/-- The places of the bytes /. -/
def slashes (f : Nat) : List UInt8 → List Nat
  | [] => []
  | c :: t => if c = 47 then f :: slashes (f + 1) t else slashes (f + 1) t
theorem marksAt_fst (f : Nat) (s : List UInt8) : (marksAt f (pieces s)).map (·.1) = f :: (slashes f s).map (· + 1) := by
  induction s generalizing f with
  | nil => rfl
  | cons c t ih =>
    rw [pieces, slashes]
    by_cases h : c = 47
    · rw [if_pos h, if_pos h, marksAt, List.map_cons, List.length_nil, Nat.add_zero, ih (f + 1), List.map_cons]
    · rw [if_neg h, if_neg h]
      have ih := ih (f + 1)
      cases hp : pieces t with
      | nil => exact absurd hp (pieces_ne t)
      | cons p ps =>
        rw [hp, marksAt, List.map_cons, List.cons.injEq] at ih
        simp only [marksAt, List.map_cons, List.length_cons, List.cons.injEq, true_and]
        rw [show f + (p.length + 1) + 1 = f + 1 + p.length + 1 from by omega, ih.2]
theorem marks_fst (s : List UInt8) : (marks s).map (·.1) = 0 :: (slashes 0 s).map (· + 1) := marksAt_fst 0 s
theorem slashes_ge (s : List UInt8) : ∀ f, ∀ j ∈ slashes f s, f ≤ j := by
  induction s with
  | nil => intro f j hj; cases hj
  | cons c t ih =>
    intro f j hj
    rw [slashes] at hj
    by_cases h : c = 47
    · rw [if_pos h] at hj
      rcases List.mem_cons.1 hj with rfl | hj
      · exact Nat.le_refl _
      · have := ih _ _ hj; omega
    · rw [if_neg h] at hj; have := ih _ _ hj; omega
theorem slashes_sorted (s : List UInt8) : ∀ f, (slashes f s).Pairwise (· < ·) := by
  induction s with
  | nil => intro f; exact List.Pairwise.nil
  | cons c t ih =>
    intro f
    rw [slashes]
    by_cases h : c = 47
    · rw [if_pos h]; exact List.Pairwise.cons (fun j hj => by have := slashes_ge t _ _ hj; omega) (ih _)
    · rw [if_neg h]; exact ih _
theorem slashes_mem (s : List UInt8) : ∀ f j, j < s.length → s.getD j 0 = 47 → f + j ∈ slashes f s := by
  induction s with
  | nil => intro f j hj; simp at hj
  | cons c t ih =>
    intro f j hj hs
    rw [slashes]
    cases j with
    | zero => rw [if_pos (by simpa using hs)]; simp
    | succ j =>
      have := ih (f + 1) j (by simpa using hj) (by simpa using hs)
      rw [show f + 1 + j = f + (j + 1) from by omega] at this
      by_cases h : c = 47
      · rw [if_pos h]; exact List.mem_cons.2 (.inr this)
      · rw [if_neg h]; exact this
theorem slashes_snoc (s : List UInt8) (c : UInt8) : ∀ f, slashes f (s ++ [c]) = slashes f s ++ if c = 47 then [f + s.length] else [] := by
  induction s with
  | nil => intro f; simp [slashes]
  | cons d t ih =>
    intro f
    rw [List.cons_append, slashes, slashes, ih (f + 1), List.length_cons, show f + 1 + t.length = f + (t.length + 1) from by omega]
    split <;> rfl
theorem parTo_slashes (s : List UInt8) : ∀ k, k ≤ s.length → parTo s k = (slashes 0 (s.take k)).map (s.take ·) := by
  intro k
  induction k with
  | zero => intro _; rfl
  | succ k ih =>
    intro hk
    have e : s.take (k + 1) = s.take k ++ [s.getD k 0] := by
      rw [List.take_succ_eq_append_getElem (by omega : k < s.length), List.getD_eq_getElem?_getD, List.getElem?_eq_getElem (by omega)]; rfl
    rw [e, slashes_snoc, List.map_append, ← ih (by omega)]
    by_cases h : s.getD k 0 = 47
    · rw [parTo_slash s k h, if_pos h, List.map_singleton, Nat.zero_add, List.length_take, Nat.min_eq_left (by omega)]
    · rw [parTo_other s k h, if_neg h]; simp
theorem parL_slashes (s : List UInt8) : parL s = (slashes 0 s).map (s.take ·) := by
  rw [parL, parTo_slashes s _ (Nat.le_refl _), List.take_length]
/-- What a list of places makes parents of. -/
def parAt (s : List UInt8) (x : Nat) : Option (List UInt8) := if 0 < x then some (s.take (x - 1)) else none
theorem parents_of (s : List UInt8) : ((marks s).map (·.1)).filterMap (parAt s) = parL s := by
  rw [marks_fst, parL_slashes, List.filterMap_cons, show parAt s 0 = none from rfl]
  simp only
  rw [List.filterMap_map, ← List.filterMap_eq_map]
  congr 1
/-- A place ahead of which all are too far from the end: the first that isn't. -/
theorem cut_at {s : List UInt8} {pre rest : List Nat} {x : Nat} (h : (marks s).map (·.1) = pre ++ x :: rest) (hx : 0 < x) (hxs : x ≤ s.length) (hsl : s.getD (x - 1) 0 = 47) (hall : ∀ y ∈ pre, 100 < s.length - y) (hn : s.length - x ≤ 100) : cutI s = some (x - 1) := by
  refine cut_of (by omega) hsl (by omega) fun j hj h47 => ?_
  have hm : j + 1 ∈ pre ++ x :: rest := by
    rw [← h, marks_fst]
    exact List.mem_cons.2 (.inr (List.mem_map.2 ⟨j, by have := slashes_mem s 0 j (by omega) h47; rwa [Nat.zero_add] at this, rfl⟩))
  have hp : (pre ++ x :: rest).Pairwise (· < ·) := by
    rw [← h, marks_fst]
    refine List.Pairwise.cons (fun j hj => ?_) ?_
    · obtain ⟨i, _, rfl⟩ := List.mem_map.1 hj; omega
    · exact List.pairwise_map.2 ((slashes_sorted s 0).imp fun h => by omega)
  rcases List.mem_append.1 hm with h1 | h1
  · have := hall _ h1; omega
  · rcases List.mem_cons.1 h1 with h1 | h1
    · omega
    · have := (List.pairwise_cons.1 (List.pairwise_append.1 hp).2.1).1 _ h1
      omega
theorem cut_nowhere {s : List UInt8} (hall : ∀ y ∈ (marks s).map (·.1), 100 < s.length - y) : cutI s = none := cut_no fun j hj h47 => by
  have := hall (j + 1) (by
    rw [marks_fst]
    exact List.mem_cons.2 (.inr (List.mem_map.2 ⟨j, by have := slashes_mem s 0 j hj h47; rwa [Nat.zero_add] at this, rfl⟩)))
  omega
/-- A piece with its place, as a function that goes through them hands it on. -/
abbrev Pm (s : List UInt8) := { x : Nat × List UInt8 // x.1 ≤ s.length ∧ (0 < x.1 → s.getD (x.1 - 1) 0 = 47) ∧ x.2.length ≤ s.length }
/-- What a search for / in the rest of a text finds. -/
theorem index_cut (s : List UInt8) (f : Nat) (hf : f ≤ s.length) :
    (Lib.indexByte (str (s.drop f)).data.toList ((47 : Int).toNat.toUInt8) = -1 ∧ marksAt f (pieces (s.drop f)) = [(f, s.drop f)]) ∨
    ∃ o : Nat, Lib.indexByte (str (s.drop f)).data.toList ((47 : Int).toNat.toUInt8) = (o : Int) ∧ f + o < s.length ∧ s.getD (f + o) 0 = 47 ∧
      marksAt f (pieces (s.drop f)) = (f, (s.take (f + o)).drop f) :: marksAt (f + o + 1) (pieces (s.drop (f + o + 1))) := by
  rw [show (str (s.drop f)).data.toList = s.drop f from by simp [str], show (47 : Int).toNat.toUInt8 = 47 from rfl]
  have hge := Lib.indexByte_ge (s.drop f) 47
  by_cases h : Lib.indexByte (s.drop f) 47 = -1
  · refine .inl ⟨h, ?_⟩
    rw [pieces_end _ fun c hc e => ?_]
    · rfl
    · subst e
      obtain ⟨k, hk, e⟩ := List.mem_iff_getElem.1 hc
      exact absurd (by rw [List.getElem?_eq_getElem hk, e]) (Lib.indexByte_none h k)
  · obtain ⟨o, ho⟩ : ∃ o : Nat, Lib.indexByte (s.drop f) 47 = (o : Int) := ⟨(Lib.indexByte (s.drop f) 47).toNat, by omega⟩
    obtain ⟨h1, h2⟩ := Lib.indexByte_some ho
    have hol : o < (s.drop f).length := (List.getElem?_eq_some_iff.1 h1).1
    have hd : (s.drop f).getD o 0 = 47 := by rw [List.getD_eq_getElem?_getD, h1]; rfl
    refine .inr ⟨o, ho, by rw [List.length_drop] at hol; omega, ?_, ?_⟩
    · rw [List.getElem?_drop] at h1
      rw [List.getD_eq_getElem?_getD, h1]; rfl
    · have e : s.drop f = (s.drop f).take o ++ 47 :: (s.drop f).drop (o + 1) := take_slash hol hd
      have e2 : (s.drop f).take o = (s.take (f + o)).drop f := by rw [List.drop_take]; congr 1; omega
      have e3 : (s.drop f).drop (o + 1) = s.drop (f + o + 1) := by rw [List.drop_drop]; congr 1
      have hno : ∀ c ∈ (s.drop f).take o, c ≠ 47 := fun c hc e => by
        subst e
        obtain ⟨k, hk, e⟩ := List.mem_iff_getElem.1 hc
        have hko : k < o := by rw [List.length_take] at hk; omega
        refine h2 k hko ?_
        have := List.getElem?_eq_getElem hk
        rw [e, List.getElem?_take, if_pos hko] at this
        exact this
      have hlen : ((s.take (f + o)).drop f).length = o := by rw [← e2, List.length_take]; omega
      rw [e2] at hno
      conv => lhs; rw [e, e2, e3, pieces_slash _ _ hno, marksAt, hlen]
end Go.Proofs.YtbjekhhefepnlaaDoor
