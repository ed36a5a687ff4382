/-
Texts that all claims of this seat share, part 1: VecText, VecMore, Ref04Read, Ref06, Texts, Ref06Copy, HexaFace, Ref09, Ref09Text, Ref09Parse, VecSeq, Dots, Mark.
-/
import Derived.Test.YtoephjmjlhgjeaaDoorProg
import Derived.WalkKit
import Derived.Lib.Hide
import Derived.WalkLawsBesides
import Derived.Laws.DeepStrings4
import Derived.BigQuiet
import Derived.Deep.QuietTactic
import Derived.Laws.AppendOwn
import Derived.Lib.ItoaNum
import Derived.Lib.LaidTab
import Derived.Deep.DeepCutAuto
import Derived.Test.YtoephjmjlhgjeaaDoorShelf
import Derived.Lib.IndexLaws
import Derived.OneCell
import Derived.Laws.IdiomStrings
import Derived.Test.YtoephjmjlhgjeaaDoorPk0
namespace Go.Proofs.YtoephjmjlhgjeaaDoor
def dotT (d : D2) : List UInt8 := textD d.1 d.2
def dotOf (s : List UInt8) : D2 := (parR s, parQ s)
def textL (l : List D2) : List UInt8 := if l = [] then [45] else joinB 44 (l.map dotT)
def textV (l : List D2) : List UInt8 := textL (vecOf l)
def vecPs (s : List UInt8) : List (List UInt8) := if s = [45] then [] else piecesB 44 s
def dotsOf (s : List UInt8) : List D2 := (vecPs s).map dotOf
def isVecT (s : List UInt8) : Bool := (vecPs s).all (fun p => parErr p == 0) && textV (dotsOf s) == s
def parVErr (s : List UInt8) : Int := if isVecT s then 0 else 2
def parV (s : List UInt8) : List D2 := if isVecT s then dotsOf s else []
theorem num_not {c : UInt8} (h0 : isDig c = false) (h1 : c ≠ 45) (n : Int) : c ∉ numL n := fun h => by
  have hd : ∀ m, c ∉ digs m := fun m hm => by have := digs_dig m _ hm; rw [h0] at this; cases this
  unfold numL at h
  split at h
  · rcases List.mem_cons.1 h with h | h
    · exact h1 h
    · exact hd _ h
  · exact hd _ h
theorem dotT_not {c : UInt8} (h0 : isDig c = false) (h1 : c ≠ 45) (h2 : c ≠ 58) (d : D2) : c ∉ dotT d := fun h => by
  rw [dotT, textD] at h
  rcases List.mem_append.1 h with h | h
  · exact num_not h0 h1 _ h
  · rcases List.mem_cons.1 h with h | h
    · exact h2 h
    · exact num_not h0 h1 _ h
theorem comma_not (d : D2) : (44 : UInt8) ∉ dotT d := dotT_not (by decide) (by decide) (by decide) d
theorem colon_in (d : D2) : (58 : UInt8) ∈ dotT d := by rw [dotT, textD]; simp
theorem mem_joinB {c x : UInt8} {ps : List (List UInt8)} {p : List UInt8} (hp : p ∈ ps) (hx : x ∈ p) : x ∈ joinB c ps := by
  cases ps with
  | nil => cases hp
  | cons q t =>
    rw [joinB]
    rcases List.mem_cons.1 hp with rfl | hp
    · exact List.mem_append.2 (.inl hx)
    · exact List.mem_append.2 (.inr (List.mem_flatMap.2 ⟨p, hp, List.mem_cons_of_mem _ hx⟩))
theorem vecPs_text (l : List D2) : vecPs (textL l) = l.map dotT := by
  rw [textL]
  by_cases h : l = []
  · subst h; rfl
  · rw [if_neg h]
    obtain ⟨a, d, rfl⟩ := list_snoc l h
    have hne : joinB 44 ((a ++ [d]).map dotT) ≠ [45] := fun e => by
      have h1 : (58 : UInt8) ∈ joinB 44 ((a ++ [d]).map dotT) := mem_joinB (List.mem_map.2 ⟨d, by simp, rfl⟩) (colon_in d)
      rw [e] at h1; revert h1; decide
    rw [vecPs, if_neg hne, List.map_append, List.map_cons, List.map_nil, piecesB, cut_join _ _ (fun p hp => by obtain ⟨x, -, rfl⟩ := List.mem_map.1 hp; exact comma_not x) (comma_not d)]
theorem dotOf_dotT {d : D2} (h : mayT d = true) : dotOf (dotT d) = d ∧ parErr (dotT d) = 0 := by
  obtain ⟨h0, h1, h2⟩ := parse_text9 (r := d.1) (q := d.2) h
  exact ⟨by rw [dotOf, dotT, h1, h2], h0⟩
theorem map_dotOf {l : List D2} (h : ∀ d ∈ l, mayT d = true) : (l.map dotT).map dotOf = l := by
  rw [List.map_map]
  conv => rhs; rw [← List.map_id l]
  exact List.map_congr_left fun d hd => (dotOf_dotT (h d hd)).1
/-- A vector's text is parsed as it. -/
theorem parse_textV (l : List D2) : parVErr (textV l) = 0 ∧ parV (textV l) = vecOf l := by
  have h1 : vecPs (textV l) = (vecOf l).map dotT := vecPs_text _
  have h2 : dotsOf (textV l) = vecOf l := by rw [dotsOf, h1, map_dotOf (vecOf_may l)]
  have h3 : isVecT (textV l) = true := by
    rw [isVecT, Bool.and_eq_true, List.all_eq_true, beq_iff_eq, h1, h2]
    refine ⟨fun p hp => ?_, by rw [textV, vecOf_vecOf, textV]⟩
    obtain ⟨d, hd, rfl⟩ := List.mem_map.1 hp
    rw [(dotOf_dotT (vecOf_may l d hd)).2]; rfl
  rw [parVErr, parV, h3]; exact ⟨rfl, h2⟩
/-- What is parsed may be, and has the very text. -/
theorem text_parseV {s : List UInt8} (h : isVecT s = true) : mayV (parV s) = true ∧ textV (parV s) = s := by
  have h' := h
  rw [isVecT, Bool.and_eq_true, beq_iff_eq] at h'
  have hp : parV s = dotsOf s := by rw [parV, h]; rfl
  have h1 : vecPs s = (vecOf (dotsOf s)).map dotT := by
    conv => lhs; rw [← h'.2]
    exact vecPs_text _
  have h2 : dotsOf s = vecOf (dotsOf s) := by
    conv => lhs; rw [dotsOf, h1]
    exact map_dotOf (vecOf_may _)
  rw [hp]
  exact ⟨by rw [mayV, ← h2]; simp, h'.2⟩
theorem parVErr_cases (s : List UInt8) : parVErr s = 0 ∧ isVecT s = true ∨ parVErr s = 2 ∧ isVecT s = false ∧ parV s = [] := by
  unfold parVErr parV
  cases h : isVecT s <;> simp
theorem dotT_length {d : D2} (h : mayT d = true) : (dotT d).length ≤ 41 := by
  have hm := mayT_bd h
  have h1 := numL_length d.1 (by omega) (by omega)
  have h2 := numL_length d.2 (by omega) (by omega)
  rw [dotT, textD, List.length_append, List.length_cons]; omega
theorem textV_length (l : List D2) : (textV l).length ≤ 1344 := by
  rw [textV, textL]
  split
  · simp
  · have h1 := joinB_length 44 ((vecOf l).map dotT) 41 (fun p hp => by obtain ⟨d, hd, rfl⟩ := List.mem_map.1 hp; exact dotT_length (vecOf_may l d hd))
    have h2 := ofN_length (allV l) 32
    rw [List.length_map] at h1
    have h3 : (vecOf l).length ≤ 32 := h2
    omega
end Go.Proofs.YtoephjmjlhgjeaaDoor
namespace Go.Proofs.YtoephjmjlhgjeaaDoor
/-- Whether a dot may stand next behind others. -/
def fol (l : List D2) (d : D2) : Bool := mayT d && (l.isEmpty || decide ((l.getLastD (0, 0)).1 < d.1))
/-- Dots that may be, of rising replicas. -/
def Rising (l : List D2) : Prop := l.Pairwise (fun a b => a.1 < b.1) ∧ ∀ d ∈ l, mayT d = true
theorem rising_nil : Rising [] := ⟨List.Pairwise.nil, fun _ h => by cases h⟩
theorem rising_snoc (l : List D2) (d : D2) : Rising (l ++ [d]) ↔ Rising l ∧ fol l d = true := by
  unfold Rising fol
  rw [List.pairwise_append, Bool.and_eq_true, Bool.or_eq_true, decide_eq_true_eq]
  constructor
  · rintro ⟨⟨h1, -, h2⟩, h3⟩
    refine ⟨⟨h1, fun x hx => h3 x (List.mem_append.2 (.inl hx))⟩, h3 d (by simp), ?_⟩
    by_cases h : l = []
    · left; rw [h]; rfl
    · right
      obtain ⟨a, b, rfl⟩ := list_snoc l h
      rw [List.getLastD_concat]; exact h2 b (by simp) d (by simp)
  · rintro ⟨⟨h1, h2⟩, h3, h4⟩
    refine ⟨⟨h1, List.pairwise_singleton _ _, fun x hx y hy => ?_⟩, fun x hx => ?_⟩
    · rw [List.mem_singleton.1 hy]
      rcases h4 with h4 | h4
      · rw [List.isEmpty_iff.1 h4] at hx; cases hx
      · obtain ⟨a, b, rfl⟩ := list_snoc l (fun e => by rw [e] at hx; cases hx)
        rw [List.getLastD_concat] at h4
        rcases List.mem_append.1 hx with hx | hx
        · have := (List.pairwise_append.1 h1).2.2 x hx b (by simp); omega
        · rw [List.mem_singleton.1 hx]; exact h4
    · rcases List.mem_append.1 hx with hx | hx
      · exact h2 x hx
      · rw [List.mem_singleton.1 hx]; exact h3
theorem allV_none {l : List D2} {i : Nat} (h : ∀ d ∈ l, d.1 ≠ (i : Int)) : allV l i = 0 := by
  revert h
  refine snoc_ind (P := fun l => (∀ d ∈ l, d.1 ≠ (i : Int)) → allV l i = 0) (fun _ => rfl) ?_ l
  intro l a ih h
  rw [allV_snoc, ih (fun d hd => h d (List.mem_append.2 (.inl hd))), seen, if_neg (fun hh => h a (by simp) hh.2.1)]
theorem ofN_stay {n : Nat → Int} {k : Nat} : ∀ m, k ≤ m → (∀ i, k ≤ i → i < m → n i = 0) → ofN n m = ofN n k := by
  intro m
  induction m with
  | zero => intro h _; rw [show k = 0 by omega]
  | succ m ih =>
    intro h h0
    by_cases e : k = m + 1
    · rw [e]
    · rw [ofN, ih (by omega) (fun i h1 h2 => h0 i h1 (by omega)), h0 m (by omega) (by omega), if_neg (by omega), List.append_nil]
theorem rising_of {l : List D2} (h : Rising l) : ∀ N : Nat, (∀ d ∈ l, d.1 < (N : Int)) → ofN (allV l) N = l := by
  revert h
  refine snoc_ind (P := fun l => Rising l → ∀ N : Nat, (∀ d ∈ l, d.1 < (N : Int)) → ofN (allV l) N = l) ?_ ?_ l
  · intro _ N _
    exact ofN_stay (n := allV []) (k := 0) N (Nat.zero_le _) (fun i _ _ => rfl)
  · intro l d ih h N hN
    have hh := (rising_snoc l d).1 h
    have hm := mayT_bd (h.2 d (by simp))
    have hlt : ∀ x ∈ l, x.1 < d.1 := fun x hx => (List.pairwise_append.1 h.1).2.2 x hx d (by simp)
    obtain ⟨k, hk⟩ : ∃ k : Nat, d.1 = (k : Int) := ⟨d.1.toNat, by omega⟩
    have hkN : k < N := by have := hN d (by simp); omega
    have h0 : allV l k = 0 := allV_none fun x hx => by have := hlt x hx; omega
    have hbig : ∀ i, k + 1 ≤ i → i < N → allV (l ++ [d]) i = 0 := fun i h1 _ => allV_none fun x hx => by
      rcases List.mem_append.1 hx with hx | hx
      · have := hlt x hx; omega
      · rw [List.mem_singleton.1 hx]; omega
    have hd : allV (l ++ [d]) k = d.2 := by
      rw [allV_snoc, h0, seen, if_pos ⟨h.2 d (by simp), hk, by omega⟩]
    rw [ofN_stay (k := k + 1) N (by omega) hbig, ofN, hd, if_pos (by omega)]
    rw [ofN_congr (m := allV l) (fun i hi => by rw [allV_snoc, seen, if_neg (fun hh => by have := hh.2.1; omega)]), ih hh.1 k (fun x hx => by have := hlt x hx; omega), ← hk]
theorem ofN_rising {n : Nat → Int} (h : Cnt n) : ∀ k, k ≤ 32 → Rising (ofN n k) := by
  intro k
  induction k with
  | zero => intro _; exact rising_nil
  | succ k ih =>
    intro hk
    rw [ofN]
    by_cases hp : 0 < n k
    · rw [if_pos hp, rising_snoc]
      refine ⟨ih (by omega), ?_⟩
      have hc := h k (by omega)
      have hm : mayT ((k : Int), n k) = true := decide_eq_true (by simp only; omega)
      rw [fol, hm, Bool.true_and, Bool.or_eq_true, decide_eq_true_eq]
      by_cases e : ofN n k = []
      · left; rw [e]; rfl
      · right
        obtain ⟨a, b, hab⟩ := list_snoc _ e
        rw [hab, List.getLastD_concat]
        obtain ⟨i, h1, h2, -⟩ := ofN_mem (n := n) (k := k) (d := b) (by rw [hab]; simp)
        rw [h2]; simp only; omega
    · rw [if_neg hp, List.append_nil]; exact ih (by omega)
theorem mayV_rising (l : List D2) : mayV l = true ↔ Rising l := by
  rw [mayV, beq_iff_eq]
  constructor
  · intro h; rw [h]; exact ofN_rising (allV_cnt l) 32 (Nat.le_refl _)
  · intro h; exact (rising_of h 32 (fun d hd => by have := mayT_bd (h.2 d hd); omega)).symm
/-- A vector, dot by dot. -/
theorem mayV_take {l : List D2} {k : Nat} {d : D2} (hd : l[k]? = some d) : mayV (l.take (k + 1)) = (mayV (l.take k) && fol (l.take k) d) := by
  obtain ⟨h, rfl⟩ := List.getElem?_eq_some_iff.1 hd
  rw [List.take_add_one, List.getElem?_eq_getElem h, Bool.eq_iff_iff, Bool.and_eq_true, mayV_rising, mayV_rising]
  exact rising_snoc _ _
theorem mayV_ahead {l : List D2} {k : Nat} (h : mayV (l.take k) = false) : mayV l = false := by
  cases hh : mayV l with
  | false => rfl
  | true =>
    have h1 := (mayV_rising l).1 hh
    have : mayV (l.take k) = true := (mayV_rising _).2 ⟨h1.1.sublist (List.take_sublist k l), fun d hd => h1.2 d (List.mem_of_mem_take hd)⟩
    rw [h] at this; cases this
theorem mayV_nil : mayV [] = true := (mayV_rising []).2 rising_nil
theorem rising_length {l : List D2} (h : mayV l = true) : l.length ≤ 32 := by
  rw [mayV, beq_iff_eq] at h
  rw [h]; exact ofN_length _ 32
theorem rising_vec {l : List D2} (h : mayV l = true) : vecOf l = l := by
  rw [mayV, beq_iff_eq] at h; exact h.symm
/-- One more dot is a join. -/
theorem allV_one (d : D2) (i : Nat) : allV [d] i = if mayT d = true ∧ d.1 = (i : Int) then d.2 else 0 := by
  show seen i 0 d = _
  unfold seen
  by_cases h : mayT d = true ∧ d.1 = (i : Int)
  · have := mayT_bd h.1
    rw [if_pos ⟨h.1, h.2, by omega⟩, if_pos h]
  · rw [if_neg (fun hh => h ⟨hh.1, hh.2.1⟩), if_neg h]
theorem with_join (l : List D2) (r q : Int) : joinV l [(r, q)] = withV l r q := ofN_congr fun i _ => by
  rw [joinN, withN_max, allV_one]
  have hb := allV_bd l i
  by_cases h : mayT (r, q) = true ∧ r = (i : Int)
  · rw [if_pos h, if_pos (show mayD r q = true ∧ r = (i : Int) from h)]
  · rw [if_neg h, if_neg (show ¬ (mayD r q = true ∧ r = (i : Int)) from h)]; omega
/-- Pieces from the front. -/
theorem cut_from (c : UInt8) (r : List UInt8) : ∀ ps, r.foldl (cutStep c) (ps, []) = (ps ++ (cutS c r).1, (cutS c r).2) := by
  intro ps
  refine snoc_ind (P := fun r => r.foldl (cutStep c) (ps, []) = (ps ++ (cutS c r).1, (cutS c r).2)) (by simp [cutS]) ?_ r
  intro r b ih
  rw [List.foldl_append, ih, cutS_snoc, List.foldl_cons, List.foldl_nil, cutStep, cutStep]
  by_cases h : b = c
  · rw [if_pos h, if_pos h]; simp
  · rw [if_neg h, if_neg h]
theorem pieces_front {c : UInt8} {p r : List UInt8} (hp : c ∉ p) : piecesB c (p ++ c :: r) = p :: piecesB c r := by
  rw [piecesB, piecesB, cutS, List.foldl_append, cut_fold p _ hp, List.foldl_cons, cutStep, if_pos rfl, cut_from]
  simp
theorem pieces_last {c : UInt8} {p : List UInt8} (hp : c ∉ p) : piecesB c p = [p] := by
  rw [piecesB, cutS, cut_fold p _ hp]; simp
theorem pieces_length (c : UInt8) (s : List UInt8) : (piecesB c s).length ≤ s.length + 1 := by
  have := pieces_count c s
  rw [piecesB, List.length_append, List.length_singleton]; omega
/-- What is read piece by piece: the dots so far, as long as each one may follow. -/
def goodP (ps : List (List UInt8)) : Bool := ps.all (fun p => parErr p == 0) && mayV (ps.map dotOf)
theorem goodP_nil : goodP [] = true := by rw [goodP]; simp [mayV_nil]
theorem goodP_snoc (ps : List (List UInt8)) (p : List UInt8) : goodP (ps ++ [p]) = (goodP ps && (parErr p == 0 && fol (ps.map dotOf) (dotOf p))) := by
  have h : mayV (ps.map dotOf ++ [dotOf p]) = (mayV (ps.map dotOf) && fol (ps.map dotOf) (dotOf p)) := by
    rw [Bool.eq_iff_iff, Bool.and_eq_true, mayV_rising, mayV_rising]; exact rising_snoc _ _
  rw [goodP, List.all_append, List.map_append, List.map_cons, List.map_nil, h, goodP]
  simp only [List.all_cons, List.all_nil, Bool.and_true]
  cases ps.all (fun p => parErr p == 0) <;> cases (parErr p == 0) <;> cases mayV (ps.map dotOf) <;> rfl
theorem goodP_prefix {ps qs : List (List UInt8)} (h : ps <+: qs) (hg : goodP ps = false) : goodP qs = false := by
  obtain ⟨r, rfl⟩ := h
  revert hg
  refine snoc_ind (P := fun r => goodP ps = false → goodP (ps ++ r) = false) (fun h => by rwa [List.append_nil]) ?_ r
  intro r a ih hg
  rw [← List.append_assoc, goodP_snoc, ih hg]; rfl
theorem dotT_dotOf {p : List UInt8} (h : parErr p = 0) : dotT (dotOf p) = p := by
  rcases parErr_cases p with ⟨-, h1⟩ | ⟨h2, -, -⟩
  · exact (text_parse9 h1).2
  · rw [h] at h2; cases h2
theorem isVecT_good (s : List UInt8) : isVecT s = (if s = [45] then true else goodP (piecesB 44 s)) := by
  by_cases h : s = [45]
  · rw [if_pos h, h]; decide +kernel
  · rw [if_neg h]
    have hps : vecPs s = piecesB 44 s := by rw [vecPs, if_neg h]
    rw [Bool.eq_iff_iff]
    constructor
    · intro h1
      have h2 := (text_parseV h1).1
      have h3 : parV s = dotsOf s := by rw [parV, h1]; rfl
      rw [h3, dotsOf, hps] at h2
      rw [isVecT, Bool.and_eq_true, hps] at h1
      rw [goodP, Bool.and_eq_true]; exact ⟨h1.1, h2⟩
    · intro h1
      rw [goodP, Bool.and_eq_true] at h1
      have h4 : vecOf (dotsOf s) = dotsOf s := rising_vec (by rw [dotsOf, hps]; exact h1.2)
      rw [isVecT, Bool.and_eq_true, hps, beq_iff_eq]
      refine ⟨h1.1, ?_⟩
      have h5 : (dotsOf s).map dotT = piecesB 44 s := by
        rw [dotsOf, hps, List.map_map]
        conv => rhs; rw [← List.map_id (piecesB 44 s)]
        exact List.map_congr_left fun p hp => dotT_dotOf (by have := List.all_eq_true.1 h1.1 p hp; simpa using this)
      rw [textV, h4, textL, if_neg (fun e => by rw [e] at h5; simp [piecesB] at h5), h5, join_cut]
theorem par_good {s : List UInt8} (h : s ≠ [45]) (hg : goodP (piecesB 44 s) = true) : parVErr s = 0 ∧ parV s = (piecesB 44 s).map dotOf := by
  have h1 : isVecT s = true := by rw [isVecT_good, if_neg h]; exact hg
  rw [parVErr, parV, h1, dotsOf, vecPs, if_neg h]; exact ⟨rfl, rfl⟩
theorem par_bad {s : List UInt8} (h : s ≠ [45]) (hg : goodP (piecesB 44 s) = false) : parVErr s = 2 ∧ parV s = [] := by
  have h1 : isVecT s = false := by rw [isVecT_good, if_neg h]; exact hg
  rw [parVErr, parV, h1]; exact ⟨rfl, rfl⟩
theorem par_hyphen : parVErr [45] = 0 ∧ parV [45] = [] := by
  have h1 : isVecT [45] = true := by rw [isVecT_good, if_pos rfl]
  rw [parVErr, parV, h1]; exact ⟨rfl, rfl⟩
end Go.Proofs.YtoephjmjlhgjeaaDoor
namespace Go.Proofs.YtoephjmjlhgjeaaDoor
open Go.RowKit
theorem read_bad {s : List UInt8} (h : isNum s = false) (most : Int) : readN s most = 0 ∧ readErr s most = 2 := by simp [readN, readErr, h]
theorem read_over {s : List UInt8} {most : Int} (h : isNum s = true) (hm : most < valN s) : readN s most = 0 ∧ readErr s most = 8 := by simp [readN, readErr, h, hm]
theorem read_good {s : List UInt8} {most : Int} (h : isNum s = true) (hm : ¬ most < valN s) : readN s most = valN s ∧ readErr s most = 0 := by simp [readN, readErr, h, hm]
/-- A number's text begins with no hyphen. -/
theorem num_isNum (s : List UInt8) (hl : 0 < s.length) (h19 : s.length ≤ 19) (hd : ∀ c ∈ s, isDig c = true) (x : Int) (hx : x = IntKind.i64.wrap (valN s)) :
    (numL x == s) = isNum s ∧ (isNum s = true → x = valN s) := by
  have hv := valN_lt s hd
  have h10 : 10 ^ s.length ≤ 10 ^ 19 := Nat.pow_le_pow_right (by decide) h19
  have he : s.isEmpty = false := by cases s with | nil => simp at hl | cons a l => rfl
  have hall : s.all isDig = true := List.all_eq_true.2 hd
  rw [IntKind.wrap_i64] at hx
  by_cases hm : valN s < 9223372036854775808
  · have hx' : x = valN s := by omega
    subst hx'
    exact ⟨by simp [isNum, he, h19, hall, hm, numL_nonneg], fun _ => rfl⟩
  · have hneg : x < 0 := by
      have : (10 : Nat) ^ 19 = 10000000000000000000 := by decide
      omega
    have hn : isNum s = false := by simp [isNum, hm]
    refine ⟨?_, fun h => by rw [hn] at h; cases h⟩
    rw [hn]
    have : numL x = 45 :: digs x.natAbs := by unfold numL; rw [if_pos hneg]
    rw [this]
    cases s with
    | nil => rfl
    | cons a l =>
      have ha := hd a (by simp)
      have : (45 : UInt8) ≠ a := fun h => by rw [← h] at ha; exact absurd ha (by decide)
      simp [this]
theorem wrap_val (s : List UInt8) (k : Nat) (c : UInt8) (hc : s[k]? = some c) (hd : ∀ j, j < k → ∀ c, s[j]? = some c → isDig c = true) (h18 : k ≤ 18) :
    ∃ v : Nat, v = valN (s.take k) ∧ v < 1000000000000000000 ∧ IntKind.i64.wrap (valN (s.take k)) = (v : Int) ∧ valN (s.take (k + 1)) = 10 * v + (c.toNat - 48) := by
  have hk : k < s.length := (List.getElem?_eq_some_iff.1 hc).1
  have hl : (s.take k).length = k := by rw [List.length_take]; omega
  have hv := valN_lt (s.take k) (fun c hc' => by
    obtain ⟨j, hj, rfl⟩ := List.mem_iff_getElem.1 hc'
    rw [hl] at hj
    exact hd j hj _ (by simp [List.getElem_take, show j < s.length from by omega]))
  rw [hl] at hv
  have h10 : 10 ^ k ≤ 10 ^ 18 := Nat.pow_le_pow_right (by decide) h18
  have h18' : (10 : Nat) ^ 18 = 1000000000000000000 := by decide
  refine ⟨_, rfl, by omega, by rw [IntKind.wrap_i64]; omega, ?_⟩
  obtain ⟨_, rfl⟩ := List.getElem?_eq_some_iff.1 hc
  rw [List.take_succ_eq_append_getElem hk, valN_snoc]
theorem wrap_two (v d : Nat) : IntKind.i64.wrap (IntKind.i64.wrap (10 * (v : Int)) + (d : Int)) = IntKind.i64.wrap ((10 * v + d : Nat) : Int) := by
  rw [IntKind.wrap_i64, IntKind.wrap_i64, IntKind.wrap_i64]
  generalize (18446744073709551616 : Int) = M
  generalize (9223372036854775808 : Int) = H
  rw [show (10 * (v : Int) + H) % M - H + (d : Int) + H = (10 * (v : Int) + H) % M + (d : Int) from by omega, Int.emod_add_emod]
  congr 2
  omega
set_option maxRecDepth 100000 in
set_option maxHeartbeats 4000000 in
theorem refRead_any (s : List UInt8) (most : Int) (hs : s.length < 9223372036854775808) (w : World) : Calls Tryd.prog 51 #[.string (str s), .int .i64 most] w fun e w' => e = .returned (.tuple #[.int .i64 (readN s most), .int .i64 (readErr s most)]) ∧ Below w.heap.size w w' := by
  have hsz : (str s).size = s.length := str_size s
  by_cases h0 : s.length = 0
  · obtain ⟨h1, h2⟩ := read_bad (s := s) (by obtain rfl := List.eq_nil_of_length_eq_zero h0; rfl) most
    have HP := Lib.hid (And.intro h1 h2)
    clear h1 h2 hs
    go_enter Tryd.func51, Tryd.ntmps51
    go_wp2_with fail
    go_ret2
    exact ⟨by rw [HP.out.1, HP.out.2]; rfl, Below.refl _ _⟩
  have hne : ((s.length : Int) == 0) = false := by
    rw [beq_eq_false_iff_ne]; omega
  by_cases h19 : 19 < s.length
  · obtain ⟨h1, h2⟩ := read_bad (s := s) (by simp [isNum]; omega) most
    have HP := Lib.hid (And.intro h1 h2)
    have hd : decide (19 < (s.length : Int)) = true := decide_eq_true (by omega)
    clear h1 h2 hs
    go_enter Tryd.func51, Tryd.ntmps51
    go_wp2_with fail
    go_ret2
    exact ⟨by rw [HP.out.1, HP.out.2]; rfl, Below.refl _ _⟩
  have hd19 : decide (19 < (s.length : Int)) = false := decide_eq_false (by omega)
  clear hs
  go_enter Tryd.func51, Tryd.ntmps51
  go_wp2_with fail
  go_loopw [6, 7] (fun x c wr => wr = w ∧ ∃ k : Nat, k ≤ s.length ∧ c = .int .i64 k ∧ x = .int .i64 (IntKind.i64.wrap (valN (s.take k))) ∧ ∀ j, j < k → ∀ c, s[j]? = some c → isDig c = true) (fun _ c _ => s.length - (intOf c).toNat)
  case atStart => exact ⟨rfl, 0, by omega, rfl, by rw [List.take_zero, valN_nil]; rfl, fun j hj => by omega⟩
  case round =>
    obtain ⟨rfl, k, hk, rfl, rfl, hall⟩ := hrel
    have HA := Lib.hid hall
    by_cases hlt : k < s.length
    · obtain ⟨c, hc⟩ : ∃ c, s[k]? = some c := ⟨s[k], List.getElem?_eq_getElem hlt⟩
      obtain ⟨v, hv, hv18, hw1, hv2⟩ := wrap_val s k c hc hall (by omega)
      have i1 := fun w => index_str (P := Tryd.prog) w s .i64 k c hc Tryd.underlying9
      obtain ⟨cn, hcn⟩ : ∃ cn, c.toNat = cn := ⟨_, rfl⟩
      rw [hcn] at i1 hv2
      rw [hw1]
      have HV := Lib.hid (And.intro hc (And.intro hv2 hcn))
      have q0 : (k : Int) < (s.length : Int) := by omega
      by_cases hdg : isDig c = true
      · have hdg' := hdg
        simp only [isDig, hcn, Bool.and_eq_true, decide_eq_true_eq] at hdg'
        have b1 : decide ((cn : Int) < 48) = false := decide_eq_false (by omega)
        have b2 : decide (57 < (cn : Int)) = false := decide_eq_false (by omega)
        obtain ⟨d, hd⟩ : ∃ d : Nat, d = cn - 48 := ⟨_, rfl⟩
        have e1 : (cn : Int) - 48 = (d : Int) := by omega
        have e2 : IntKind.u8.wrap (d : Int) = (d : Int) := by rw [IntKind.wrap_u8]; omega
        have e3 : IntKind.i64.wrap (d : Int) = (d : Int) := by rw [IntKind.wrap_i64]; omega
        obtain ⟨y1, hy1⟩ : ∃ y1, IntKind.i64.wrap (10 * (v : Int)) = y1 := ⟨_, rfl⟩
        obtain ⟨y2, hy2⟩ : ∃ y2, IntKind.i64.wrap (y1 + (d : Int)) = y2 := ⟨_, rfl⟩
        have HY := Lib.hid (show y2 = IntKind.i64.wrap (valN (s.take (k + 1))) by
          rw [hv2, ← hd, ← hy2, ← hy1]; exact wrap_two v d)
        have HDG := Lib.hid hdg
        clear hall hc hv hw1 hv2 hcn hdg hdg' hv18 hd
        go_wp2_with fail
        obtain ⟨hc, hv2, hcn⟩ := HV.out
        refine ⟨⟨trivial, k + 1, by omega, by go_num, by rw [HY.out], fun j hj c' hc' => ?_⟩, by simp [intOf]; omega⟩
        rcases Nat.lt_or_ge j k with h | h
        · exact HA.out j h c' hc'
        · obtain rfl : j = k := by omega
          rw [hc] at hc'; cases hc'; exact HDG.out
      · have hbad : isNum s = false := by
          cases h : isNum s with
          | false => rfl
          | true =>
            simp only [isNum, Bool.and_eq_true, List.all_eq_true] at h
            exact absurd (h.2.1 c (List.mem_of_getElem? hc)) hdg
        obtain ⟨h1, h2⟩ := read_bad hbad most
        have HP := Lib.hid (And.intro h1 h2)
        clear h1 h2 hbad
        have hdg' : cn < 48 ∨ 57 < cn := by
          simp only [isDig, hcn, Bool.and_eq_true, decide_eq_true_eq] at hdg; omega
        clear hall hc hv hw1 hv2 hcn hdg hv18
        rcases hdg' with h | h
        · have b1 : decide ((cn : Int) < 48) = true := decide_eq_true (by omega)
          clear h
          go_wp2_with fail
          go_ret2
          exact ⟨by rw [HP.out.1, HP.out.2]; rfl, Below.refl _ _⟩
        · have b1 : decide ((cn : Int) < 48) = false := decide_eq_false (by omega)
          have b2 : decide (57 < (cn : Int)) = true := decide_eq_true (by omega)
          clear h
          go_wp2_with fail
          go_ret2
          exact ⟨by rw [HP.out.1, HP.out.2]; rfl, Below.refl _ _⟩
    · obtain rfl : k = s.length := by omega
      have hd : ∀ c ∈ s, isDig c = true := fun c hc => by
        obtain ⟨j, hj, rfl⟩ := List.mem_iff_getElem.1 hc
        exact hall j hj _ (List.getElem?_eq_getElem hj)
      rw [List.take_length]
      obtain ⟨x, hx⟩ : ∃ x, x = IntKind.i64.wrap (valN s) := ⟨_, rfl⟩
      obtain ⟨n1, n2⟩ := num_isNum s (by omega) (by omega) hd x hx
      have hxb : -9223372036854775808 ≤ x ∧ x < 9223372036854775808 := by rw [hx, IntKind.wrap_i64]; omega
      have HN := Lib.hid (refNumber_any x hxb.1 hxb.2)
      rw [← hx]
      have hq : decide ((s.length : Int) < (s.length : Int)) = false := decide_eq_false (by omega)
      have hb : ((str (numL x)).toList == (str s).toList) = isNum s := by rw [str_toList, str_toList]; exact n1
      have N2 := Lib.hid n2
      clear hall hd hx n1 n2 hxb HA
      cases hnum : isNum s with
      | false =>
        rw [hnum] at hb
        obtain ⟨h1, h2⟩ := read_bad hnum most
        have HP := Lib.hid (And.intro h1 h2)
        clear h1 h2 hnum
        go_wp2_with (first | (go_at_call 56; refine (HN.out _).mono ?_; rintro e w1 ⟨rfl, hb1⟩))
        go_ret2
        exact ⟨by rw [HP.out.1, HP.out.2]; rfl, hb1⟩
      | true =>
        rw [hnum] at hb
        have hxv := N2.out hnum
        by_cases hmo : most < x
        · obtain ⟨h1, h2⟩ := read_over hnum (show most < (valN s : Int) from hxv ▸ hmo)
          have HP := Lib.hid (And.intro h1 h2)
          have hd : decide (most < x) = true := decide_eq_true hmo
          clear h1 h2 hnum hxv hmo
          go_wp2_with (first | (go_at_call 56; refine (HN.out _).mono ?_; rintro e w1 ⟨rfl, hb1⟩))
          go_ret2
          exact ⟨by rw [HP.out.1, HP.out.2]; rfl, hb1⟩
        · obtain ⟨h1, h2⟩ := read_good hnum (show ¬ most < (valN s : Int) from hxv ▸ hmo)
          rw [← hxv] at h1
          have HP := Lib.hid (And.intro h1 h2)
          have hd : decide (most < x) = false := decide_eq_false hmo
          clear h1 h2 hnum hxv hmo
          go_wp2_with (first | (go_at_call 56; refine (HN.out _).mono ?_; rintro e w1 ⟨rfl, hb1⟩))
          go_ret2
          exact ⟨by rw [HP.out.1, HP.out.2]; rfl, hb1⟩
end Go.Proofs.YtoephjmjlhgjeaaDoor
namespace Go.Proofs.YtoephjmjlhgjeaaDoor
open Go.RowKit
/-- A piece of a text. -/
theorem slice_mid {P : Program} (w : World) (t : TypeId) (s : List UInt8) (f k : Nat) (hf : f ≤ k) (hk : k ≤ s.length) (ht : P.underlying t = some .string) :
    (Instr.slice t (.string (str s)) (some (.int .i64 (f : Int))) (some (.int .i64 (k : Int))) none).run P w = .ok (.string (str ((s.take k).drop f))) w := by
  rw [run_slice_string_if w t (str s) .i64 .i64 f k ht, if_pos ⟨by omega, by rw [str_size]; omega⟩, if_pos ⟨by omega, by omega⟩, Int.toNat_natCast, Int.toNat_natCast]
  congr 2
  unfold str
  rw [ByteArray.extract_mk]
  simp [List.drop_take]
end Go.Proofs.YtoephjmjlhgjeaaDoor
namespace Go.Proofs.YtoephjmjlhgjeaaDoor
open Go.RowKit
/-- Texts as the cells of a slice. -/
def textsL (ls : List (List UInt8)) : List Value := ls.map fun l => Value.string (str l)
theorem textsL_append (x y : List (List UInt8)) : textsL (x ++ y) = textsL x ++ textsL y := by simp [textsL]
theorem textsL_one (ls : List (List UInt8)) : ∀ u ∈ textsL ls, u.oneCell' = true := fun u hu => by
  obtain ⟨l, _, rfl⟩ := List.mem_map.1 hu; rfl
/-- One text appended to a slice of texts of the call's own. -/
theorem append_text {P : Program} {w : World} {ops : Array Oper} {rest : List Oper} {o : Oper} {a : Act} {Q : Exit → Act → World → Prop} (hgd : o.guard = none) (s x : Operand) (t : TypeId)
    (ho : o.op = .call { callee := .builtin .append, args := #[s, x], argTypes := #[t, t] })
    (base : Nat) (e : TypeId) (i : TypeInfo) (ht : P.underlying t = some (.slice e)) (hi : P.info? e = some i) (hz : i.zero = some (.string ByteArray.empty)) (hsize : i.size = 1) (hby : i.bytes = 16)
    (v : Value) (ls : List (List UInt8)) (l : List UInt8) (hs : a.eval s = v) (hown : w.ownsRow base e 1 v ls.length (textsL ls)) (ad : Addr) (c : Nat) (hx : a.eval x = .slice (some ad) 1 c) (hc : w.cell? ad = some (.string (str l)))
    (hlen : ls.length + 1 ≤ 8796093022208) (hbase : base ≤ w.heap.size)
    (h : ∀ v' w', w'.ownsRow base e 1 v' (ls ++ [l]).length (textsL (ls ++ [l])) → w.grownBy w' v.ownBlock → wpList P ops Q rest (a.put o.dst v') w') : wpList P ops Q (o :: rest) a w := by
  have hadd : ad.add 0 = ad := by unfold Addr.add; split <;> simp_all
  refine wpList_append_own w hgd s x t ho base e i (.string ByteArray.empty) 1 16 ht hi hz hsize hby rfl (by decide) v ls.length (textsL ls) hs hown ad 1 c (textsL [l]) hx (by simp [textsL]) (fun j u hj => ?_) (textsL_one [l])
    (by unfold maxLen; omega) (by omega) hbase fun v' w' h1 h2 _ => h v' w' (by rw [textsL_append, List.length_append]; exact h1) h2
  match j, hj with
  | 0, hj =>
    have e : u = .string (str l) := by simpa [textsL] using hj.symm
    rw [hadd, e]; exact hc
end Go.Proofs.YtoephjmjlhgjeaaDoor
namespace Go.Proofs.YtoephjmjlhgjeaaDoor
open Go.RowKit
/-- Two texts one behind the other, as an operation, the whole under a name. -/
theorem add_as {P : Program} {o : Oper} {a : Act} {t rt : TypeId} {x y : Operand} {l m r : List UInt8} (ho : o.op = .binOp .add t x y rt) (hx : a.eval x = .string (str l)) (hy : a.eval y = .string (str m)) (hn : l.length + m.length ≤ 4611686018427387904) (hr : l ++ m = r) :
    ∀ w, (execOp a.eval o).run P w = .ok (.value (.string (str r))) w := by subst hr; exact add_op ho hx hy hn
end Go.Proofs.YtoephjmjlhgjeaaDoor
namespace Go.Proofs.YtoephjmjlhgjeaaDoor
open Go.RowKit
/-- The table of the powers of ten, as strconv lays it. -/
def PowTab (w : World) : Prop := Lib.TabIs Tryd.prog w "internal/strconv.uint64pow10" .u64 Lib.pow10Tab
theorem gPow : Tryd.prog.globalNamed "internal/strconv.uint64pow10" = some 3 := by kernel_rfl
theorem powTab_below {w w' : World} (h : PowTab w) (hb : Below w.heap.size w w') : PowTab w' := by
  unfold PowTab Lib.TabIs World.var? at h ⊢
  rw [gPow] at h ⊢
  simp only [Option.bind_some] at h ⊢
  have hlt : 3 < w.heap.size := by
    rcases Nat.lt_or_ge 3 w.heap.size with h' | h'
    · exact h'
    · rw [Array.getElem?_eq_none h'] at h; cases h
  rw [hb.block _ hlt]
  exact h
end Go.Proofs.YtoephjmjlhgjeaaDoor
namespace Go.Proofs.YtoephjmjlhgjeaaDoor
open Go.RowKit
/-- A dot's cells, just boxed. -/
def dotO (r q : Int) : Obj := .cells #[.int .i64 r, .int .i64 q] 25 (0, 0)
theorem dot_cells {w : World} {g : Nat} {r q : Int} (h : w.heap[g]? = some (dotO r q)) : w.cell? ⟨g, 0, none⟩ = some (.int .i64 r) ∧ w.cell? ⟨g, 1, none⟩ = some (.int .i64 q) :=
  ⟨by rw [cell_of_row _ _ 0 _ _ _ h]; rfl, by rw [cell_of_row _ _ 1 _ _ _ h]; rfl⟩
theorem two_boxes (w : World) (r q r' q' : Int) : ((w.alloc (dotO r q)).alloc (dotO r' q')).heap[w.heap.size]? = some (dotO r q) ∧ ((w.alloc (dotO r q)).alloc (dotO r' q')).heap[w.heap.size + 1]? = some (dotO r' q') := by
  constructor
  · rw [heap_at_alloc, if_neg (by simp)]; exact heap_last _ _
  · have := heap_last (w.alloc (dotO r q)) (dotO r' q'); rwa [World.size_alloc] at this
/-- A dot's own box. -/
theorem one_box (w : World) (r q : Int) : (w.alloc (dotO r q)).heap[w.heap.size]? = some (dotO r q) := heap_last _ _
set_option maxRecDepth 100000 in
set_option maxHeartbeats 4000000 in
theorem refMay_any9 (r q : Int) (w : World) : Calls Tryd.prog 31 #[.agg #[.int .i64 r, .int .i64 q]] w fun e w' => e = .returned (.bool (mayD r q)) ∧ Below w.heap.size w w' := by
  have h1 := one_box w r q
  obtain ⟨c1, c2⟩ := dot_cells h1
  have B0 := Lib.hid ((Below.refl w.heap.size w).alloc (Nat.le_refl _) (dotO r q))
  clear h1
  unfold dotO at *
  go_enter Tryd.func31, Tryd.ntmps31
  go_wp2
  all_goals
    go_ret
    refine ⟨congrArg Ending.returned (show Value.bool _ = Value.bool _ from congrArg Value.bool ?_), B0.out⟩
    unfold mayD
    rw [Bool.eq_iff_iff]
    simp
    try omega
set_option maxRecDepth 100000 in
theorem dot_built (r q : Int) : Tryd.prog.built 25 [(0, .int .i64 r), (1, .int .i64 q)] = some #[.int .i64 r, .int .i64 q] := by rfl
theorem dot_built0 : Tryd.prog.built 25 [] = some #[.int .i64 0, .int .i64 0] := by kernel_rfl
end Go.Proofs.YtoephjmjlhgjeaaDoor
namespace Go.Proofs.YtoephjmjlhgjeaaDoor
open Go.RowKit
set_option maxRecDepth 100000 in
set_option maxHeartbeats 4000000 in
theorem refText_any9 (r q : Int) (hr : -9223372036854775808 ≤ r ∧ r < 9223372036854775808) (hq : -9223372036854775808 ≤ q ∧ q < 9223372036854775808) (w : World) :
    Calls Tryd.prog 46 #[.agg #[.int .i64 r, .int .i64 q]] w fun e w' => e = .returned (.string (str (textD r q))) ∧ Below w.heap.size w w' := by
  have N1 := Lib.hid (refNumber_any r hr.1 hr.2)
  have N2 := Lib.hid (refNumber_any q hq.1 hq.2)
  have HL := Lib.hid (And.intro (numL_length r hr.1 hr.2) (numL_length q hq.1 hq.2))
  obtain ⟨R, hR⟩ : ∃ R, numL r = R := ⟨_, rfl⟩
  obtain ⟨Q, hQ⟩ : ∃ Q, numL q = Q := ⟨_, rfl⟩
  obtain ⟨A1, hA1⟩ : ∃ A1, R ++ [58] = A1 := ⟨_, rfl⟩
  obtain ⟨A2, hA2⟩ : ∃ A2, A1 ++ Q = A2 := ⟨_, rfl⟩
  have HE := Lib.hid (show A2 = textD r q by rw [← hA2, ← hA1, ← hR, ← hQ]; simp [textD])
  have hA := Lib.hid (And.intro hA1 hA2)
  rw [hR] at N1 HL
  rw [hQ] at N2 HL
  have c0 : (w.alloc (.cells #[.int .i64 r, .int .i64 q] 25 (0, 0))).cell? ⟨w.heap.size, 0, none⟩ = some (.int .i64 r) := by rw [cell_of_row _ _ 0 _ _ _ (heap_last w _)]; rfl
  have c1 : (w.alloc (.cells #[.int .i64 r, .int .i64 q] 25 (0, 0))).cell? ⟨w.heap.size, 1, none⟩ = some (.int .i64 q) := by rw [cell_of_row _ _ 1 _ _ _ (heap_last w _)]; rfl
  have B0 := Lib.hid ((Below.refl w.heap.size w).alloc (Nat.le_refl _) (.cells #[.int .i64 r, .int .i64 q] 25 (0, 0)))
  clear hr hq hR hQ hA1 hA2
  go_enter Tryd.func46, Tryd.ntmps46
  go_wp2
  refine wp_region_held_drew (S := fun w' => Below (w.alloc (.cells #[.int .i64 r, .int .i64 q] 25 (0, 0))).heap.size (w.alloc (.cells #[.int .i64 r, .int .i64 q] 25 (0, 0))) w') (by kernel_rfl) (below_draws (Below.refl _ _) 1) (fun hHeld => ?_)
  generalize (w.alloc (.cells #[.int .i64 r, .int .i64 q] 25 (0, 0))).drew = wd at hHeld ⊢
  refine take_at (i := 0) 3 rfl rfl (by kernel_rfl) (by kernel_rfl) (by kernel_rfl) (fun _ _ _ h => h) (sure_yes (by rfl) (fun w => by go_simp; try with_reducible rfl)) hHeld ?_
  simp only [List.setIfInBounds_toArray, List.set_cons_zero, List.set_cons_succ]
  refine take_at (i := 4) 7 rfl rfl (by kernel_rfl) (by kernel_rfl) (by kernel_rfl) (fun _ _ _ h => h) (sure_yes (by rfl) (fun w => by go_simp; try with_reducible rfl)) hHeld ?_
  simp only [List.setIfInBounds_toArray, List.set_cons_zero, List.set_cons_succ]
  refine take_at (i := 1) 4 rfl rfl (by kernel_rfl) (by kernel_rfl) (by kernel_rfl) (fun _ _ _ h => h) (cell_yields (by rfl) 3 (.tmp 3) rfl w.heap.size 0 rfl .i64 r Tryd.underlying3 (fun w' h => (cell_same (h.block w.heap.size (by simp)) 0).trans c0)) hHeld ?_
  simp only [List.setIfInBounds_toArray, List.set_cons_zero, List.set_cons_succ]
  refine take_at (i := 5) 8 rfl rfl (by kernel_rfl) (by kernel_rfl) (by kernel_rfl) (fun _ _ _ h => h) (cell_yields (by rfl) 2 (.tmp 7) rfl w.heap.size 1 rfl .i64 q Tryd.underlying2 (fun w' h => (cell_same (h.block w.heap.size (by simp)) 1).trans c1)) hHeld ?_
  simp only [List.setIfInBounds_toArray, List.set_cons_zero, List.set_cons_succ]
  refine wpAnyH_ready (rs := [2]) (by kernel_rfl) (by simp) ?_
  refine AllReadyH.cons rfl (fun K hK => ?_) AllReadyH.nil
  go_simp
  go_at_call 56
  refine (N1.out _).mono ?_
  rintro e w2 ⟨rfl, hb⟩
  dsimp only
  refine hK.out _ _ (below_next hHeld hb) (fun hHeld => ?_)
  clear hK K hb
  refine take_at (i := 3) 6 rfl rfl (by kernel_rfl) (by kernel_rfl) (by kernel_rfl) (fun _ _ _ h => h) (sure_yes (by rfl) (add_as (l := R) (m := [58]) rfl rfl rfl (by have h1 := HL.out.1; have h2 := HL.out.2; have e1 := congrArg List.length hA.out.1; simp at e1 ⊢; omega) hA.out.1)) hHeld ?_
  simp only [List.setIfInBounds_toArray, List.set_cons_zero, List.set_cons_succ]
  refine wpAnyH_ready (rs := [6]) (by kernel_rfl) (by simp) ?_
  refine AllReadyH.cons rfl (fun K hK => ?_) AllReadyH.nil
  go_simp
  go_at_call 56
  refine (N2.out _).mono ?_
  rintro e w2 ⟨rfl, hb⟩
  dsimp only
  refine hK.out _ _ (below_next hHeld hb) (fun hHeld => ?_)
  clear hK K hb
  refine take_at (i := 7) 10 rfl rfl (by kernel_rfl) (by kernel_rfl) (by kernel_rfl) (fun _ _ _ h => h) (sure_yes (by rfl) (add_as (l := A1) (m := Q) rfl rfl rfl (by have h1 := HL.out.1; have h2 := HL.out.2; have e1 := congrArg List.length hA.out.1; simp at e1 ⊢; omega) hA.out.2)) hHeld ?_
  simp only [List.setIfInBounds_toArray, List.set_cons_zero, List.set_cons_succ]
  refine take_at (i := 8) 2 rfl rfl (by kernel_rfl) (by kernel_rfl) (by kernel_rfl) (fun _ _ _ h => h) (sure_yes (by rfl) (fun w => by go_simp; try with_reducible rfl)) hHeld ?_
  simp only [List.setIfInBounds_toArray, List.set_cons_zero, List.set_cons_succ]
  refine wpAnyH_done (by kernel_rfl) ?_ _
  go_wp2
  go_ret
  exact ⟨by rw [← HE.out]; rfl, below_next B0.out hHeld⟩
end Go.Proofs.YtoephjmjlhgjeaaDoor
namespace Go.Proofs.YtoephjmjlhgjeaaDoor
open Go.RowKit
theorem slice_upto {P : Program} (w : World) (t : TypeId) (s : List UInt8) (k : Nat) (hk : k ≤ s.length) (ht : P.underlying t = some .string) :
    (Instr.slice t (.string (str s)) none (some (.int .i64 (k : Int))) none).run P w = .ok (.string (str (s.take k))) w := by
  rw [run_slice_string_h w t (str s) ht .i64 k (by omega) (by rw [str_size]; omega)]
  congr 2
  unfold str; rw [ByteArray.extract_mk]; simp
theorem slice_rest {P : Program} (w : World) (t : TypeId) (s : List UInt8) (f : Nat) (hf : f ≤ s.length) (ht : P.underlying t = some .string) :
    (Instr.slice t (.string (str s)) (some (.int .i64 (f : Int))) none none).run P w = .ok (.string (str (s.drop f))) w := by
  have h := run_slice_string_l w t (str s) ht .i64 f (by omega) (by rw [str_size]; omega)
  have e : (str s).extract (f : Int).toNat (str s).size = str (s.drop f) := by
    rw [str_size]; unfold str; rw [ByteArray.extract_mk, List.take_of_length_le (by simp)]; simp
  rw [e] at h; exact h
/-- The first colon's place. -/
theorem ahead_at {s : List UInt8} {k : Nat} (hk : k < s.length) (h58 : s.getD k 0 = 58) (hno : ∀ j, j < k → s.getD j 0 ≠ 58) : aheadD s = s.take k ∧ behindD s = s.drop (k + 1) ∧ s.contains 58 = true := by
  have e : s = s.take k ++ 58 :: s.drop (k + 1) := by
    have h1 : s[k] = 58 := by rw [← h58]; simp [hk]
    rw [← h1, ← List.drop_eq_getElem_cons hk, List.take_append_drop]
  have hn : (58 : UInt8) ∉ s.take k := fun hm => by
    obtain ⟨j, hj, he⟩ := List.mem_iff_getElem.1 hm
    rw [List.length_take] at hj
    rw [List.getElem_take] at he
    exact hno j (by omega) (by rw [List.getD_eq_getElem?_getD, List.getElem?_eq_getElem (by omega), he]; rfl)
  obtain ⟨a1, a2⟩ := ahead_of (s.take k) (s.drop (k + 1)) hn
  rw [← e] at a1 a2
  exact ⟨a1, a2, by rw [List.contains_iff_mem, e]; simp⟩
theorem no_colon {s : List UInt8} (hno : ∀ j, j < s.length → s.getD j 0 ≠ 58) : isDot s = false := by
  have : s.contains 58 = false := by
    rw [Bool.eq_false_iff, ne_eq, List.contains_iff_mem]
    intro hm
    obtain ⟨j, hj, he⟩ := List.mem_iff_getElem.1 hm
    exact hno j hj (by rw [List.getD_eq_getElem?_getD, List.getElem?_eq_getElem hj, he]; rfl)
  rw [isDot, this]; rfl
theorem row_kept {g : Nat} {A B : World} {o : Obj} (h : A.heap[g]? = some o) (hb : Below A.heap.size A B) : B.heap[g]? = some o := (hb.block g (Array.getElem?_eq_some_iff.1 h).1).trans h
theorem dot_one (x y : Int) : (#[Value.int .i64 x, Value.int .i64 y] : Array Value).all (·.oneCell') = true := by simp [Value.oneCell']
set_option maxRecDepth 100000 in
set_option maxHeartbeats 8000000 in
theorem refParse_any9 (s : List UInt8) (hs : s.length < 4611686018427387904) (w : World) : Calls Tryd.prog 39 #[.string (str s)] w fun e w' => e = .returned (.tuple #[.agg #[.int .i64 (parR s), .int .i64 (parQ s)], .int .i64 (parErr s)]) ∧ Below w.heap.size w w' := by
  obtain ⟨n, hn⟩ : ∃ n, n = s.length := ⟨_, rfl⟩
  have HN := Lib.hid hn
  have hsz : (str s).size = n := by rw [str_size, hn]
  have HS := Lib.hid hs
  have B0 := Lib.hid ((Below.refl w.heap.size w).alloc (Nat.le_refl _) (.cells #[.int .i64 0, .int .i64 0] 25 (0, 0)))
  have H0 := Lib.hid (heap_last w (.cells #[.int .i64 0, .int .i64 0] 25 (0, 0)))
  have HZ := Lib.hid (show (w.alloc (.cells #[.int .i64 0, .int .i64 0] 25 (0, 0))).heap.size = w.heap.size + 1 by simp)
  rw [← hn] at hs
  clear hn
  go_enter Tryd.func39, Tryd.ntmps39
  go_upto_region 1 with fail
  generalize w.alloc (.cells #[.int .i64 0, .int .i64 0] 25 (0, 0)) = W0 at *
  go_wp2
  go_loopw [4] (fun i wr => W0 = wr ∧ ∃ k : Nat, k ≤ n ∧ i = .int .i64 k ∧ ∀ j, j < k → s.getD j 0 ≠ 58) (fun i _ => n - (intOf i).toNat)
  case atStart => exact ⟨rfl, 0, by omega, rfl, fun j hj => by omega⟩
  case round =>
    obtain ⟨rfl, k, hk, rfl, hall⟩ := hrel
    have HA := Lib.hid hall
    clear hall
    by_cases hlt : k < n
    · obtain ⟨c, hc⟩ : ∃ c, s[k]? = some c := ⟨s[k]'(by have := HN.out; omega), List.getElem?_eq_getElem _⟩
      have i1 := fun w => index_str (P := Tryd.prog) w s .i64 k c hc Tryd.underlying9
      obtain ⟨x, hx⟩ : ∃ x, c.toNat = x := ⟨_, rfl⟩
      rw [hx] at i1
      have HX := Lib.hid (And.intro (show s.getD k 0 = c by rw [List.getD_eq_getElem?_getD, hc]; rfl) hx)
      have q1 : (k : Int) < (n : Int) := by omega
      by_cases h58 : x = 58
      · subst h58
        have hcc : s.getD k 0 = 58 := by rw [HX.out.1]; exact UInt8.toNat_inj.1 HX.out.2
        obtain ⟨a1, a2, a3⟩ := ahead_at (by rw [← HN.out]; exact hlt) hcc HA.out
        have q2 : ((k : Int) == (n : Int)) = false := by rw [beq_eq_false_iff_ne]; omega
        have s1 : ∀ w, (Instr.slice 9 (.string (str s)) none (some (.int .i64 (k : Int))) none).run Tryd.prog w = .ok (.string (str (aheadD s))) w := fun w => by rw [a1]; exact slice_upto w 9 s k (by rw [← HN.out]; exact hk) Tryd.underlying9
        have s2 : ∀ w, (Instr.slice 9 (.string (str s)) (some (.int .i64 ((k + 1 : Nat) : Int))) none none).run Tryd.prog w = .ok (.string (str (behindD s))) w := fun w => by rw [a2]; exact slice_rest w 9 s (k + 1) (by rw [← HN.out]; exact hlt) Tryd.underlying9
        have hk1 : wrap64 ((k : Int) + 1) = ((k + 1 : Nat) : Int) := by rw [wrap64]; omega
        have RA := Lib.hid (fun w => refRead_any (aheadD s) 31 (by rw [a1, List.length_take, ← HN.out]; omega) w)
        have RB := Lib.hid (fun w => refRead_any (behindD s) 1099511627776 (by rw [a2, List.length_drop, ← HN.out]; omega) w)
        have HD := Lib.hid (show isDot s = (readErr (aheadD s) 31 == 0 && (readErr (behindD s) 1099511627776 == 0 && mayD (readN (aheadD s) 31) (readN (behindD s) 1099511627776))) by rw [isDot, a3, Bool.true_and])
        have HP := Lib.hid (show parErr s = (if isDot s then 0 else 2) ∧ parR s = (if isDot s then readN (aheadD s) 31 else 0) ∧ parQ s = (if isDot s then readN (behindD s) 1099511627776 else 0) from ⟨rfl, rfl, rfl⟩)
        obtain ⟨X, hX⟩ : ∃ X, aheadD s = X := ⟨_, rfl⟩
        obtain ⟨Y, hY⟩ : ∃ Y, behindD s = Y := ⟨_, rfl⟩
        rw [hX] at s1 RA HD HP
        rw [hY] at s2 RB HD HP
        obtain ⟨r, hr⟩ : ∃ r, readN X 31 = r := ⟨_, rfl⟩
        obtain ⟨q, hq⟩ : ∃ q, readN Y 1099511627776 = q := ⟨_, rfl⟩
        obtain ⟨e1, he1⟩ : ∃ e, readErr X 31 = e := ⟨_, rfl⟩
        obtain ⟨e2, he2⟩ : ∃ e, readErr Y 1099511627776 = e := ⟨_, rfl⟩
        rw [hr, he1] at RA
        rw [hq, he2] at RB
        rw [hr, hq, he1, he2] at HD
        rw [hr, hq] at HP
        obtain ⟨k1, hk1'⟩ : ∃ k1, k1 = k + 1 := ⟨_, rfl⟩
        rw [← hk1'] at s2 hk1
        have M1 := Lib.hid (fun w => refMay_any9 r q w)
        clear hX hY hr hq he1 he2 a1 a2 a3 hcc hlt hk hk1' hc hx hs
        go_upto_region 7 with (first | (go_at_call 51; refine (RA.out _).mono ?_; rintro e w3 ⟨rfl, hb⟩; have G3 := Lib.hid (row_kept H0.out hb); have B3 := Lib.hid (B0.out.trans (hb.mono B0.out.size)); clear hb))
        go_upto_region 8 with (first | (go_at_call 51; refine (RB.out _).mono ?_; rintro e w4 ⟨rfl, hb⟩; have G4 := Lib.hid (row_kept G3.out hb); have B4 := Lib.hid (below_next B3.out hb); clear hb))
        go_upto_region 9 with (first | (refine build_on (by rfl) 25 #[(0, .tmp 42), (1, .tmp 43)] rfl _ _ (dot_built _ _) (by simp [Act.eval]) ?_))
        have H5 := Lib.hid (heap_last w4 (.cells #[.int .i64 r, .int .i64 q] 25 (0, 0)))
        have G5 := Lib.hid (row_kept G4.out ((Below.refl w4.heap.size w4).alloc (Nat.le_refl _) (.cells #[.int .i64 r, .int .i64 q] 25 (0, 0))))
        have B5 := Lib.hid (B4.out.alloc B4.out.size (.cells #[.int .i64 r, .int .i64 q] 25 (0, 0)))
        generalize w4.alloc (.cells #[.int .i64 r, .int .i64 q] 25 (0, 0)) = W5 at *
        by_cases z1 : e1 = 0
        · subst z1
          by_cases z2 : e2 = 0
          · subst z2
            cases hm : mayD r q with
            | true =>
              have hd : isDot s = true := by rw [HD.out, hm]; rfl
              have HR := Lib.hid (show parR s = r ∧ parQ s = q ∧ parErr s = 0 by have h := HP.out; rw [hd] at h; exact ⟨h.2.1, h.2.2, h.1⟩)
              rw [hm] at M1
              clear hd hm
              go_wp2_with (first
                | (refine load_row_on (by rfl) 25 (.tmp 9) rfl w4.heap.size rfl 25 _ (0, 0) _ H5.out Tryd.underlying25 rfl (by kernel_rfl) ?_)
                | (go_at_call 31; refine (M1.out _).mono ?_; rintro e w6 ⟨rfl, hb⟩; have G6 := Lib.hid (row_kept G5.out hb); have H6 := Lib.hid (row_kept H5.out hb); have B6 := Lib.hid (below_next B5.out hb); clear hb)
                | (refine load_row_on (by rfl) 25 (.tmp 9) rfl w4.heap.size rfl 25 _ (0, 0) _ H6.out Tryd.underlying25 rfl (by kernel_rfl) ?_)
                | (refine wpList_store_row rfl 25 (.tmp 2) (.tmp 57) rfl w.heap.size _ rfl rfl 25 _ G6.out (by kernel_rfl) rfl (dot_one _ _) ?_))
              exact bodyPost_ret (results_cell2 Tryd.results39 _ _ w.heap.size 25 _ (0, 0) _ _ rfl rfl (setRow_heap _ _ _ _ _ _ G6.out) Tryd.underlying25 rfl (by kernel_rfl)) rfl ⟨by rw [HR.out.1, HR.out.2.1, HR.out.2.2]; rfl, below_setRow B6.out (Nat.le_refl _) _⟩
            | false =>
              have hd : isDot s = false := by rw [HD.out, hm]; rfl
              have HR := Lib.hid (show parR s = 0 ∧ parQ s = 0 ∧ parErr s = 2 by have h := HP.out; rw [hd] at h; exact ⟨h.2.1, h.2.2, h.1⟩)
              rw [hm] at M1
              clear hd hm
              go_wp2_with (first
                | (refine load_row_on (by rfl) 25 (.tmp 9) rfl w4.heap.size rfl 25 _ (0, 0) _ H5.out Tryd.underlying25 rfl (by kernel_rfl) ?_)
                | (go_at_call 31; refine (M1.out _).mono ?_; rintro e w6 ⟨rfl, hb⟩; have G6 := Lib.hid (row_kept G5.out hb); have H6 := Lib.hid (row_kept H5.out hb); have B6 := Lib.hid (below_next B5.out hb); clear hb)
                | (refine build_on (by rfl) 25 #[] rfl _ _ dot_built0 (by simp [Act.eval]) ?_)
                | (refine wpList_store_row rfl 25 (.tmp 2) (.tmp 56) rfl w.heap.size _ rfl rfl 25 _ G6.out (by kernel_rfl) rfl (dot_one _ _) ?_))
              exact bodyPost_ret (results_cell2 Tryd.results39 _ _ w.heap.size 25 _ (0, 0) _ _ rfl rfl (setRow_heap _ _ _ _ _ _ G6.out) Tryd.underlying25 rfl (by kernel_rfl)) rfl ⟨by rw [HR.out.1, HR.out.2.1, HR.out.2.2]; rfl, below_setRow B6.out (Nat.le_refl _) _⟩
          · have t2 : (e2 != 0) = true := bne_iff_ne.2 z2
            have hd : isDot s = false := by rw [HD.out, show (e2 == 0) = false from beq_eq_false_iff_ne.2 z2]; simp
            have HR := Lib.hid (show parR s = 0 ∧ parQ s = 0 ∧ parErr s = 2 by have h := HP.out; rw [hd] at h; exact ⟨h.2.1, h.2.2, h.1⟩)
            clear z2 hd
            go_wp2_with (first
              | (refine build_on (by rfl) 25 #[] rfl _ _ dot_built0 (by simp [Act.eval]) ?_)
              | (refine wpList_store_row rfl 25 (.tmp 2) (.tmp 56) rfl w.heap.size _ rfl rfl 25 _ G5.out (by kernel_rfl) rfl (dot_one _ _) ?_))
            exact bodyPost_ret (results_cell2 Tryd.results39 _ _ w.heap.size 25 _ (0, 0) _ _ rfl rfl (setRow_heap _ _ _ _ _ _ G5.out) Tryd.underlying25 rfl (by kernel_rfl)) rfl ⟨by rw [HR.out.1, HR.out.2.1, HR.out.2.2]; rfl, below_setRow B5.out (Nat.le_refl _) _⟩
        · have t1 : (e1 != 0) = true := bne_iff_ne.2 z1
          have hd : isDot s = false := by rw [HD.out, show (e1 == 0) = false from beq_eq_false_iff_ne.2 z1]; simp
          have HR := Lib.hid (show parR s = 0 ∧ parQ s = 0 ∧ parErr s = 2 by have h := HP.out; rw [hd] at h; exact ⟨h.2.1, h.2.2, h.1⟩)
          clear z1 hd
          go_wp2_with (first
            | (refine build_on (by rfl) 25 #[] rfl _ _ dot_built0 (by simp [Act.eval]) ?_)
            | (refine wpList_store_row rfl 25 (.tmp 2) (.tmp 56) rfl w.heap.size _ rfl rfl 25 _ G5.out (by kernel_rfl) rfl (dot_one _ _) ?_))
          exact bodyPost_ret (results_cell2 Tryd.results39 _ _ w.heap.size 25 _ (0, 0) _ _ rfl rfl (setRow_heap _ _ _ _ _ _ G5.out) Tryd.underlying25 rfl (by kernel_rfl)) rfl ⟨by rw [HR.out.1, HR.out.2.1, HR.out.2.2]; rfl, below_setRow B5.out (Nat.le_refl _) _⟩
      · have t2 : ((x : Int) != 58) = true := by rw [bne_iff_ne]; omega
        have HD := Lib.hid (show s.getD k 0 ≠ 58 from fun e => by rw [HX.out.1] at e; rw [e] at HX; exact h58 HX.out.2.symm)
        clear h58 hc hx
        go_wp2
        go_roundw
        case rel => exact ⟨trivial, k + 1, by omega, by go_num, fun j h2 => by
          rcases Nat.lt_or_ge j k with h | h
          · exact HA.out j h
          · obtain rfl : j = k := by omega
            exact HD.out⟩
        case measure => simp [intOf]; omega
    · obtain rfl : k = n := by omega
      have hd := no_colon (s := s) (fun j hj => HA.out j (by rw [HN.out]; exact hj))
      have HR := Lib.hid (show parR s = 0 ∧ parQ s = 0 ∧ parErr s = 2 by rw [parR, parQ, parErr, hd]; exact ⟨rfl, rfl, rfl⟩)
      clear hd hlt
      have G5 := Lib.hid H0.out
      go_wp2_with (first
        | (refine build_on (by rfl) 25 #[] rfl _ _ dot_built0 (by simp [Act.eval]) ?_)
        | (refine wpList_store_row rfl 25 (.tmp 2) (.tmp 26) rfl w.heap.size _ rfl rfl 25 _ G5.out (by kernel_rfl) rfl (dot_one _ _) ?_))
      exact bodyPost_ret (results_cell2 Tryd.results39 _ _ w.heap.size 25 _ (0, 0) _ _ rfl rfl (setRow_heap _ _ _ _ _ _ G5.out) Tryd.underlying25 rfl (by kernel_rfl)) rfl ⟨by rw [HR.out.1, HR.out.2.1, HR.out.2.2]; rfl, below_setRow B0.out (Nat.le_refl _) _⟩
end Go.Proofs.YtoephjmjlhgjeaaDoor
namespace Go.Proofs.YtoephjmjlhgjeaaDoor
open Go.RowKit Go.Shelf
attribute [local go_sem] Oper.semAt_some
/-- A piece no longer than the text. -/
abbrev Pc (s : List UInt8) := { p : List UInt8 // p.length ≤ s.length }
theorem comma_first (t : List UInt8) : (Lib.indexByte t 44 = -1 ∧ piecesB 44 t = [t]) ∨ ∃ o : Nat, o < t.length ∧ Lib.indexByte t 44 = (o : Int) ∧ piecesB 44 t = t.take o :: piecesB 44 (t.drop (o + 1)) := by
  have hge := Lib.indexByte_ge t 44
  by_cases h : Lib.indexByte t 44 = -1
  · have hn : (44 : UInt8) ∉ t := fun hm => by
      obtain ⟨j, hj, e⟩ := List.mem_iff_getElem.1 hm
      exact absurd (by rw [List.getElem?_eq_getElem hj, e]) (Lib.indexByte_none h j)
    exact .inl ⟨h, pieces_last hn⟩
  · obtain ⟨k, hk⟩ : ∃ k : Nat, Lib.indexByte t 44 = (k : Int) := ⟨(Lib.indexByte t 44).toNat, by omega⟩
    obtain ⟨h1, h2⟩ := Lib.indexByte_some hk
    obtain ⟨hlt, he⟩ := List.getElem?_eq_some_iff.1 h1
    refine .inr ⟨k, hlt, hk, ?_⟩
    have hn : (44 : UInt8) ∉ t.take k := fun hm => by
      obtain ⟨j, hj, e⟩ := List.mem_iff_getElem.1 hm
      rw [List.length_take] at hj
      refine h2 j (by omega) ?_
      rw [List.getElem_take] at e
      rw [List.getElem?_eq_getElem (by omega), e]
    have hs : t = t.take k ++ 44 :: t.drop (k + 1) := by
      conv => lhs; rw [← List.take_append_drop k t]
      rw [List.drop_eq_getElem_cons hlt, he]
    conv => lhs; rw [hs]
    exact pieces_front hn
/-- How long the text in a cell is. -/
def cellLen (B : Nat) (W : World) : Nat := match W.cell? ⟨B, 0, none⟩ with | some (.string b) => b.size | _ => 0
theorem cellLen_one {B : Nat} {W : World} {t : TypeId} {b : ByteArray} (h : W.heap[B]? = some (.cells #[.string b] t (0, 0))) : cellLen B W = b.size := by
  unfold cellLen; rw [cell_of_one h]
theorem seq10_wraps (o m O : Nat) (h : o < m) (hm : m < 1152921504606846976) (hO : O = o + 1) : wrap64 ((o : Int) + 1) = (O : Int) ∧ wrap64 ((o : Int) + 0) = (o : Int) ∧ decide ((o : Int) < 0) = false := by
  refine ⟨?_, ?_, decide_eq_false (by omega)⟩ <;> rw [wrap64] <;> omega
theorem drop_step (s : List UInt8) (f o O m k : Nat) (hm : m = s.length) (hlt : o < (s.drop f).length) (hO : O = o + 1) (hf : f ≤ m) (hk : k ≤ f + 1) : f + O ≤ m ∧ (s.drop f).drop O = s.drop (f + O) ∧ ((s.drop f).drop O).length < (s.drop f).length ∧ k ≤ f + O := by
  rw [List.length_drop] at hlt
  exact ⟨by omega, List.drop_drop, by simp only [List.length_drop]; omega, by omega⟩
set_option maxRecDepth 100000 in
set_option maxHeartbeats 8000000 in
theorem splitSeq_in (n : Nat) (hn : 1 ≤ n) (l B : Nat) (s : List UInt8) (hs : s.length < 1152921504606846976) (J Jx : List (Pc s) → World → Prop) (hJ : AbidesSet B J)
    (hY : ∀ pre x W, J pre W → pre.length < s.length + 1 → YieldAt Fence.wide (n - 1) Tryd.prog l #[.string (str x.1)] W fun e W' =>
      (e = .returned (.bool true) ∧ J (pre ++ [x]) W' ∧ Keep3 B W W') ∨ (e = .returned (.bool false) ∧ Jx (pre ++ [x]) W'))
    (W : World) (hB0 : W.heap[B]? = some (.cells #[.string (str s)] 9 (0, 0))) (hB1 : W.heap[B + 1]? = some (.cells #[.string ⟨#[44]⟩] 9 (0, 0))) (hB2 : W.heap[B + 2]? = some (.cells #[.int .i64 0] 3 (0, 0))) (h0 : J [] W) :
    CallsIn Fence.wide n Tryd.prog 57 #[.func (.yield l) #[] #[], .pointer (some ⟨B + 1, 0, none⟩), .pointer (some ⟨B, 0, none⟩), .pointer (some ⟨B + 2, 0, none⟩)] W fun e W' => (∃ v, e = .returned v) ∧
      ((∃ ys : List (Pc s), ys.map (·.1) = piecesB 44 s ∧ J ys W') ∨ (∃ pre : List (Pc s), pre.map (·.1) <+: piecesB 44 s ∧ Jx pre W')) := by
  obtain ⟨m, hm⟩ : ∃ m, m = s.length := ⟨_, rfl⟩
  have HM := Lib.hid hm
  rw [← hm] at hs
  have HMS := Lib.hid hs
  have s2 : (ByteArray.mk #[44]).size = 1 := rfl
  have c1 := cell_of_one hB1
  clear hm hs
  refine callsIn_of_wp Tryd.func57 rfl trivial ?_ rfl
  simp only [Tryd.ntmps57, List.size_toArray, List.length_cons, List.length_nil, Nat.reduceAdd, Nat.reduceSub, Array.replicate_succ, Array.replicate_zero, List.push_toArray, List.append_toArray, List.nil_append, List.cons_append]
  gi_wp2
  gi_loopw [7] (fun x wr => ∃ (f : Nat) (pre : List (Pc s)), f ≤ m ∧ pre.map (·.1) ++ piecesB 44 (s.drop f) = piecesB 44 s ∧ pre.length ≤ f ∧ J pre wr ∧ wr.heap[B]? = some (.cells #[.string (str (s.drop f))] 9 (0, 0)) ∧ wr.heap[B + 1]? = some (.cells #[.string ⟨#[44]⟩] 9 (0, 0)) ∧ wr.heap[B + 2]? = some (.cells #[.int .i64 0] 3 (0, 0)))
    (fun _ wr => cellLen B wr)
  case atStart => exact ⟨0, [], by omega, rfl, Nat.le_refl _, h0, hB0, hB1, hB2⟩
  case round =>
    obtain ⟨f, pre, hfm, hpc, hpl, hj, b0, b1, b2⟩ := hrel
    have HPC := Lib.hid (And.intro hpc hpl)
    have hpre : pre.length < s.length + 1 := by have := HM.out; omega
    have HB := Lib.hid (And.intro b0 (And.intro b1 b2))
    have c0 := cell_of_one b0
    have c1 := cell_of_one b1
    have c2 := cell_of_one b2
    have HX := Lib.hid (show ∀ w, Calls Tryd.prog 59 #[.string (str (s.drop f)), .string ⟨#[44]⟩] w fun e w' => e = .returned (.int .i64 (Lib.indexByte (s.drop f) 44)) ∧ w = w' from fun w => by
      refine (Tryd.strings_Index_one (str (s.drop f)) 44 w).mono fun e w' h => ?_
      rw [show (str (s.drop f)).data.toList = s.drop f from by simp [str]] at h
      exact ⟨h.1, h.2.symm⟩)
    rcases comma_first (s.drop f) with ⟨hix, hmk⟩ | ⟨o, hlt, hix, hmk⟩
    · rw [hix] at HX
      obtain ⟨p, hp⟩ : ∃ p : Pc s, p.1 = s.drop f := ⟨⟨s.drop f, by simp⟩, rfl⟩
      have HE := Lib.hid (show (pre ++ [p]).map (·.1) = piecesB 44 s by
        rw [← HPC.out.1, List.map_append, List.map_cons, List.map_nil, hp, hmk])
      obtain ⟨fn, tmps, assign, body, hy, hR⟩ := hY pre p wr hj hpre
      rw [hp] at hy
      clear hp hpl hix hmk hpc b0 b1 b2 hpre
      gi_wp2_with (refine ⟨trivial, ?_⟩; gi_at_call 59; refine (callsIn_wide.2 (HX.out _)).mono ?_; rintro e w' ⟨rfl, rfl⟩)
      refine hR.mono ?_
      rintro e W3 (⟨rfl, hJ3, hk3⟩ | ⟨rfl, hJx3⟩)
      · gi_wp2
        refine bodyPost_end (results_none rfl _ _ _) rfl ?_
        exact ⟨⟨_, rfl⟩, .inl ⟨pre ++ [p], HE.out, hJ3⟩⟩
      · gi_wp2
        refine bodyPost_end (results_none rfl _ _ _) rfl ?_
        exact ⟨⟨_, rfl⟩, .inr ⟨pre ++ [p], by rw [HE.out]; exact List.prefix_refl _, hJx3⟩⟩
    · rw [hix] at HX
      obtain ⟨p, hp⟩ : ∃ p : Pc s, p.1 = (s.drop f).take o := ⟨⟨(s.drop f).take o, by rw [List.length_take, List.length_drop]; omega⟩, rfl⟩
      obtain ⟨O, hO⟩ : ∃ O : Nat, O = o + 1 := ⟨_, rfl⟩
      have hlm : o < m := by rw [List.length_drop] at hlt; have := HM.out; omega
      have HG := Lib.hid (drop_step s f o O m (pre ++ [p]).length HM.out hlt hO hfm (by rw [List.length_append, List.length_singleton]; omega))
      have ho' : o ≤ (s.drop f).length := Nat.le_of_lt hlt
      have hO' : O ≤ (s.drop f).length := by rw [hO]; exact hlt
      obtain ⟨w1, w2, d0⟩ := seq10_wraps o m O hlm HMS.out hO
      have w3 : wrap64 (o : Int) = (o : Int) := by rw [Int.add_zero] at w2; exact w2
      have sl1 : ∀ w, (Instr.slice 9 (.string (str (s.drop f))) none (some (.int .i64 (o : Int))) none).run Tryd.prog w = .ok (.string (str ((s.drop f).take o))) w := fun w => slice_upto w 9 (s.drop f) o ho' Tryd.underlying9
      have sl2 : ∀ w, (Instr.slice 9 (.string (str (s.drop f))) (some (.int .i64 (O : Int))) none none).run Tryd.prog w = .ok (.string (str ((s.drop f).drop O))) w := fun w => slice_rest w 9 (s.drop f) O hO' Tryd.underlying9
      have HE := Lib.hid (show (pre ++ [p]).map (·.1) ++ piecesB 44 ((s.drop f).drop O) = piecesB 44 s by
        rw [← HPC.out.1, List.map_append, List.map_cons, List.map_nil, hp, hmk, hO, List.append_assoc]; rfl)
      obtain ⟨fn, tmps, assign, body, hy, hR⟩ := hY pre p wr hj hpre
      rw [hp] at hy
      obtain ⟨X, hX⟩ : ∃ X, X = s.drop f := ⟨_, rfl⟩
      rw [← hX] at HX sl1 sl2 HE HG c0 HB hy
      obtain ⟨Y, hY1⟩ : ∃ Y, Y = X.take o := ⟨_, rfl⟩
      rw [← hY1] at sl1 hy
      obtain ⟨Z, hZ⟩ : ∃ Z, Z = X.drop O := ⟨_, rfl⟩
      rw [← hZ] at sl2 HE HG
      clear hp hpl hix hmk hpc b0 b1 b2 hlt hO hlm ho' hO' hpre hX hY1 hZ
      gi_wp2_with (refine ⟨trivial, ?_⟩; gi_at_call 59; refine (callsIn_wide.2 (HX.out _)).mono ?_; rintro e w' ⟨rfl, rfl⟩)
      refine hR.mono ?_
      rintro e W3 (⟨rfl, hJ3, hk3⟩ | ⟨rfl, hJx3⟩)
      · have b0 := (hk3 B (Nat.le_refl _) (by omega)).trans HB.out.1
        have b1 := (hk3 (B + 1) (by omega) (by omega)).trans HB.out.2.1
        have b2 := (hk3 (B + 2) (by omega) (by omega)).trans HB.out.2.2
        have c0 := cell_of_one b0
        have f0 := free_of_one b0
        have c1 := cell_of_one b1
        have HN := Lib.hid (And.intro (one_setCell (u := .string (str Z)) b0) (And.intro ((heap_setCell_other W3 ⟨B, 0, none⟩ (B + 1) (.string (str Z)) (by show B + 1 ≠ B; omega)).trans b1) (And.intro ((heap_setCell_other W3 ⟨B, 0, none⟩ (B + 2) (.string (str Z)) (by show B + 2 ≠ B; omega)).trans b2) (hJ _ W3 (.string (str Z)) hJ3))))
        clear b0 b1 b2 hk3
        gi_wp2
        go_roundw
        case rel => exact ⟨f + O, pre ++ [p], HG.out.1, by rw [← HG.out.2.1]; exact HE.out, HG.out.2.2.2, HN.out.2.2.2, by rw [← HG.out.2.1]; exact HN.out.1, HN.out.2.1, HN.out.2.2.1⟩
        case measure => rw [cellLen_one HN.out.1, cellLen_one HB.out.1, str_size, str_size]; exact HG.out.2.2.1
      · gi_wp2
        refine bodyPost_ret (results_none rfl _ _ _) rfl ?_
        exact ⟨⟨_, rfl⟩, .inr ⟨pre ++ [p], ⟨_, HE.out⟩, hJx3⟩⟩
theorem seq10 (n : Nat) (hn : 1 ≤ n) (B : Nat) (s : List UInt8) (hs : s.length < 1152921504606846976) (w : World) (hB : B + 3 ≤ w.heap.size) (hB0 : w.heap[B]? = some (.cells #[.string (str s)] 9 (0, 0))) (hB1 : w.heap[B + 1]? = some (.cells #[.string ⟨#[44]⟩] 9 (0, 0))) (hB2 : w.heap[B + 2]? = some (.cells #[.int .i64 0] 3 (0, 0))) :
    SeqCell Fence.wide n Tryd.prog 57 #[.pointer (some ⟨B + 1, 0, none⟩), .pointer (some ⟨B, 0, none⟩), .pointer (some ⟨B + 2, 0, none⟩)] (fun x : Pc s => #[.string (str x.1)]) B (fun xs => xs.map (·.1) = piecesB 44 s) (fun pre => pre.map (·.1) <+: piecesB 44 s) (s.length + 1) w := fun l J Jx W hW hJ hY h0 =>
  splitSeq_in n hn l B s hs J Jx hJ hY W ((hW.block B (by omega)).trans hB0) ((hW.block (B + 1) (by omega)).trans hB1) ((hW.block (B + 2) (by omega)).trans hB2) h0
/-- The function: it has laid its text, the byte between, and a number into three cells of its own. -/
theorem splitSeq_any (s : List UInt8) (w : World) : Calls Tryd.prog 37 #[.string (str s), .string ⟨#[44]⟩] w fun e w' => e = .returned (.func (.func 57) #[] #[.pointer (some ⟨w.heap.size + 1, 0, none⟩), .pointer (some ⟨w.heap.size, 0, none⟩), .pointer (some ⟨w.heap.size + 2, 0, none⟩)]) ∧
    (Below w.heap.size w w' ∧ w'.heap.size = w.heap.size + 3 ∧ w'.heap[w.heap.size]? = some (.cells #[.string (str s)] 9 (0, 0)) ∧ w'.heap[w.heap.size + 1]? = some (.cells #[.string ⟨#[44]⟩] 9 (0, 0)) ∧ w'.heap[w.heap.size + 2]? = some (.cells #[.int .i64 0] 3 (0, 0))) := by
  have hmf : ∀ (fn : Fn) (first cap : Array Value) (w : World), (Instr.makeFunc fn first cap).run Tryd.prog w = .ok (.func fn first cap) w := fun _ _ _ _ => rfl
  have H := Lib.hid (show Calls Tryd.prog 48 #[.string (str s), .string ⟨#[44]⟩, .int .i64 0] w fun e w' => e = .returned (.func (.func 57) #[] #[.pointer (some ⟨w.heap.size + 1, 0, none⟩), .pointer (some ⟨w.heap.size, 0, none⟩), .pointer (some ⟨w.heap.size + 2, 0, none⟩)]) ∧ w' = ((w.alloc (.cells #[.string (str s)] 9)).alloc (.cells #[.string ⟨#[44]⟩] 9)).alloc (.cells #[.int .i64 0] 3) from by
    go_enter Tryd.func48, Tryd.ntmps48
    go_wp2
    go_ret
    exact ⟨rfl, rfl⟩)
  go_enter Tryd.func37, Tryd.ntmps37
  go_wp2_with (first | (go_at_call 48; refine H.out.mono ?_; rintro e w1 ⟨rfl, rfl⟩))
  go_ret
  exact ⟨rfl, (((Below.refl w.heap.size w).alloc (Nat.le_refl _) _).alloc (by simp) _).alloc (by simp; omega) _, by simp, alloc3_0 w _ _ _, alloc3_1 w _ _ _, alloc3_2 w _ _ _⟩
end Go.Proofs.YtoephjmjlhgjeaaDoor
namespace Go.Proofs.YtoephjmjlhgjeaaDoor
open Go.RowKit
/-- Dots as the cells of a slice. -/
def dotsC : List D2 → List Value
  | [] => []
  | d :: t => .int .i64 d.1 :: .int .i64 d.2 :: dotsC t
theorem dotsC_append (l m : List D2) : dotsC (l ++ m) = dotsC l ++ dotsC m := by
  induction l with
  | nil => rfl
  | cons d t ih => rw [List.cons_append, dotsC, dotsC, ih]; rfl
theorem dotsC_at (l : List D2) : ∀ k d, l[k]? = some d → (dotsC l)[k * 2]? = some (.int .i64 d.1) ∧ (dotsC l)[k * 2 + 1]? = some (.int .i64 d.2) := by
  induction l with
  | nil => intro k d h; simp at h
  | cons y t ih =>
    intro k d h
    cases k with
    | zero => simp at h; subst h; exact ⟨rfl, rfl⟩
    | succ k =>
      have := ih k d (by simpa using h)
      rw [dotsC, show (k + 1) * 2 = k * 2 + 2 from by omega]
      exact this
theorem dotsC_inv (l : List D2) : ∀ j u, (dotsC l)[j]? = some u → ∃ i d, l[i]? = some d ∧ ((j = i * 2 ∧ u = .int .i64 d.1) ∨ (j = i * 2 + 1 ∧ u = .int .i64 d.2)) := by
  induction l with
  | nil => intro j u h; simp [dotsC] at h
  | cons d t ih =>
    intro j u h
    match j, h with
    | 0, h => exact ⟨0, d, rfl, .inl ⟨rfl, by simpa [dotsC] using h.symm⟩⟩
    | 1, h => exact ⟨0, d, rfl, .inr ⟨rfl, by simpa [dotsC] using h.symm⟩⟩
    | j + 2, h =>
      obtain ⟨i, y, h1, h2⟩ := ih j u (by simpa [dotsC] using h)
      exact ⟨i + 1, y, by simpa using h1, h2.elim (fun ⟨a, b⟩ => .inl ⟨by omega, b⟩) (fun ⟨a, b⟩ => .inr ⟨by omega, b⟩)⟩
theorem dotsC_one (l : List D2) : ∀ u ∈ dotsC l, u.oneCell' = true := by
  induction l with
  | nil => intro u h; cases h
  | cons d t ih =>
    intro u hu
    rw [dotsC] at hu
    rcases List.mem_cons.1 hu with rfl | hu
    · rfl
    · rcases List.mem_cons.1 hu with rfl | hu
      · rfl
      · exact ih u hu
/-- A slice value whose elements are these dots. -/
def HasDots (w : World) (v : Value) (l : List D2) : Prop :=
  ∃ ao cap, v = .slice ao l.length cap ∧ (ao = none → l = [] ∧ cap = 0) ∧ ∀ ad, ao = some ad → l.length ≤ cap ∧ ∀ j u, (dotsC l)[j]? = some u → w.cell? (ad.add j) = some u
theorem dots_nil (w : World) : HasDots w (.slice none 0 0) [] := ⟨none, 0, rfl, fun _ => ⟨rfl, rfl⟩, fun _ h => by cases h⟩
theorem dots_below {w w' : World} {v : Value} {l : List D2} (h : HasDots w v l) (hb : Below w.heap.size w w') : HasDots w' v l := by
  obtain ⟨ao, cap, rfl, hnil, hc⟩ := h
  refine ⟨ao, cap, rfl, hnil, fun ad had => ⟨(hc ad had).1, fun j u hu => ?_⟩⟩
  have h1 := (hc ad had).2 j u hu
  exact (World.cell?_of_block (hb.block (ad.add j).block (World.block_lt_of_cell? w _ h1))).trans h1
theorem dots_shape {w : World} {v : Value} {l : List D2} (h : HasDots w v l) (n : Nat) (hn : n = l.length) : ∃ ao cap, v = .slice ao n cap := by
  obtain ⟨ao, cap, rfl, -⟩ := h
  exact ⟨ao, cap, by rw [hn]⟩
theorem addr_next2 (ad : Addr) (k : Nat) : ad.add (k + 1) = ⟨(ad.add k).block, (ad.add k).off + 1, none⟩ := by
  unfold Addr.add
  rw [if_neg (by omega)]
  split
  · rename_i h; subst h; rfl
  · rfl
/-- A dot of such a slice. -/
theorem dots_at {w : World} {v : Value} {l : List D2} (h : HasDots w v l) (n k : Nat) (hn : l.length = n) (d : D2) (hd : l[k]? = some d) : ∃ ad cap, v = .slice (some ad) n cap ∧ w.cell? (ad.add (k * 2)) = some (.int .i64 d.1) ∧ w.cell? ⟨(ad.add (k * 2)).block, (ad.add (k * 2)).off + 1, none⟩ = some (.int .i64 d.2) := by
  obtain ⟨ao, cap, rfl, hnil, hc⟩ := h
  cases ao with
  | none => obtain ⟨rfl, _⟩ := hnil rfl; simp at hd
  | some ad =>
    obtain ⟨p1, p2⟩ := dotsC_at l k d hd
    exact ⟨ad, cap, by rw [← hn], (hc ad rfl).2 _ _ p1, by rw [← addr_next2]; exact (hc ad rfl).2 _ _ p2⟩
theorem dots_of_own {w : World} {base : Nat} {e : TypeId} {v : Value} {l : List D2} (h : w.ownsRow base e 2 v l.length (dotsC l)) : HasDots w v l := by
  rcases h.2 with ⟨rfl, h0⟩ | ⟨g, cap, cur, rfl, rest⟩
  · obtain rfl : l = [] := List.eq_nil_of_length_eq_zero h0
    exact dots_nil w
  · exact ⟨some ⟨g, 0, none⟩, cap, rfl, (fun h => by cases h), fun ad had => ⟨rest.2.2.1, fun j u hu => by
      cases had; exact h.cells rfl j u hu⟩⟩
theorem dots_own_nil (w : World) (e : TypeId) (base : Nat) : w.ownsRow base e 2 (.slice none 0 0) ([] : List D2).length (dotsC []) := ⟨rfl, .inl ⟨rfl, rfl⟩⟩
theorem append_dot {P : Program} {w : World} {ops : Array Oper} {rest : List Oper} {o : Oper} {a : Act} {Q : Exit → Act → World → Prop} (hgd : o.guard = none) (s x : Operand) (t : TypeId)
    (ho : o.op = .call { callee := .builtin .append, args := #[s, x], argTypes := #[t, t] })
    (base : Nat) (e : TypeId) (i : TypeInfo) (ht : P.underlying t = some (.slice e)) (hi : P.info? e = some i) (hz : (i.zero.map (·.cells.size), i.size, i.bytes) = (some 2, 2, 16))
    (v : Value) (l : List D2) (d : D2) (hs : a.eval s = v) (hown : w.ownsRow base e 2 v l.length (dotsC l)) (ad : Addr) (c : Nat) (hx : a.eval x = .slice (some ad) 1 c)
    (hc : w.cell? ad = some (.int .i64 d.1) ∧ w.cell? (ad.add 1) = some (.int .i64 d.2))
    (hlen : l.length + 1 ≤ 2000000) (hbase : base ≤ w.heap.size)
    (h : ∀ v' w', w'.ownsRow base e 2 v' (l ++ [d]).length (dotsC (l ++ [d])) → w.grownBy w' v.ownBlock → wpList P ops Q rest (a.put o.dst v') w') : wpList P ops Q (o :: rest) a w := by
  have hadd : ad.add 0 = ad := by unfold Addr.add; split <;> simp_all
  simp only [Prod.mk.injEq] at hz
  obtain ⟨hz1, hz2, hz3⟩ := hz
  cases hzz : i.zero with
  | none => rw [hzz] at hz1; cases hz1
  | some z =>
    rw [hzz] at hz1
    simp only [Option.map_some, Option.some.injEq] at hz1
    refine wpList_append_own w hgd s x t ho base e i z 2 16 ht hi hzz hz2 hz3 hz1 (by decide) v l.length (dotsC l) hs hown ad 1 c (dotsC [d]) hx rfl (fun j u hj => ?_) (fun u hu => dotsC_one [d] u hu)
      (by unfold maxLen; omega) (by omega) hbase fun v' w' h1 h2 _ => h v' w' (by rw [dotsC_append, List.length_append]; exact h1) h2
    match j, hj with
    | 0, hj => rw [hadd, hc.1]; exact hj
    | 1, hj => rw [hc.2]; exact hj
/-- An array of n numbers, each told by a function of its place. -/
def nums (n : Nat) (f : Nat → Int) : Array Value := ((List.range n).map fun i => Value.int .i64 (f i)).toArray
theorem nums_size (n : Nat) (f : Nat → Int) : (nums n f).size = n := by simp [nums]
theorem nums_get (n : Nat) (f : Nat → Int) (i : Nat) (h : i < n) : (nums n f)[i]? = some (.int .i64 (f i)) := by simp [nums, h]
theorem nums_congr (n : Nat) (f g : Nat → Int) (h : ∀ i, i < n → f i = g i) : nums n f = nums n g := by
  unfold nums; congr 1
  apply List.map_congr_left
  intro i hi
  rw [h i (by simpa using hi)]
theorem nums_set (n : Nat) (f g : Nat → Int) (i : Nat) (x : Int) (h : ∀ j, j < n → (if j = i then x else f j) = g j) : (nums n f).setIfInBounds i (.int .i64 x) = nums n g := by
  rw [← nums_congr n _ _ h]
  apply Array.ext_getElem?
  intro j
  rw [Array.getElem?_setIfInBounds, nums_size]
  by_cases hj : j < n
  · rw [nums_get _ _ _ hj]
    by_cases h : i = j
    · subst h; rw [if_pos rfl, if_pos hj, nums_get _ _ _ hj, if_pos rfl]
    · rw [if_neg h, nums_get _ _ _ hj, if_neg (Ne.symm h)]
  · have e1 : (nums n f)[j]? = none := by rw [Array.getElem?_eq_none_iff, nums_size]; omega
    have e2 : (nums n fun j => if j = i then x else f j)[j]? = none := by rw [Array.getElem?_eq_none_iff, nums_size]; omega
    rw [e1, e2]
    split
    · rw [if_neg (by omega)]
    · rfl
theorem nums_one (n : Nat) (f : Nat → Int) : (nums n f).all (·.oneCell') = true := by simp [nums, Value.oneCell']
theorem nums_cell {w : World} {g n : Nat} {t : TypeId} {f : Nat → Int} (h : w.heap[g]? = some (.cells (nums n f) t (0, 0))) (i : Nat) (hi : i < n) : w.cell? ⟨g, i, none⟩ = some (.int .i64 (f i)) := by
  rw [cell_of_row _ _ i _ _ _ h, nums_get _ _ _ hi]
/-- Whether two arrays are the same. -/
def sameN (n : Nat) (f g : Nat → Int) : Bool := (List.range n).all fun i => f i == g i
theorem part_nums {P : Program} (w : World) {t : TypeId} (n : Nat) (f : Nat → Int) (i : Nat) (hi : i < n) (ht : P.underlying t = some (.int .i64)) :
    (part t (nums n f) i).run P w = .ok (.int .i64 (f i)) w :=
  run_part_plain w (by simp [Program.plainKey, ht]) (nums_get n f i hi)
theorem items_nums {P : Program} (w : World) (d : Nat) {e : TypeId} (n : Nat) (f g : Nat → Int) (he : P.underlying e = some (.int .i64)) (hc : P.cellsOf e = 1) : ∀ is : List Nat, (∀ i ∈ is, i < n) →
    (Op.eqItems (d + 1) e (P.cellsOf e) (nums n f) (nums n g) is).run P w = .ok (is.all fun i => f i == g i) w
  | [], _ => by simp [Op.eqItems]
  | i :: is, h => by
    have hi := h i (by simp)
    have ih := items_nums w d n f g he hc is fun j hj => h j (by simp [hj])
    rw [hc] at ih
    simp only [Op.eqItems, Sem.run_bind, hc, Nat.mul_one, part_nums w n f i hi he, part_nums w n g i hi he, Result.andThen_ok, run_equalIn_int w d e .i64 .i64 _ _ he]
    cases hb : f i == g i
    · simp [hb]
    · simp [hb, ih]
/-- Two arrays as opaque values, compared by ==. -/
def numsV (n : Nat) (f : Nat → Int) : Value := .agg (nums n f)
theorem eql_nums {P : Program} {t e : TypeId} {n : Nat} (ht : P.underlying t = some (.array n e)) (he : P.underlying e = some (.int .i64)) (hc : P.cellsOf e = 1) (f g : Nat → Int) {b : Bool} (hb : sameN n f g = b) :
    ∀ w, (binOp .eql t (numsV n f) (numsV n g)).run P w = .ok (.bool b) w := fun w => by
  obtain ⟨inf, hinf⟩ := info_of he
  rw [← hb]
  show (binOp .eql t (.agg (nums n f)) (.agg (nums n g))).run P w = _
  rw [run_eql_struct, run_equalIn_array w 9999 _ _ ht hinf, items_nums w 9998 n f g he hc (List.range n) (by simp)]
  rfl
theorem guard_nums {P : Program} {t : TypeId} (hm : P.eqGuardType P.depth t = false) (x y : Operand) (n : Nat) (f g : Nat → Int) :
    ∀ w, (eqGuard .eql t x y (numsV n f) (numsV n g)).run P w = .ok () w := fun w => run_eqGuard_agg w .eql t x y _ _ hm
/-- An array by value read at a place. -/
theorem index_nums {P : Program} (w : World) {t e : TypeId} {n : Nat} (f : Nat → Int) (i : Nat) (hi : i < n) (ht : P.underlying t = some (.array n e)) (he : P.underlying e = some (.int .i64)) (hc : P.cellsOf e = 1) :
    (Instr.index t (.agg (nums n f)) (.int .i64 (i : Int))).run P w = .ok (.int .i64 (f i)) w := by
  obtain ⟨inf, hinf⟩ := info_of he
  have hg := nums_get n f i hi
  have hn : (0 ≤ (i : Int) ∧ (i : Int) < (n : Int)) := by omega
  simp [Instr.index, run_underlying ht, run_underlying he, run_sizeOf w hinf, asIntOf, hn, hc, hg, hi, isAgg, go_sem]
theorem sameN_V (a b : List D2) : sameN 32 (allV a) (allV b) = sameV a b := rfl
end Go.Proofs.YtoephjmjlhgjeaaDoor
namespace Go.Proofs.YtoephjmjlhgjeaaDoor
open Go.RowKit
theorem solo_below {g B : Nat} {w0 w w' : World} (hb : Below B w0 w) (h : Solo g w w') (hg : B ≤ g) : Below B w0 w' :=
  hb.trans ⟨h.os, h.tape, h.output, Nat.le_of_eq h.size.symm, fun j hj => h.block j (by omega)⟩
end Go.Proofs.YtoephjmjlhgjeaaDoor
