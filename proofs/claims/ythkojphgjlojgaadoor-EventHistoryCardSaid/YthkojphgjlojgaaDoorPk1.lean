/-
Texts that all claims of this seat share, part 1: VecMore, HexaFace, Event, Texts, Dots, Ref04Read, Ref06, Ref06Copy, Ref09, Ref09Parse, Mark, Ref10, Ref10Of, Events.
-/
import Derived.Test.YthkojphgjlojgaaDoorProg
import Derived.WalkKit
import Derived.Lib.Hide
import Derived.WalkLawsBesides
import Derived.Lib.ItoaNum
import Derived.Lib.LaidTab
import Derived.Lib.Split
import Derived.Lib.IndexBytes
import Derived.Lib.IndexLaws
import Derived.Laws.AppendOwn
import Derived.Laws.DeepStrings4
import Derived.BigQuiet
import Derived.Deep.QuietTactic
import Derived.Deep.DeepCutAuto
import Derived.Laws.IdiomStrings
import Derived.StillTailTactics
import Derived.Deep.MidRow
import Derived.Test.YthkojphgjlojgaaDoorPk0
namespace Go.Proofs.YthkojphgjlojgaaDoor
/-- Whether a dot may stand next behind others. -/
def fol (l : List D2) (d : D2) : Bool := mayT d && (l.isEmpty || decide ((l.getLastD (0, 0)).1 < d.1))
/-- Dots that may be, of rising replicas. -/
def Rising (l : List D2) : Prop := l.Pairwise (fun a b => a.1 < b.1) ∧ ∀ d ∈ l, mayT d = true
theorem rising_nil : Rising [] := ⟨List.Pairwise.nil, fun _ h => by cases h⟩
theorem rising_snoc (l : List D2) (d : D2) : Rising (l ++ [d]) ↔ Rising l ∧ fol l d = true := by
  unfold Rising fol
  rw [List.pairwise_append, Bool.and_eq_true, Bool.or_eq_true, decide_eq_true_eq]
  constructor
  · rintro ⟨⟨h1, -, h2⟩, h3⟩
    refine ⟨⟨h1, fun x hx => h3 x (List.mem_append.2 (.inl hx))⟩, h3 d (by simp), ?_⟩
    by_cases h : l = []
    · left; rw [h]; rfl
    · right
      obtain ⟨a, b, rfl⟩ := list_snoc l h
      rw [List.getLastD_concat]; exact h2 b (by simp) d (by simp)
  · rintro ⟨⟨h1, h2⟩, h3, h4⟩
    refine ⟨⟨h1, List.pairwise_singleton _ _, fun x hx y hy => ?_⟩, fun x hx => ?_⟩
    · rw [List.mem_singleton.1 hy]
      rcases h4 with h4 | h4
      · rw [List.isEmpty_iff.1 h4] at hx; cases hx
      · obtain ⟨a, b, rfl⟩ := list_snoc l (fun e => by rw [e] at hx; cases hx)
        rw [List.getLastD_concat] at h4
        rcases List.mem_append.1 hx with hx | hx
        · have := (List.pairwise_append.1 h1).2.2 x hx b (by simp); omega
        · rw [List.mem_singleton.1 hx]; exact h4
    · rcases List.mem_append.1 hx with hx | hx
      · exact h2 x hx
      · rw [List.mem_singleton.1 hx]; exact h3
theorem allV_none {l : List D2} {i : Nat} (h : ∀ d ∈ l, d.1 ≠ (i : Int)) : allV l i = 0 := by
  revert h
  refine snoc_ind (P := fun l => (∀ d ∈ l, d.1 ≠ (i : Int)) → allV l i = 0) (fun _ => rfl) ?_ l
  intro l a ih h
  rw [allV_snoc, ih (fun d hd => h d (List.mem_append.2 (.inl hd))), seen, if_neg (fun hh => h a (by simp) hh.2.1)]
theorem ofN_stay {n : Nat → Int} {k : Nat} : ∀ m, k ≤ m → (∀ i, k ≤ i → i < m → n i = 0) → ofN n m = ofN n k := by
  intro m
  induction m with
  | zero => intro h _; rw [show k = 0 by omega]
  | succ m ih =>
    intro h h0
    by_cases e : k = m + 1
    · rw [e]
    · rw [ofN, ih (by omega) (fun i h1 h2 => h0 i h1 (by omega)), h0 m (by omega) (by omega), if_neg (by omega), List.append_nil]
theorem rising_of {l : List D2} (h : Rising l) : ∀ N : Nat, (∀ d ∈ l, d.1 < (N : Int)) → ofN (allV l) N = l := by
  revert h
  refine snoc_ind (P := fun l => Rising l → ∀ N : Nat, (∀ d ∈ l, d.1 < (N : Int)) → ofN (allV l) N = l) ?_ ?_ l
  · intro _ N _
    exact ofN_stay (n := allV []) (k := 0) N (Nat.zero_le _) (fun i _ _ => rfl)
  · intro l d ih h N hN
    have hh := (rising_snoc l d).1 h
    have hm := mayT_bd (h.2 d (by simp))
    have hlt : ∀ x ∈ l, x.1 < d.1 := fun x hx => (List.pairwise_append.1 h.1).2.2 x hx d (by simp)
    obtain ⟨k, hk⟩ : ∃ k : Nat, d.1 = (k : Int) := ⟨d.1.toNat, by omega⟩
    have hkN : k < N := by have := hN d (by simp); omega
    have h0 : allV l k = 0 := allV_none fun x hx => by have := hlt x hx; omega
    have hbig : ∀ i, k + 1 ≤ i → i < N → allV (l ++ [d]) i = 0 := fun i h1 _ => allV_none fun x hx => by
      rcases List.mem_append.1 hx with hx | hx
      · have := hlt x hx; omega
      · rw [List.mem_singleton.1 hx]; omega
    have hd : allV (l ++ [d]) k = d.2 := by
      rw [allV_snoc, h0, seen, if_pos ⟨h.2 d (by simp), hk, by omega⟩]
    rw [ofN_stay (k := k + 1) N (by omega) hbig, ofN, hd, if_pos (by omega)]
    rw [ofN_congr (m := allV l) (fun i hi => by rw [allV_snoc, seen, if_neg (fun hh => by have := hh.2.1; omega)]), ih hh.1 k (fun x hx => by have := hlt x hx; omega), ← hk]
theorem ofN_rising {n : Nat → Int} (h : Cnt n) : ∀ k, k ≤ 32 → Rising (ofN n k) := by
  intro k
  induction k with
  | zero => intro _; exact rising_nil
  | succ k ih =>
    intro hk
    rw [ofN]
    by_cases hp : 0 < n k
    · rw [if_pos hp, rising_snoc]
      refine ⟨ih (by omega), ?_⟩
      have hc := h k (by omega)
      have hm : mayT ((k : Int), n k) = true := decide_eq_true (by simp only; omega)
      rw [fol, hm, Bool.true_and, Bool.or_eq_true, decide_eq_true_eq]
      by_cases e : ofN n k = []
      · left; rw [e]; rfl
      · right
        obtain ⟨a, b, hab⟩ := list_snoc _ e
        rw [hab, List.getLastD_concat]
        obtain ⟨i, h1, h2, -⟩ := ofN_mem (n := n) (k := k) (d := b) (by rw [hab]; simp)
        rw [h2]; simp only; omega
    · rw [if_neg hp, List.append_nil]; exact ih (by omega)
theorem mayV_rising (l : List D2) : mayV l = true ↔ Rising l := by
  rw [mayV, beq_iff_eq]
  constructor
  · intro h; rw [h]; exact ofN_rising (allV_cnt l) 32 (Nat.le_refl _)
  · intro h; exact (rising_of h 32 (fun d hd => by have := mayT_bd (h.2 d hd); omega)).symm
/-- A vector, dot by dot. -/
theorem mayV_take {l : List D2} {k : Nat} {d : D2} (hd : l[k]? = some d) : mayV (l.take (k + 1)) = (mayV (l.take k) && fol (l.take k) d) := by
  obtain ⟨h, rfl⟩ := List.getElem?_eq_some_iff.1 hd
  rw [List.take_add_one, List.getElem?_eq_getElem h, Bool.eq_iff_iff, Bool.and_eq_true, mayV_rising, mayV_rising]
  exact rising_snoc _ _
theorem mayV_ahead {l : List D2} {k : Nat} (h : mayV (l.take k) = false) : mayV l = false := by
  cases hh : mayV l with
  | false => rfl
  | true =>
    have h1 := (mayV_rising l).1 hh
    have : mayV (l.take k) = true := (mayV_rising _).2 ⟨h1.1.sublist (List.take_sublist k l), fun d hd => h1.2 d (List.mem_of_mem_take hd)⟩
    rw [h] at this; cases this
theorem mayV_nil : mayV [] = true := (mayV_rising []).2 rising_nil
theorem rising_length {l : List D2} (h : mayV l = true) : l.length ≤ 32 := by
  rw [mayV, beq_iff_eq] at h
  rw [h]; exact ofN_length _ 32
theorem rising_vec {l : List D2} (h : mayV l = true) : vecOf l = l := by
  rw [mayV, beq_iff_eq] at h; exact h.symm
/-- Pieces from the front. -/
theorem cut_from (c : UInt8) (r : List UInt8) : ∀ ps, r.foldl (cutStep c) (ps, []) = (ps ++ (cutS c r).1, (cutS c r).2) := by
  intro ps
  refine snoc_ind (P := fun r => r.foldl (cutStep c) (ps, []) = (ps ++ (cutS c r).1, (cutS c r).2)) (by simp [cutS]) ?_ r
  intro r b ih
  rw [List.foldl_append, ih, cutS_snoc, List.foldl_cons, List.foldl_nil, cutStep, cutStep]
  by_cases h : b = c
  · rw [if_pos h, if_pos h]; simp
  · rw [if_neg h, if_neg h]
theorem pieces_front {c : UInt8} {p r : List UInt8} (hp : c ∉ p) : piecesB c (p ++ c :: r) = p :: piecesB c r := by
  rw [piecesB, piecesB, cutS, List.foldl_append, cut_fold p _ hp, List.foldl_cons, cutStep, if_pos rfl, cut_from]
  simp
theorem pieces_last {c : UInt8} {p : List UInt8} (hp : c ∉ p) : piecesB c p = [p] := by
  rw [piecesB, cutS, cut_fold p _ hp]; simp
/-- What is read piece by piece: the dots so far, as long as each one may follow. -/
def goodP (ps : List (List UInt8)) : Bool := ps.all (fun p => parErr p == 0) && mayV (ps.map dotOf)
theorem goodP_nil : goodP [] = true := by rw [goodP]; simp [mayV_nil]
theorem goodP_snoc (ps : List (List UInt8)) (p : List UInt8) : goodP (ps ++ [p]) = (goodP ps && (parErr p == 0 && fol (ps.map dotOf) (dotOf p))) := by
  have h : mayV (ps.map dotOf ++ [dotOf p]) = (mayV (ps.map dotOf) && fol (ps.map dotOf) (dotOf p)) := by
    rw [Bool.eq_iff_iff, Bool.and_eq_true, mayV_rising, mayV_rising]; exact rising_snoc _ _
  rw [goodP, List.all_append, List.map_append, List.map_cons, List.map_nil, h, goodP]
  simp only [List.all_cons, List.all_nil, Bool.and_true]
  cases ps.all (fun p => parErr p == 0) <;> cases (parErr p == 0) <;> cases mayV (ps.map dotOf) <;> rfl
theorem goodP_prefix {ps qs : List (List UInt8)} (h : ps <+: qs) (hg : goodP ps = false) : goodP qs = false := by
  obtain ⟨r, rfl⟩ := h
  revert hg
  refine snoc_ind (P := fun r => goodP ps = false → goodP (ps ++ r) = false) (fun h => by rwa [List.append_nil]) ?_ r
  intro r a ih hg
  rw [← List.append_assoc, goodP_snoc, ih hg]; rfl
theorem dotT_dotOf {p : List UInt8} (h : parErr p = 0) : dotT (dotOf p) = p := by
  rcases parErr_cases p with ⟨-, h1⟩ | ⟨h2, -, -⟩
  · exact (text_parse9 h1).2
  · rw [h] at h2; cases h2
theorem isVecT_good (s : List UInt8) : isVecT s = (if s = [45] then true else goodP (piecesB 44 s)) := by
  by_cases h : s = [45]
  · rw [if_pos h, h]; decide +kernel
  · rw [if_neg h]
    have hps : vecPs s = piecesB 44 s := by rw [vecPs, if_neg h]
    rw [Bool.eq_iff_iff]
    constructor
    · intro h1
      have h2 := (text_parseV h1).1
      have h3 : parV s = dotsOf s := by rw [parV, h1]; rfl
      rw [h3, dotsOf, hps] at h2
      rw [isVecT, Bool.and_eq_true, hps] at h1
      rw [goodP, Bool.and_eq_true]; exact ⟨h1.1, h2⟩
    · intro h1
      rw [goodP, Bool.and_eq_true] at h1
      have h4 : vecOf (dotsOf s) = dotsOf s := rising_vec (by rw [dotsOf, hps]; exact h1.2)
      rw [isVecT, Bool.and_eq_true, hps, beq_iff_eq]
      refine ⟨h1.1, ?_⟩
      have h5 : (dotsOf s).map dotT = piecesB 44 s := by
        rw [dotsOf, hps, List.map_map]
        conv => rhs; rw [← List.map_id (piecesB 44 s)]
        exact List.map_congr_left fun p hp => dotT_dotOf (by have := List.all_eq_true.1 h1.1 p hp; simpa using this)
      rw [textV, h4, textL, if_neg (fun e => by rw [e] at h5; simp [piecesB] at h5), h5, join_cut]
theorem par_good {s : List UInt8} (h : s ≠ [45]) (hg : goodP (piecesB 44 s) = true) : parVErr s = 0 ∧ parV s = (piecesB 44 s).map dotOf := by
  have h1 : isVecT s = true := by rw [isVecT_good, if_neg h]; exact hg
  rw [parVErr, parV, h1, dotsOf, vecPs, if_neg h]; exact ⟨rfl, rfl⟩
theorem par_bad {s : List UInt8} (h : s ≠ [45]) (hg : goodP (piecesB 44 s) = false) : parVErr s = 2 ∧ parV s = [] := by
  have h1 : isVecT s = false := by rw [isVecT_good, if_neg h]; exact hg
  rw [parVErr, parV, h1]; exact ⟨rfl, rfl⟩
theorem par_hyphen : parVErr [45] = 0 ∧ parV [45] = [] := by
  have h1 : isVecT [45] = true := by rw [isVecT_good, if_pos rfl]
  rw [parVErr, parV, h1]; exact ⟨rfl, rfl⟩
end Go.Proofs.YthkojphgjlojgaaDoor
namespace Go.Proofs.YthkojphgjlojgaaDoor
open Go.RowKit
/-- The table of the powers of ten, as strconv lays it. -/
def PowTab (w : World) : Prop := Lib.TabIs Tryd.prog w "internal/strconv.uint64pow10" .u64 Lib.pow10Tab
theorem gPow : Tryd.prog.globalNamed "internal/strconv.uint64pow10" = some 1 := by kernel_rfl
theorem powTab_below {w w' : World} (h : PowTab w) (hb : Below w.heap.size w w') : PowTab w' := by
  unfold PowTab Lib.TabIs World.var? at h ⊢
  rw [gPow] at h ⊢
  simp only [Option.bind_some] at h ⊢
  have hlt : 1 < w.heap.size := by
    rcases Nat.lt_or_ge 1 w.heap.size with h' | h'
    · exact h'
    · rw [Array.getElem?_eq_none h'] at h; cases h
  rw [hb.block _ hlt]
  exact h
theorem cellsByte : Tryd.prog.cellsOf 5 = 1 := by kernel_rfl
theorem digestGuard : Tryd.prog.eqGuardType Tryd.prog.depth 34 = false := by kernel_rfl
theorem slice_to {P : Program} (w : World) (t : TypeId) (l : List UInt8) (n : Nat) (hn : n ≤ l.length) (ht : P.underlying t = some .string) : (Instr.slice t (.string (str l)) none (some (.int .i64 (n : Int))) none).run P w = .ok (.string (str (l.take n))) w := by
  rw [run_slice_string_h w t (str l) ht .i64 n (by omega) (by rw [str_size]; omega)]
  have e : (str l).extract 0 (n : Int).toNat = str (l.take n) := by
    unfold str; rw [ByteArray.extract_mk]; simp
  rw [e]
end Go.Proofs.YthkojphgjlojgaaDoor
namespace Go.Proofs.YthkojphgjlojgaaDoor
open Go.RowKit
/-- An event: its dot, what was known, its kind, its path, the digest, the size. -/
structure Ev where
  r : Int
  q : Int
  deps : List D2
  kind : Int
  path : List UInt8
  sum : Nat → BitVec 32
  size : Int
def zeroF : Nat → BitVec 32 := fun _ => 0#32
theorem zeroF_byt (i : Nat) : u32 (zeroF i) < 256 := by unfold zeroF; decide
def noEv : Ev := ⟨0, 0, [], 0, [], zeroF, 0⟩
def mayH (e : Ev) : Bool := if e.kind = 1 then decide (0 ≤ e.size) && decide (e.size ≤ 65536) else if e.kind = 2 then decide (e.size = 0) && sameRow 32 e.sum zeroF else false
def knownE (e : Ev) : Bool := mayV e.deps && decide (getV e.deps e.r = e.q - 1)
def mayE (e : Ev) : Bool := mayD e.r e.q && (knownE e && (ownP e.path && mayH e))
def putW : List UInt8 := [112, 117, 116]
def delW : List UInt8 := [100, 101, 108]
def wordsE (e : Ev) : List (List UInt8) := if e.kind = 2 then [delW, textD e.r e.q, textV e.deps, e.path] else [putW, textD e.r e.q, textV e.deps, e.path, textF e.sum, numL e.size]
def lineE (e : Ev) : List UInt8 := joinB 32 (wordsE e)
def lineErr (e : Ev) : Int := if mayE e then 0 else 1
def lineT (e : Ev) : List UInt8 := if mayE e then lineE e else []
/-- The k-th word of a text, by its blanks. -/
def wd (s : List UInt8) (k : Nat) : List UInt8 := (piecesB 32 s).getD k []
def evOf (s : List UInt8) : Ev :=
  if (piecesB 32 s).length = 6 then ⟨parR (wd s 1), parQ (wd s 1), parV (wd s 2), 1, wd s 3, parsed (wd s 4), readN (wd s 5) 65536⟩
  else ⟨parR (wd s 1), parQ (wd s 1), parV (wd s 2), 2, wd s 3, zeroF, 0⟩
def isE (s : List UInt8) : Bool := ((piecesB 32 s).length == 4 || (piecesB 32 s).length == 6) && (mayE (evOf s) && lineE (evOf s) == s)
def parE (s : List UInt8) : Ev := if isE s then evOf s else noEv
def parEErr (s : List UInt8) : Int := if isE s then 0 else 2
/-- The words of a text, five times cut at most. -/
def spl6 (s : List UInt8) : List (List UInt8) := Lib.splitN s [32] 6
def sd (s : List UInt8) (k : Nat) : List UInt8 := (spl6 s).getD k []
def kindW (w : List UInt8) : Int := if w = putW then 1 else if w = delW then 2 else 0
def meantE (s : List UInt8) : Ev := ⟨parR (sd s 1), parQ (sd s 1), parV (sd s 2), kindW (sd s 0), sd s 3, parsed (sd s 4), readN (sd s 5) 65536⟩
theorem first_at (c : UInt8) (t : List UInt8) : (Lib.indexByte t c = -1 ∧ piecesB c t = [t]) ∨ ∃ o : Nat, o < t.length ∧ Lib.indexByte t c = (o : Int) ∧ piecesB c t = t.take o :: piecesB c (t.drop (o + 1)) := by
  have hge := Lib.indexByte_ge t c
  by_cases h : Lib.indexByte t c = -1
  · have hn : c ∉ t := fun hm => by
      obtain ⟨j, hj, e⟩ := List.mem_iff_getElem.1 hm
      exact absurd (by rw [List.getElem?_eq_getElem hj, e]) (Lib.indexByte_none h j)
    exact .inl ⟨h, pieces_last hn⟩
  · obtain ⟨k, hk⟩ : ∃ k : Nat, Lib.indexByte t c = (k : Int) := ⟨(Lib.indexByte t c).toNat, by omega⟩
    obtain ⟨h1, h2⟩ := Lib.indexByte_some hk
    obtain ⟨hlt, he⟩ := List.getElem?_eq_some_iff.1 h1
    refine .inr ⟨k, hlt, hk, ?_⟩
    have hn : c ∉ t.take k := fun hm => by
      obtain ⟨j, hj, e⟩ := List.mem_iff_getElem.1 hm
      have hj' : j < k := by rw [List.length_take] at hj; omega
      exact absurd (by rw [List.getElem?_eq_getElem (by omega)]; rw [List.getElem_take] at e; rw [e]) (h2 j hj')
    have hsp : t = t.take k ++ c :: t.drop (k + 1) := by
      conv => lhs; rw [← List.take_append_drop k t]
      rw [List.drop_eq_getElem_cons hlt, he]
    conv => lhs; rw [hsp]
    exact pieces_front hn
theorem pieces_pos (c : UInt8) (t : List UInt8) : 1 ≤ (piecesB c t).length := by simp [piecesB]
theorem splitK_pieces : ∀ (k : Nat) (s : List UInt8), (piecesB 32 s).length ≤ k + 1 → Lib.splitK [32] 0 k s = piecesB 32 s
  | 0, s, h => by
    rcases first_at 32 s with ⟨_, hp⟩ | ⟨o, _, _, hp⟩
    · rw [hp]
      rfl
    · rw [hp, List.length_cons] at h
      have := pieces_pos 32 (s.drop (o + 1)); omega
  | k + 1, s, h => by
    unfold Lib.splitK
    rw [Lib.index_one]
    rcases first_at 32 s with ⟨hi, hp⟩ | ⟨o, _, hi, hp⟩
    · rw [hi, hp]; rfl
    · rw [hp, List.length_cons] at h
      rw [hi, hp, if_neg (by simp), splitK_pieces k _ (by simpa using h)]
      simp
theorem words_len {ws : List (List UInt8)} : ws.length ≤ (joinB 32 ws).length + 1 := by
  induction ws with
  | nil => simp
  | cons w t ih =>
    cases t with
    | nil => simp
    | cons u t' =>
      have : (joinB 32 (w :: u :: t')).length = w.length + 1 + (joinB 32 (u :: t')).length := by simp [joinB]; omega
      simp only [List.length_cons] at ih ⊢
      omega
theorem pieces_words {ws : List (List UInt8)} (hne : ws ≠ []) (h : ∀ w ∈ ws, (32 : UInt8) ∉ w) : piecesB 32 (joinB 32 ws) = ws := by
  obtain ⟨ps, q, rfl⟩ : ∃ ps q, ws = ps ++ [q] := ⟨ws.dropLast, ws.getLast hne, (List.dropLast_concat_getLast hne).symm⟩
  rw [piecesB, cut_join ps q (fun p hp => h p (by simp [hp])) (h q (by simp))]
theorem spl6_words {ws : List (List UInt8)} (hne : ws ≠ []) (h : ∀ w ∈ ws, (32 : UInt8) ∉ w) (hl : ws.length ≤ 6) : spl6 (joinB 32 ws) = ws := by
  have hw := words_len (ws := ws)
  unfold spl6 Lib.splitN
  rw [splitK_pieces _ _ (by rw [pieces_words hne h]; omega), pieces_words hne h]
theorem of_joinB {c x : UInt8} {ps : List (List UInt8)} (h : x ∈ joinB c ps) : x = c ∨ ∃ p ∈ ps, x ∈ p := by
  cases ps with
  | nil => cases h
  | cons p t =>
    rw [joinB] at h
    rcases List.mem_append.1 h with h | h
    · exact .inr ⟨p, by simp, h⟩
    · obtain ⟨q, hq, hx⟩ := List.mem_flatMap.1 h
      rcases List.mem_cons.1 hx with h1 | h1
      · exact .inl h1
      · exact .inr ⟨q, by simp [hq], h1⟩
theorem textV_blank (l : List D2) : (32 : UInt8) ∉ textV l := fun h => by
  unfold textV textL at h
  split at h
  · simp at h
  · rcases of_joinB h with h1 | ⟨p, hp, hx⟩
    · exact absurd h1 (by decide)
    · obtain ⟨d, _, rfl⟩ := List.mem_map.1 hp
      exact dotT_not (by decide) (by decide) (by decide) d hx
theorem textF_blank (f : Nat → BitVec 32) (hf : ∀ i, u32 (f i) < 256) : (32 : UInt8) ∉ textF f := fun h => by
  have ht := isText_textF f hf
  simp only [isText, Bool.and_eq_true, List.all_eq_true] at ht
  exact absurd (ht.2 32 h) (by decide)
theorem pieces_byte (s : List UInt8) : ∀ c ∈ s, c = 47 ∨ ∃ p ∈ pieces s, c ∈ p := by
  induction s with
  | nil => intro c hc; cases hc
  | cons b t ih =>
    intro c hc
    rw [pieces]
    by_cases hb : b = 47
    · rw [if_pos hb]
      rcases List.mem_cons.1 hc with rfl | h
      · exact .inl hb
      · rcases ih c h with h1 | ⟨p, hp, h2⟩
        · exact .inl h1
        · exact .inr ⟨p, by simp [hp], h2⟩
    · rw [if_neg hb]
      cases hps : pieces t with
      | nil => exact absurd hps (pieces_ne t)
      | cons p ps =>
        rw [hps] at ih
        rcases List.mem_cons.1 hc with rfl | h
        · exact .inr ⟨c :: p, by simp, by simp⟩
        · rcases ih c h with h1 | ⟨p', hp, h2⟩
          · exact .inl h1
          · rcases List.mem_cons.1 hp with rfl | hp
            · exact .inr ⟨b :: p', by simp, by simp [h2]⟩
            · exact .inr ⟨p', by simp [hp], h2⟩
theorem own_blank {s : List UInt8} (h : ownP s = true) : (32 : UInt8) ∉ s := fun hm => by
  have hp := ((may_iff s).1 ((own_iff s).1 h).2.1).1
  simp only [isParts, List.all_eq_true] at hp
  rcases pieces_byte s 32 hm with h1 | ⟨p, h1, h2⟩
  · exact absurd h1 (by decide)
  · exact absurd (isPart_let (hp p h1) 32 h2) (by decide)
theorem words_blank {e : Ev} (h : mayE e = true) (hf : ∀ i, u32 (e.sum i) < 256) : ∀ w ∈ wordsE e, (32 : UInt8) ∉ w := by
  simp only [mayE, Bool.and_eq_true] at h
  have ho := own_blank h.2.2.1
  have hd : (32 : UInt8) ∉ textD e.r e.q := dotT_not (d := (e.r, e.q)) (by decide) (by decide) (by decide)
  have hv := textV_blank e.deps
  have hF := textF_blank e.sum hf
  have hn : (32 : UInt8) ∉ numL e.size := num_not (by decide) (by decide) _
  have hp : (32 : UInt8) ∉ putW := by decide
  have hl : (32 : UInt8) ∉ delW := by decide
  clear h hf
  rw [wordsE]
  split
  · simp only [List.mem_cons, List.not_mem_nil, or_false, forall_eq_or_imp, forall_eq]
    exact ⟨hl, hd, hv, ho⟩
  · simp only [List.mem_cons, List.not_mem_nil, or_false, forall_eq_or_imp, forall_eq]
    exact ⟨hp, hd, hv, ho, hF, hn⟩
theorem words_ne (e : Ev) : wordsE e ≠ [] := by unfold wordsE; split <;> simp
theorem words_six (e : Ev) : (wordsE e).length ≤ 6 := by unfold wordsE; split <;> simp
theorem pieces_line {e : Ev} (h : mayE e = true) (hf : ∀ i, u32 (e.sum i) < 256) : piecesB 32 (lineE e) = wordsE e := pieces_words (words_ne e) (words_blank h hf)
theorem spl_line {e : Ev} (h : mayE e = true) (hf : ∀ i, u32 (e.sum i) < 256) : spl6 (lineE e) = wordsE e := spl6_words (words_ne e) (words_blank h hf) (words_six e)
/-- Two events of which all fields are the same (their digests as rows). -/
def SameE (e f : Ev) : Prop := e.r = f.r ∧ e.q = f.q ∧ e.deps = f.deps ∧ e.kind = f.kind ∧ e.path = f.path ∧ sameRow 32 e.sum f.sum = true ∧ e.size = f.size
theorem may_same {e f : Ev} (h : SameE e f) : mayE e = mayE f := by
  obtain ⟨h1, h2, h3, h4, h5, h6, h7⟩ := h
  have hs : sameRow 32 e.sum zeroF = sameRow 32 f.sum zeroF := by
    rw [Bool.eq_iff_iff, sameRow_iff, sameRow_iff]
    rw [sameRow_iff] at h6
    exact ⟨fun g i hi => by rw [← h6 i hi]; exact g i hi, fun g i hi => by rw [h6 i hi]; exact g i hi⟩
  simp only [mayE, knownE, mayH, h1, h2, h3, h4, h5, hs, h7]
theorem textTo_congr {f g : Nat → BitVec 32} : ∀ n, (∀ i, i < n → f i = g i) → textTo f n = textTo g n
  | 0, _ => rfl
  | n + 1, h => by rw [textTo_succ, textTo_succ, textTo_congr n (fun i hi => h i (by omega)), h n (by omega)]
theorem line_same {e f : Ev} (h : SameE e f) : lineE e = lineE f := by
  obtain ⟨h1, h2, h3, h4, h5, h6, h7⟩ := h
  have ht : textF e.sum = textF f.sum := textTo_congr 32 ((sameRow_iff _ _ _).1 h6)
  simp only [lineE, wordsE, h1, h2, h3, h4, h5, h7, ht]
theorem may_kind {e : Ev} (h : mayE e = true) : e.kind = 1 ∧ 0 ≤ e.size ∧ e.size ≤ 65536 ∨ e.kind = 2 ∧ e.size = 0 ∧ sameRow 32 e.sum zeroF = true := by
  simp only [mayE, Bool.and_eq_true, mayH] at h
  have h4 := h.2.2.2
  split at h4
  · simp at h4; exact .inl ⟨by assumption, h4⟩
  · split at h4
    · simp at h4; exact .inr ⟨by assumption, h4⟩
    · cases h4
theorem parsed_lt (s : List UInt8) (i : Nat) : u32 (parsed s i) < 256 := by
  unfold parsed; split
  · exact parseF_lt s i
  · show u32 (0#32) < 256
    decide
theorem evOf_lt (s : List UInt8) (i : Nat) : u32 ((evOf s).sum i) < 256 := by
  unfold evOf; split
  · exact parsed_lt _ i
  · exact zeroF_byt i
theorem meant_lt (s : List UInt8) (i : Nat) : u32 ((meantE s).sum i) < 256 := parsed_lt _ i
theorem sum_back (f : Nat → BitVec 32) (hf : ∀ i, u32 (f i) < 256) : sameRow 32 (parsed (textF f)) f = true := by
  rw [sameRow_iff]
  intro i hi
  rw [show parsed (textF f) = parseF (textF f) by simp [parsed, isText_textF f hf]]
  exact parse_text f hf i hi
theorem parts_back {e : Ev} (h : mayE e = true) : parR (textD e.r e.q) = e.r ∧ parQ (textD e.r e.q) = e.q ∧ parV (textV e.deps) = e.deps := by
  simp only [mayE, knownE, Bool.and_eq_true] at h
  obtain ⟨-, h2, h3⟩ := parse_text9 h.1
  exact ⟨h2, h3, by rw [(parse_textV e.deps).2, rising_vec h.2.1.1]⟩
theorem evOf_line {e : Ev} (h : mayE e = true) (hf : ∀ i, u32 (e.sum i) < 256) : SameE (evOf (lineE e)) e := by
  obtain ⟨p1, p2, p3⟩ := parts_back h
  have hp := pieces_line h hf
  rcases may_kind h with ⟨k1, k2, k3⟩ | ⟨k1, k2, k3⟩
  · have hw : wordsE e = [putW, textD e.r e.q, textV e.deps, e.path, textF e.sum, numL e.size] := by rw [wordsE, if_neg (by omega)]
    rw [hw] at hp
    have e1 : evOf (lineE e) = ⟨parR (textD e.r e.q), parQ (textD e.r e.q), parV (textV e.deps), 1, e.path, parsed (textF e.sum), readN (numL e.size) 65536⟩ := by
      simp [evOf, wd, hp]
    rw [e1]
    unfold SameE
    dsimp only
    exact ⟨p1, p2, p3, k1.symm, rfl, sum_back _ hf, (read_num k2 k3 (by omega)).1⟩
  · have hw : wordsE e = [delW, textD e.r e.q, textV e.deps, e.path] := by rw [wordsE, if_pos k1]
    rw [hw] at hp
    have e1 : evOf (lineE e) = ⟨parR (textD e.r e.q), parQ (textD e.r e.q), parV (textV e.deps), 2, e.path, zeroF, 0⟩ := by
      simp [evOf, wd, hp]
    rw [e1]
    unfold SameE
    dsimp only
    exact ⟨p1, p2, p3, k1.symm, rfl, (sameRow_iff _ _ _).2 fun i hi => ((sameRow_iff _ _ _).1 k3 i hi).symm, k2.symm⟩
theorem parsed_nil : parsed [] = zeroF := by simp [parsed, isText]; rfl
theorem readN_nil (m : Int) : readN [] m = 0 := by simp [readN, isNum]
theorem meant_line {e : Ev} (h : mayE e = true) (hf : ∀ i, u32 (e.sum i) < 256) : SameE (meantE (lineE e)) e := by
  obtain ⟨p1, p2, p3⟩ := parts_back h
  have hp := spl_line h hf
  rcases may_kind h with ⟨k1, k2, k3⟩ | ⟨k1, k2, k3⟩
  · have hw : wordsE e = [putW, textD e.r e.q, textV e.deps, e.path, textF e.sum, numL e.size] := by rw [wordsE, if_neg (by omega)]
    rw [hw] at hp
    have e1 : meantE (lineE e) = ⟨parR (textD e.r e.q), parQ (textD e.r e.q), parV (textV e.deps), kindW putW, e.path, parsed (textF e.sum), readN (numL e.size) 65536⟩ := by
      simp [meantE, sd, hp]
    rw [e1]
    unfold SameE
    dsimp only
    exact ⟨p1, p2, p3, by rw [k1]; decide, rfl, sum_back _ hf, (read_num k2 k3 (by omega)).1⟩
  · have hw : wordsE e = [delW, textD e.r e.q, textV e.deps, e.path] := by rw [wordsE, if_pos k1]
    rw [hw] at hp
    have e1 : meantE (lineE e) = ⟨parR (textD e.r e.q), parQ (textD e.r e.q), parV (textV e.deps), kindW delW, e.path, parsed [], readN [] 65536⟩ := by
      simp [meantE, sd, hp]
    rw [e1, parsed_nil, readN_nil]
    unfold SameE
    dsimp only
    exact ⟨p1, p2, p3, by rw [k1]; decide, rfl, (sameRow_iff _ _ _).2 fun i hi => ((sameRow_iff _ _ _).1 k3 i hi).symm, k2.symm⟩
theorem isE_line {e : Ev} (h : mayE e = true) (hf : ∀ i, u32 (e.sum i) < 256) : isE (lineE e) = true := by
  have hs := evOf_line h hf
  rw [isE, pieces_line h hf, may_same hs, h, line_same hs]
  rw [wordsE]; split <;> simp
theorem isE_may {s : List UInt8} (h : isE s = true) : mayE (evOf s) = true ∧ lineE (evOf s) = s := by
  simp only [isE, Bool.and_eq_true, beq_iff_eq] at h
  exact h.2
theorem meant_is (s : List UInt8) : (mayE (meantE s) && lineE (meantE s) == s) = isE s := by
  rw [Bool.eq_iff_iff, Bool.and_eq_true, beq_iff_eq]
  constructor
  · rintro ⟨h1, h2⟩
    have := isE_line h1 (meant_lt s)
    rwa [h2] at this
  · intro h
    obtain ⟨h1, h2⟩ := isE_may h
    have hs := meant_line h1 (evOf_lt s)
    rw [h2] at hs
    exact ⟨by rw [may_same hs]; exact h1, by rw [line_same hs]; exact h2⟩
theorem meant_same {s : List UInt8} (h : isE s = true) : SameE (meantE s) (evOf s) := by
  obtain ⟨h1, h2⟩ := isE_may h
  have hs := meant_line h1 (evOf_lt s)
  rwa [h2] at hs
end Go.Proofs.YthkojphgjlojgaaDoor
namespace Go.Proofs.YthkojphgjlojgaaDoor
open Go.RowKit
/-- Texts as the cells of a slice. -/
def textsL (ls : List (List UInt8)) : List Value := ls.map fun l => Value.string (str l)
theorem textsL_append (x y : List (List UInt8)) : textsL (x ++ y) = textsL x ++ textsL y := by simp [textsL]
theorem textsL_one (ls : List (List UInt8)) : ∀ u ∈ textsL ls, u.oneCell' = true := fun u hu => by
  obtain ⟨l, _, rfl⟩ := List.mem_map.1 hu; rfl
/-- One text appended to a slice of texts of the call's own. -/
theorem append_text {P : Program} {w : World} {ops : Array Oper} {rest : List Oper} {o : Oper} {a : Act} {Q : Exit → Act → World → Prop} (hgd : o.guard = none) (s x : Operand) (t : TypeId)
    (ho : o.op = .call { callee := .builtin .append, args := #[s, x], argTypes := #[t, t] })
    (base : Nat) (e : TypeId) (i : TypeInfo) (ht : P.underlying t = some (.slice e)) (hi : P.info? e = some i) (hz : i.zero = some (.string ByteArray.empty)) (hsize : i.size = 1) (hby : i.bytes = 16)
    (v : Value) (ls : List (List UInt8)) (l : List UInt8) (hs : a.eval s = v) (hown : w.ownsRow base e 1 v ls.length (textsL ls)) (ad : Addr) (c : Nat) (hx : a.eval x = .slice (some ad) 1 c) (hc : w.cell? ad = some (.string (str l)))
    (hlen : ls.length + 1 ≤ 8796093022208) (hbase : base ≤ w.heap.size)
    (h : ∀ v' w', w'.ownsRow base e 1 v' (ls ++ [l]).length (textsL (ls ++ [l])) → w.grownBy w' v.ownBlock → wpList P ops Q rest (a.put o.dst v') w') : wpList P ops Q (o :: rest) a w := by
  have hadd : ad.add 0 = ad := by unfold Addr.add; split <;> simp_all
  refine wpList_append_own w hgd s x t ho base e i (.string ByteArray.empty) 1 16 ht hi hz hsize hby rfl (by decide) v ls.length (textsL ls) hs hown ad 1 c (textsL [l]) hx (by simp [textsL]) (fun j u hj => ?_) (textsL_one [l])
    (by unfold maxLen; omega) (by omega) hbase fun v' w' h1 h2 _ => h v' w' (by rw [textsL_append, List.length_append]; exact h1) h2
  match j, hj with
  | 0, hj =>
    have e : u = .string (str l) := by simpa [textsL] using hj.symm
    rw [hadd, e]; exact hc
end Go.Proofs.YthkojphgjlojgaaDoor
namespace Go.Proofs.YthkojphgjlojgaaDoor
open Go.RowKit
/-- Dots as the cells of a slice. -/
def dotsC : List D2 → List Value
  | [] => []
  | d :: t => .int .i64 d.1 :: .int .i64 d.2 :: dotsC t
theorem dotsC_append (l m : List D2) : dotsC (l ++ m) = dotsC l ++ dotsC m := by
  induction l with
  | nil => rfl
  | cons d t ih => rw [List.cons_append, dotsC, dotsC, ih]; rfl
theorem dotsC_at (l : List D2) : ∀ k d, l[k]? = some d → (dotsC l)[k * 2]? = some (.int .i64 d.1) ∧ (dotsC l)[k * 2 + 1]? = some (.int .i64 d.2) := by
  induction l with
  | nil => intro k d h; simp at h
  | cons y t ih =>
    intro k d h
    cases k with
    | zero => simp at h; subst h; exact ⟨rfl, rfl⟩
    | succ k =>
      have := ih k d (by simpa using h)
      rw [dotsC, show (k + 1) * 2 = k * 2 + 2 from by omega]
      exact this
theorem dotsC_inv (l : List D2) : ∀ j u, (dotsC l)[j]? = some u → ∃ i d, l[i]? = some d ∧ ((j = i * 2 ∧ u = .int .i64 d.1) ∨ (j = i * 2 + 1 ∧ u = .int .i64 d.2)) := by
  induction l with
  | nil => intro j u h; simp [dotsC] at h
  | cons d t ih =>
    intro j u h
    match j, h with
    | 0, h => exact ⟨0, d, rfl, .inl ⟨rfl, by simpa [dotsC] using h.symm⟩⟩
    | 1, h => exact ⟨0, d, rfl, .inr ⟨rfl, by simpa [dotsC] using h.symm⟩⟩
    | j + 2, h =>
      obtain ⟨i, y, h1, h2⟩ := ih j u (by simpa [dotsC] using h)
      exact ⟨i + 1, y, by simpa using h1, h2.elim (fun ⟨a, b⟩ => .inl ⟨by omega, b⟩) (fun ⟨a, b⟩ => .inr ⟨by omega, b⟩)⟩
theorem dotsC_one (l : List D2) : ∀ u ∈ dotsC l, u.oneCell' = true := by
  induction l with
  | nil => intro u h; cases h
  | cons d t ih =>
    intro u hu
    rw [dotsC] at hu
    rcases List.mem_cons.1 hu with rfl | hu
    · rfl
    · rcases List.mem_cons.1 hu with rfl | hu
      · rfl
      · exact ih u hu
/-- A slice value whose elements are these dots. -/
def HasDots (w : World) (v : Value) (l : List D2) : Prop :=
  ∃ ao cap, v = .slice ao l.length cap ∧ (ao = none → l = [] ∧ cap = 0) ∧ ∀ ad, ao = some ad → l.length ≤ cap ∧ ∀ j u, (dotsC l)[j]? = some u → w.cell? (ad.add j) = some u
theorem dots_nil (w : World) : HasDots w (.slice none 0 0) [] := ⟨none, 0, rfl, fun _ => ⟨rfl, rfl⟩, fun _ h => by cases h⟩
theorem dots_below {w w' : World} {v : Value} {l : List D2} (h : HasDots w v l) (hb : Below w.heap.size w w') : HasDots w' v l := by
  obtain ⟨ao, cap, rfl, hnil, hc⟩ := h
  refine ⟨ao, cap, rfl, hnil, fun ad had => ⟨(hc ad had).1, fun j u hu => ?_⟩⟩
  have h1 := (hc ad had).2 j u hu
  exact (World.cell?_of_block (hb.block (ad.add j).block (World.block_lt_of_cell? w _ h1))).trans h1
theorem dots_shape {w : World} {v : Value} {l : List D2} (h : HasDots w v l) (n : Nat) (hn : n = l.length) : ∃ ao cap, v = .slice ao n cap := by
  obtain ⟨ao, cap, rfl, -⟩ := h
  exact ⟨ao, cap, by rw [hn]⟩
theorem addr_next2 (ad : Addr) (k : Nat) : ad.add (k + 1) = ⟨(ad.add k).block, (ad.add k).off + 1, none⟩ := by
  unfold Addr.add
  rw [if_neg (by omega)]
  split
  · rename_i h; subst h; rfl
  · rfl
/-- A dot of such a slice. -/
theorem dots_at {w : World} {v : Value} {l : List D2} (h : HasDots w v l) (n k : Nat) (hn : l.length = n) (d : D2) (hd : l[k]? = some d) : ∃ ad cap, v = .slice (some ad) n cap ∧ w.cell? (ad.add (k * 2)) = some (.int .i64 d.1) ∧ w.cell? ⟨(ad.add (k * 2)).block, (ad.add (k * 2)).off + 1, none⟩ = some (.int .i64 d.2) := by
  obtain ⟨ao, cap, rfl, hnil, hc⟩ := h
  cases ao with
  | none => obtain ⟨rfl, _⟩ := hnil rfl; simp at hd
  | some ad =>
    obtain ⟨p1, p2⟩ := dotsC_at l k d hd
    exact ⟨ad, cap, by rw [← hn], (hc ad rfl).2 _ _ p1, by rw [← addr_next2]; exact (hc ad rfl).2 _ _ p2⟩
theorem dots_of_own {w : World} {base : Nat} {e : TypeId} {v : Value} {l : List D2} (h : w.ownsRow base e 2 v l.length (dotsC l)) : HasDots w v l := by
  rcases h.2 with ⟨rfl, h0⟩ | ⟨g, cap, cur, rfl, rest⟩
  · obtain rfl : l = [] := List.eq_nil_of_length_eq_zero h0
    exact dots_nil w
  · exact ⟨some ⟨g, 0, none⟩, cap, rfl, (fun h => by cases h), fun ad had => ⟨rest.2.2.1, fun j u hu => by
      cases had; exact h.cells rfl j u hu⟩⟩
/-- Dots in a block that holds dots alone. -/
def TypDots (w : World) (v : Value) (l : List D2) : Prop := HasDots w v l ∧ (l = [] ∨ ∃ k cs fr, v.ownBlock = some k ∧ w.heap[k]? = some (.cells cs 32 fr))
theorem typ_nil (w : World) : TypDots w (.slice none 0 0) [] := ⟨dots_nil w, .inl rfl⟩
theorem typ_of_own {w : World} {base : Nat} {v : Value} {l : List D2} (h : w.ownsRow base 32 2 v l.length (dotsC l)) : TypDots w v l := by
  refine ⟨dots_of_own h, ?_⟩
  rcases h.2 with ⟨rfl, h0⟩ | ⟨g, cap, cur, rfl, h1, h2, rest⟩
  · exact .inl (List.eq_nil_of_length_eq_zero h0)
  · exact .inr ⟨g, cur, (0, 0), rfl, h2⟩
theorem typ_below {w w' : World} {v : Value} {l : List D2} (h : TypDots w v l) (hb : Below w.heap.size w w') : TypDots w' v l := by
  refine ⟨dots_below h.1 hb, h.2.elim .inl fun ⟨k, cs, fr, h1, h2⟩ => .inr ⟨k, cs, fr, h1, ?_⟩⟩
  exact (hb.block k (Array.getElem?_eq_some_iff.1 h2).1).trans h2
theorem dots_own_nil (w : World) (e : TypeId) (base : Nat) : w.ownsRow base e 2 (.slice none 0 0) ([] : List D2).length (dotsC []) := ⟨rfl, .inl ⟨rfl, rfl⟩⟩
theorem append_dot {P : Program} {w : World} {ops : Array Oper} {rest : List Oper} {o : Oper} {a : Act} {Q : Exit → Act → World → Prop} (hgd : o.guard = none) (s x : Operand) (t : TypeId)
    (ho : o.op = .call { callee := .builtin .append, args := #[s, x], argTypes := #[t, t] })
    (base : Nat) (e : TypeId) (i : TypeInfo) (ht : P.underlying t = some (.slice e)) (hi : P.info? e = some i) (hz : (i.zero.map (·.cells.size), i.size, i.bytes) = (some 2, 2, 16))
    (v : Value) (l : List D2) (d : D2) (hs : a.eval s = v) (hown : w.ownsRow base e 2 v l.length (dotsC l)) (ad : Addr) (c : Nat) (hx : a.eval x = .slice (some ad) 1 c)
    (hc : w.cell? ad = some (.int .i64 d.1) ∧ w.cell? (ad.add 1) = some (.int .i64 d.2))
    (hlen : l.length + 1 ≤ 2000000) (hbase : base ≤ w.heap.size)
    (h : ∀ v' w', w'.ownsRow base e 2 v' (l ++ [d]).length (dotsC (l ++ [d])) → w.grownBy w' v.ownBlock → wpList P ops Q rest (a.put o.dst v') w') : wpList P ops Q (o :: rest) a w := by
  have hadd : ad.add 0 = ad := by unfold Addr.add; split <;> simp_all
  simp only [Prod.mk.injEq] at hz
  obtain ⟨hz1, hz2, hz3⟩ := hz
  cases hzz : i.zero with
  | none => rw [hzz] at hz1; cases hz1
  | some z =>
    rw [hzz] at hz1
    simp only [Option.map_some, Option.some.injEq] at hz1
    refine wpList_append_own w hgd s x t ho base e i z 2 16 ht hi hzz hz2 hz3 hz1 (by decide) v l.length (dotsC l) hs hown ad 1 c (dotsC [d]) hx rfl (fun j u hj => ?_) (fun u hu => dotsC_one [d] u hu)
      (by unfold maxLen; omega) (by omega) hbase fun v' w' h1 h2 _ => h v' w' (by rw [dotsC_append, List.length_append]; exact h1) h2
    match j, hj with
    | 0, hj => rw [hadd, hc.1]; exact hj
    | 1, hj => rw [hc.2]; exact hj
/-- An array of n numbers, each told by a function of its place. -/
def nums (n : Nat) (f : Nat → Int) : Array Value := ((List.range n).map fun i => Value.int .i64 (f i)).toArray
theorem nums_size (n : Nat) (f : Nat → Int) : (nums n f).size = n := by simp [nums]
theorem nums_get (n : Nat) (f : Nat → Int) (i : Nat) (h : i < n) : (nums n f)[i]? = some (.int .i64 (f i)) := by simp [nums, h]
theorem nums_congr (n : Nat) (f g : Nat → Int) (h : ∀ i, i < n → f i = g i) : nums n f = nums n g := by
  unfold nums; congr 1
  apply List.map_congr_left
  intro i hi
  rw [h i (by simpa using hi)]
theorem nums_set (n : Nat) (f g : Nat → Int) (i : Nat) (x : Int) (h : ∀ j, j < n → (if j = i then x else f j) = g j) : (nums n f).setIfInBounds i (.int .i64 x) = nums n g := by
  rw [← nums_congr n _ _ h]
  apply Array.ext_getElem?
  intro j
  rw [Array.getElem?_setIfInBounds, nums_size]
  by_cases hj : j < n
  · rw [nums_get _ _ _ hj]
    by_cases h : i = j
    · subst h; rw [if_pos rfl, if_pos hj, nums_get _ _ _ hj, if_pos rfl]
    · rw [if_neg h, nums_get _ _ _ hj, if_neg (Ne.symm h)]
  · have e1 : (nums n f)[j]? = none := by rw [Array.getElem?_eq_none_iff, nums_size]; omega
    have e2 : (nums n fun j => if j = i then x else f j)[j]? = none := by rw [Array.getElem?_eq_none_iff, nums_size]; omega
    rw [e1, e2]
    split
    · rw [if_neg (by omega)]
    · rfl
theorem nums_one (n : Nat) (f : Nat → Int) : (nums n f).all (·.oneCell') = true := by simp [nums, Value.oneCell']
theorem nums_cell {w : World} {g n : Nat} {t : TypeId} {f : Nat → Int} (h : w.heap[g]? = some (.cells (nums n f) t (0, 0))) (i : Nat) (hi : i < n) : w.cell? ⟨g, i, none⟩ = some (.int .i64 (f i)) := by
  rw [cell_of_row _ _ i _ _ _ h, nums_get _ _ _ hi]
/-- Two arrays as opaque values, compared by ==. -/
def numsV (n : Nat) (f : Nat → Int) : Value := .agg (nums n f)
/-- An array by value read at a place. -/
theorem index_nums {P : Program} (w : World) {t e : TypeId} {n : Nat} (f : Nat → Int) (i : Nat) (hi : i < n) (ht : P.underlying t = some (.array n e)) (he : P.underlying e = some (.int .i64)) (hc : P.cellsOf e = 1) :
    (Instr.index t (.agg (nums n f)) (.int .i64 (i : Int))).run P w = .ok (.int .i64 (f i)) w := by
  obtain ⟨inf, hinf⟩ := info_of he
  have hg := nums_get n f i hi
  have hn : (0 ≤ (i : Int) ∧ (i : Int) < (n : Int)) := by omega
  simp [Instr.index, run_underlying ht, run_underlying he, run_sizeOf w hinf, asIntOf, hn, hc, hg, hi, isAgg, go_sem]
end Go.Proofs.YthkojphgjlojgaaDoor
namespace Go.Proofs.YthkojphgjlojgaaDoor
open Go.RowKit
theorem read_bad {s : List UInt8} (h : isNum s = false) (most : Int) : readN s most = 0 ∧ readErr s most = 2 := by simp [readN, readErr, h]
theorem read_over {s : List UInt8} {most : Int} (h : isNum s = true) (hm : most < valN s) : readN s most = 0 ∧ readErr s most = 8 := by simp [readN, readErr, h, hm]
theorem read_good {s : List UInt8} {most : Int} (h : isNum s = true) (hm : ¬ most < valN s) : readN s most = valN s ∧ readErr s most = 0 := by simp [readN, readErr, h, hm]
end Go.Proofs.YthkojphgjlojgaaDoor
namespace Go.Proofs.YthkojphgjlojgaaDoor
open Go.RowKit
theorem isLet_of (c : UInt8) (x : Nat) (hx : x = c.toNat) : isLet c = ((decide (97 ≤ x) && decide (x ≤ 122)) || (decide (65 ≤ x) && decide (x ≤ 90)) || (decide (48 ≤ x) && decide (x ≤ 57)) || decide (x = 45) || decide (x = 46) || decide (x = 95) || decide (x = 43) || decide (x = 126)) := by
  have e : ∀ k : UInt8, (c == k) = decide (x = k.toNat) := fun k => by
    rw [Bool.eq_iff_iff, beq_iff_eq, decide_eq_true_eq, hx]
    exact ⟨fun h => by rw [h], fun h => UInt8.toNat_inj.1 h⟩
  unfold isLet
  rw [e, e, e, e, e, hx]; rfl
/-- A piece of a text. -/
theorem slice_mid {P : Program} (w : World) (t : TypeId) (s : List UInt8) (f k : Nat) (hf : f ≤ k) (hk : k ≤ s.length) (ht : P.underlying t = some .string) :
    (Instr.slice t (.string (str s)) (some (.int .i64 (f : Int))) (some (.int .i64 (k : Int))) none).run P w = .ok (.string (str ((s.take k).drop f))) w := by
  rw [run_slice_string_if w t (str s) .i64 .i64 f k ht, if_pos ⟨by omega, by rw [str_size]; omega⟩, if_pos ⟨by omega, by omega⟩, Int.toNat_natCast, Int.toNat_natCast]
  congr 2
  unfold str
  rw [ByteArray.extract_mk]
  simp [List.drop_take]
end Go.Proofs.YthkojphgjlojgaaDoor
namespace Go.Proofs.YthkojphgjlojgaaDoor
open Go.RowKit
/-- Two texts one behind the other, as an operation, the whole under a name. -/
theorem add_as {P : Program} {o : Oper} {a : Act} {t rt : TypeId} {x y : Operand} {l m r : List UInt8} (ho : o.op = .binOp .add t x y rt) (hx : a.eval x = .string (str l)) (hy : a.eval y = .string (str m)) (hn : l.length + m.length ≤ 4611686018427387904) (hr : l ++ m = r) :
    ∀ w, (execOp a.eval o).run P w = .ok (.value (.string (str r))) w := by subst hr; exact add_op ho hx hy hn
end Go.Proofs.YthkojphgjlojgaaDoor
namespace Go.Proofs.YthkojphgjlojgaaDoor
open Go.RowKit
/-- A dot's cells, just boxed. -/
def dotO (r q : Int) : Obj := .cells #[.int .i64 r, .int .i64 q] 32 (0, 0)
theorem dot_cells {w : World} {g : Nat} {r q : Int} (h : w.heap[g]? = some (dotO r q)) : w.cell? ⟨g, 0, none⟩ = some (.int .i64 r) ∧ w.cell? ⟨g, 1, none⟩ = some (.int .i64 q) :=
  ⟨by rw [cell_of_row _ _ 0 _ _ _ h]; rfl, by rw [cell_of_row _ _ 1 _ _ _ h]; rfl⟩
/-- A dot's own box. -/
theorem one_box (w : World) (r q : Int) : (w.alloc (dotO r q)).heap[w.heap.size]? = some (dotO r q) := heap_last _ _
set_option maxRecDepth 100000 in
set_option maxHeartbeats 4000000 in
theorem refMay_any9 (r q : Int) (w : World) : Calls Tryd.prog 51 #[.agg #[.int .i64 r, .int .i64 q]] w fun e w' => e = .returned (.bool (mayD r q)) ∧ Below w.heap.size w w' := by
  have h1 := one_box w r q
  obtain ⟨c1, c2⟩ := dot_cells h1
  have B0 := Lib.hid ((Below.refl w.heap.size w).alloc (Nat.le_refl _) (dotO r q))
  clear h1
  unfold dotO at *
  go_enter Tryd.func51, Tryd.ntmps51
  go_wp2
  all_goals
    go_ret
    refine ⟨congrArg Ending.returned (show Value.bool _ = Value.bool _ from congrArg Value.bool ?_), B0.out⟩
    unfold mayD
    rw [Bool.eq_iff_iff]
    simp
    try omega
set_option maxRecDepth 100000 in
theorem dot_built (r q : Int) : Tryd.prog.built 32 [(0, .int .i64 r), (1, .int .i64 q)] = some #[.int .i64 r, .int .i64 q] := by rfl
theorem dot_built0 : Tryd.prog.built 32 [] = some #[.int .i64 0, .int .i64 0] := by kernel_rfl
end Go.Proofs.YthkojphgjlojgaaDoor
namespace Go.Proofs.YthkojphgjlojgaaDoor
open Go.RowKit
theorem slice_upto {P : Program} (w : World) (t : TypeId) (s : List UInt8) (k : Nat) (hk : k ≤ s.length) (ht : P.underlying t = some .string) :
    (Instr.slice t (.string (str s)) none (some (.int .i64 (k : Int))) none).run P w = .ok (.string (str (s.take k))) w := by
  rw [run_slice_string_h w t (str s) ht .i64 k (by omega) (by rw [str_size]; omega)]
  congr 2
  unfold str; rw [ByteArray.extract_mk]; simp
theorem slice_rest {P : Program} (w : World) (t : TypeId) (s : List UInt8) (f : Nat) (hf : f ≤ s.length) (ht : P.underlying t = some .string) :
    (Instr.slice t (.string (str s)) (some (.int .i64 (f : Int))) none none).run P w = .ok (.string (str (s.drop f))) w := by
  have h := run_slice_string_l w t (str s) ht .i64 f (by omega) (by rw [str_size]; omega)
  have e : (str s).extract (f : Int).toNat (str s).size = str (s.drop f) := by
    rw [str_size]; unfold str; rw [ByteArray.extract_mk, List.take_of_length_le (by simp)]; simp
  rw [e] at h; exact h
/-- The first colon's place. -/
theorem ahead_at {s : List UInt8} {k : Nat} (hk : k < s.length) (h58 : s.getD k 0 = 58) (hno : ∀ j, j < k → s.getD j 0 ≠ 58) : aheadD s = s.take k ∧ behindD s = s.drop (k + 1) ∧ s.contains 58 = true := by
  have e : s = s.take k ++ 58 :: s.drop (k + 1) := by
    have h1 : s[k] = 58 := by rw [← h58]; simp [hk]
    rw [← h1, ← List.drop_eq_getElem_cons hk, List.take_append_drop]
  have hn : (58 : UInt8) ∉ s.take k := fun hm => by
    obtain ⟨j, hj, he⟩ := List.mem_iff_getElem.1 hm
    rw [List.length_take] at hj
    rw [List.getElem_take] at he
    exact hno j (by omega) (by rw [List.getD_eq_getElem?_getD, List.getElem?_eq_getElem (by omega), he]; rfl)
  obtain ⟨a1, a2⟩ := ahead_of (s.take k) (s.drop (k + 1)) hn
  rw [← e] at a1 a2
  exact ⟨a1, a2, by rw [List.contains_iff_mem, e]; simp⟩
theorem row_kept {g : Nat} {A B : World} {o : Obj} (h : A.heap[g]? = some o) (hb : Below A.heap.size A B) : B.heap[g]? = some o := (hb.block g (Array.getElem?_eq_some_iff.1 h).1).trans h
theorem dot_one (x y : Int) : (#[Value.int .i64 x, Value.int .i64 y] : Array Value).all (·.oneCell') = true := by simp [Value.oneCell']
end Go.Proofs.YthkojphgjlojgaaDoor
namespace Go.Proofs.YthkojphgjlojgaaDoor
open Go.RowKit
theorem solo_below {g B : Nat} {w0 w w' : World} (hb : Below B w0 w) (h : Solo g w w') (hg : B ≤ g) : Below B w0 w' :=
  hb.trans ⟨h.os, h.tape, h.output, Nat.le_of_eq h.size.symm, fun j hj => h.block j (by omega)⟩
end Go.Proofs.YthkojphgjlojgaaDoor
namespace Go.Proofs.YthkojphgjlojgaaDoor
open Go.RowKit
/-- A number loaded from an address that is known in every world at hand. -/
theorem addr_yields {P : Program} {ops : Array Oper} {S : World → Prop} {o : Oper} {a : Act} (hw : Region.wanted o (yielded ops a.tmps) = true) (ty : TypeId) (x : Operand) (ho : o.op = .load ty x)
    (A : Addr) (hx : a.eval x = .pointer (some A)) (k : IntKind) (z : Int) (hu : P.underlying ty = some (.int k)) (hS : ∀ w, S w → w.cell? A = some (.int k z)) : YieldsIf P ops S o (.int k z) a :=
  .inl ⟨hw, fun w h => by
    have hc := hS w h
    unfold execOp
    simp [ho, hx, Instr.loadAt, Instr.sureAddr, loadVar, isAgg, run_underlying hu, hc]⟩
/-- A dot loaded from an address whose two cells are known in every world at hand. -/
theorem dot_yields {P : Program} {ops : Array Oper} {S : World → Prop} {o : Oper} {a : Act} (hw : Region.wanted o (yielded ops a.tmps) = true) (ty : TypeId) (x : Operand) (ho : o.op = .load ty x)
    (A : Addr) (hx : a.eval x = .pointer (some A)) (r q : Int) {fs : Array Field} (hu : P.underlying ty = some (.struct fs)) (hi : (P.info? ty).map (·.size) = some 2) (hS : ∀ w, S w → w.cell? A = some (.int .i64 r) ∧ w.cell? ⟨A.block, A.off + 1, none⟩ = some (.int .i64 q)) : YieldsIf P ops S o (.agg #[.int .i64 r, .int .i64 q]) a :=
  .inl ⟨hw, fun w h => by
    obtain ⟨h1, h2⟩ := hS w h
    have h3 : w.cell? (A.add 1) = some (.int .i64 q) := by rw [addr_next2 A 0]; simpa [Addr.add] using h2
    have h0 : A.add 0 = A := by unfold Addr.add; split <;> simp_all
    have hl : (loadCells A [Value.int .i64 r, Value.int .i64 q].length).run P w = .ok [Value.int .i64 r, Value.int .i64 q].toArray w :=
      run_loadCells_list (P := P) w A [Value.int .i64 r, Value.int .i64 q] (fun j v hv => by
        match j, hv with
        | 0, hv => rw [h0, h1]; exact hv
        | 1, hv => rw [h3]; exact hv)
    cases hq : P.info? ty with
    | none => simp [hq] at hi
    | some i =>
      have hs : i.size = 2 := by simpa [hq] using hi
      have hl2 : (loadCells A 2).run P w = .ok #[Value.int .i64 r, Value.int .i64 q] w := hl
      unfold execOp
      simp [ho, hx, Instr.loadAt, Instr.sureAddr, loadVar, isAgg, run_underlying hu, sizeOf, typeInfo, hq, hs, hl2]⟩

theorem zero32 : (Tryd.prog.info? 74).map (fun i => i.zero) = some (some (.agg (nums 32 fun _ => 0))) := by kernel_rfl
theorem allV_at {l : List D2} {k : Nat} {d : D2} (hd : l[k]? = some d) (i : Nat) : allV (l.take (k + 1)) i = seen i (allV (l.take k) i) d := by
  obtain ⟨h, rfl⟩ := List.getElem?_eq_some_iff.1 hd
  exact allV_take h i
theorem drawS {W w : World} (h : Below W.heap.size W w) : Below W.heap.size W w.drew := ⟨h.os, h.tape, h.output, h.size, h.block⟩
set_option maxRecDepth 100000 in
set_option maxHeartbeats 16000000 in
theorem refAll_any (l : List D2) (hl : l.length < 2000000) (v : Value) (w : World) (hv : HasDots w v l) : Calls Tryd.prog 49 #[v] w fun e w' => e = .returned (.agg (nums 32 (allV l))) ∧ Below w.heap.size w w' := by
  have HV := Lib.hid hv
  obtain ⟨n, hn⟩ : ∃ n, n = l.length := ⟨_, rfl⟩
  obtain ⟨ao, cap, rfl⟩ := dots_shape hv n hn
  have HN := Lib.hid hn
  have hn4 : n < 2000000 := by omega
  have Z0 := heap_last w (.cells (nums 32 fun _ => 0) 74 (0, 0))
  have Z1 := heap_last (w.alloc (.cells (nums 32 fun _ => 0) 74 (0, 0))) (.cells (nums 32 fun _ => 0) 74 (0, 0))
  have HZ := Lib.hid (And.intro (show ((w.alloc (.cells (nums 32 fun _ => 0) 74 (0, 0))).alloc (.cells (nums 32 fun _ => 0) 74 (0, 0))).heap[w.heap.size]? = some (.cells (nums 32 fun _ => 0) 74 (0, 0)) by rw [heap_at_alloc, if_neg (by simp)]; exact Z0) (by rwa [World.size_alloc] at Z1))
  have HB := Lib.hid (((Below.refl w.heap.size w).alloc (Nat.le_refl _) (.cells (nums 32 fun _ => 0) 74 (0, 0))).alloc (by simp) (.cells (nums 32 fun _ => 0) 74 (0, 0)))
  clear hn hv hl Z0 Z1
  go_enter Tryd.func49, Tryd.ntmps49
  go_wp2_with (first | (refine alloc_as rfl 74 rfl _ zero32 ?_))
  go_loopw [4] (fun c wr => ∃ k : Nat, k ≤ n ∧ c = .int .i64 (k : Int) ∧ wr.heap[w.heap.size]? = some (.cells (nums 32 fun _ => 0) 74 (0, 0)) ∧ wr.heap[w.heap.size + 1]? = some (.cells (nums 32 (allV (l.take k))) 74 (0, 0)) ∧ Below w.heap.size w wr) (fun c _ => n - (intOf c).toNat)
  case atStart => exact ⟨0, Nat.zero_le _, rfl, HZ.out.1, HZ.out.2, HB.out⟩
  case round =>
    clear HZ HB
    obtain ⟨k, hk, rfl, hz, ho, hb⟩ := hrel
    by_cases hlt : k < n
    · have q0 : (k : Int) < (n : Int) := by omega
      have hkl : k < l.length := by rw [← HN.out]; exact hlt
      obtain ⟨d, hd⟩ : ∃ d, l[k]? = some d := ⟨_, List.getElem?_eq_getElem hkl⟩
      have HA := Lib.hid (allV_at hd)
      obtain ⟨r, q⟩ := d
      obtain ⟨ad, cap', e, c0, c1⟩ := dots_at (dots_below HV.out hb) n k HN.out.symm _ hd
      cases e
      have C0 := Lib.hid c0
      have C1 := Lib.hid c1
      have HZ := Lib.hid hz
      have HO := Lib.hid ho
      have HB := Lib.hid hb
      have MY := Lib.hid (fun w => refMay_any9 r q w)
      have KK := Lib.hid (show k + 1 ≤ n ∧ n - (k + 1) < n - k by omega)
      clear c0 c1 hz ho hb hd hkl
      cases hm : mayD r q with
      | false =>
        rw [hm] at MY
        have HS := Lib.hid (show nums 32 (allV (l.take (k + 1))) = nums 32 (allV (l.take k)) from nums_congr _ _ _ fun i _ => by
          rw [HA.out i, seen, if_neg (fun h => by have h2 := h.1; rw [mayT, hm] at h2; cases h2)])
        clear hm HA
        go_wp2
        refine wp_region_held_drew (S := fun w' => Below wr.heap.size wr w') (by kernel_rfl) (drawS (Below.refl _ _)) (fun hHeld => ?_)
        generalize wr.drew = wd at hHeld ⊢
        refine take_at (i := 0) 11 rfl rfl (by kernel_rfl) (by kernel_rfl) (by kernel_rfl) (fun _ _ _ h => h) (sure_yes (by rfl) (fun w => by go_simp; try with_reducible rfl)) hHeld ?_
        simp only [List.setIfInBounds_toArray, List.set_cons_zero, List.set_cons_succ]
        refine take_at (i := 1) 12 rfl rfl (by kernel_rfl) (by kernel_rfl) (by kernel_rfl) (fun _ _ _ h => h) (sure_yes (by rfl) (fun w => by go_simp; try with_reducible rfl)) hHeld ?_
        simp only [List.setIfInBounds_toArray, List.set_cons_zero, List.set_cons_succ]
        refine take_at (i := 2) 13 rfl rfl (by kernel_rfl) (by kernel_rfl) (by kernel_rfl) (fun _ _ _ h => h) (sure_yes (by rfl) (fun w => by go_simp; try with_reducible rfl)) hHeld ?_
        simp only [List.setIfInBounds_toArray, List.set_cons_zero, List.set_cons_succ]
        refine take_at (i := 3) 14 rfl rfl (by kernel_rfl) (by kernel_rfl) (by kernel_rfl) (fun _ _ _ h => h) (dot_yields (by rfl) 32 (.tmp 13) rfl (ad.add (k * 2)) rfl r q Tryd.underlying32 (by kernel_rfl) (fun w h => ⟨(World.cell?_of_block (h.block _ (World.block_lt_of_cell? _ _ C0.out))).trans C0.out, (World.cell?_of_block (h.block _ (World.block_lt_of_cell? _ _ C1.out))).trans C1.out⟩)) hHeld ?_
        simp only [List.setIfInBounds_toArray, List.set_cons_zero, List.set_cons_succ]
        refine wpAnyH_ready (rs := [4]) (by kernel_rfl) (by simp) ?_
        refine AllReadyH.cons rfl (fun K hK => ?_) AllReadyH.nil
        go_simp
        go_at_call 51
        refine (MY.out _).mono ?_
        rintro e w6 ⟨rfl, hb⟩
        dsimp only
        refine hK.out _ _ (below_next hHeld hb) (fun hHeld => ?_)
        clear hK K hb
        refine take_at (i := 5) 16 rfl rfl (by kernel_rfl) (by kernel_rfl) (by kernel_rfl) (fun _ _ _ h => h) (sure_yes (by rfl) (fun w => by go_simp; try with_reducible rfl)) hHeld ?_
        simp only [List.setIfInBounds_toArray, List.set_cons_zero, List.set_cons_succ]
        refine take_at (i := 6) 17 rfl rfl (by kernel_rfl) (by kernel_rfl) (by kernel_rfl) (fun _ _ _ h => h) (.inr ⟨by rfl, rfl⟩) hHeld ?_
        simp only [List.setIfInBounds_toArray, List.set_cons_zero, List.set_cons_succ]
        refine take_at (i := 7) 18 rfl rfl (by kernel_rfl) (by kernel_rfl) (by kernel_rfl) (fun _ _ _ h => h) (.inr ⟨by rfl, rfl⟩) hHeld ?_
        simp only [List.setIfInBounds_toArray, List.set_cons_zero, List.set_cons_succ]
        refine take_at (i := 8) 19 rfl rfl (by kernel_rfl) (by kernel_rfl) (by kernel_rfl) (fun _ _ _ h => h) (.inr ⟨by rfl, rfl⟩) hHeld ?_
        simp only [List.setIfInBounds_toArray, List.set_cons_zero, List.set_cons_succ]
        refine take_at (i := 9) 20 rfl rfl (by kernel_rfl) (by kernel_rfl) (by kernel_rfl) (fun _ _ _ h => h) (.inr ⟨by rfl, rfl⟩) hHeld ?_
        simp only [List.setIfInBounds_toArray, List.set_cons_zero, List.set_cons_succ]
        refine take_at (i := 10) 21 rfl rfl (by kernel_rfl) (by kernel_rfl) (by kernel_rfl) (fun _ _ _ h => h) (.inr ⟨by rfl, rfl⟩) hHeld ?_
        simp only [List.setIfInBounds_toArray, List.set_cons_zero, List.set_cons_succ]
        refine take_at (i := 11) 22 rfl rfl (by kernel_rfl) (by kernel_rfl) (by kernel_rfl) (fun _ _ _ h => h) (.inr ⟨by rfl, rfl⟩) hHeld ?_
        simp only [List.setIfInBounds_toArray, List.set_cons_zero, List.set_cons_succ]
        refine take_at (i := 12) 23 rfl rfl (by kernel_rfl) (by kernel_rfl) (by kernel_rfl) (fun _ _ _ h => h) (.inr ⟨by rfl, rfl⟩) hHeld ?_
        simp only [List.setIfInBounds_toArray, List.set_cons_zero, List.set_cons_succ]
        refine take_at (i := 13) 24 rfl rfl (by kernel_rfl) (by kernel_rfl) (by kernel_rfl) (fun _ _ _ h => h) (.inr ⟨by rfl, rfl⟩) hHeld ?_
        simp only [List.setIfInBounds_toArray, List.set_cons_zero, List.set_cons_succ]
        refine take_at (i := 14) 25 rfl rfl (by kernel_rfl) (by kernel_rfl) (by kernel_rfl) (fun _ _ _ h => h) (.inr ⟨by rfl, rfl⟩) hHeld ?_
        simp only [List.setIfInBounds_toArray, List.set_cons_zero, List.set_cons_succ]
        refine take_at (i := 15) 26 rfl rfl (by kernel_rfl) (by kernel_rfl) (by kernel_rfl) (fun _ _ _ h => h) (.inr ⟨by rfl, rfl⟩) hHeld ?_
        simp only [List.setIfInBounds_toArray, List.set_cons_zero, List.set_cons_succ]
        refine take_at (i := 16) 27 rfl rfl (by kernel_rfl) (by kernel_rfl) (by kernel_rfl) (fun _ _ _ h => h) (.inr ⟨by rfl, rfl⟩) hHeld ?_
        simp only [List.setIfInBounds_toArray, List.set_cons_zero, List.set_cons_succ]
        refine take_at (i := 17) 28 rfl rfl (by kernel_rfl) (by kernel_rfl) (by kernel_rfl) (fun _ _ _ h => h) (.inr ⟨by rfl, rfl⟩) hHeld ?_
        simp only [List.setIfInBounds_toArray, List.set_cons_zero, List.set_cons_succ]
        refine take_at (i := 18) 29 rfl rfl (by kernel_rfl) (by kernel_rfl) (by kernel_rfl) (fun _ _ _ h => h) (.inr ⟨by rfl, rfl⟩) hHeld ?_
        simp only [List.setIfInBounds_toArray, List.set_cons_zero, List.set_cons_succ]
        refine take_at (i := 19) 30 rfl rfl (by kernel_rfl) (by kernel_rfl) (by kernel_rfl) (fun _ _ _ h => h) (sure_yes (by rfl) (fun w => by go_simp; try with_reducible rfl)) hHeld ?_
        simp only [List.setIfInBounds_toArray, List.set_cons_zero, List.set_cons_succ]
        refine wpAnyH_done (by kernel_rfl) ?_ _
        go_wp2
        refine ⟨⟨k + 1, KK.out.1, by simp, row_kept HZ.out hHeld, by rw [HS.out]; exact row_kept HO.out hHeld, below_next HB.out hHeld⟩, ?_⟩
        simp [intOf]; exact KK.out.2
      | true =>
        rw [hm] at MY
        have hb := mayT_bd (d := (r, q)) hm
        simp only at hb
        obtain ⟨i, hi⟩ : ∃ i : Nat, r = (i : Int) := ⟨r.toNat, by omega⟩
        subst hi
        have hi32 : i < 32 := by omega
        have qi : (i : Int) < 32 := by omega
        obtain ⟨m, hme⟩ : ∃ m, m = allV (l.take k) i := ⟨_, rfl⟩
        have CM := Lib.hid (show wr.cell? ⟨w.heap.size + 1, i, none⟩ = some (.int .i64 m) by rw [hme]; exact nums_cell HO.out i hi32)
        by_cases hgt : m < q
        · have d1 : decide (q > m) = true := decide_eq_true hgt
          have HS := Lib.hid (show (nums 32 (allV (l.take k))).setIfInBounds i (.int .i64 q) = nums 32 (allV (l.take (k + 1))) from nums_set _ _ _ _ _ fun j _ => by
            rw [HA.out j, seen]
            by_cases hj : j = i
            · subst hj; rw [if_pos rfl, if_pos ⟨hm, rfl, by rw [← hme]; exact hgt⟩]
            · rw [if_neg hj, if_neg (fun h => hj (by have := h.2.1; simp only at this; omega))])
          clear hm HA hb hgt hme hi32
          go_wp2
          refine wp_region_held_drew (S := fun w' => Below wr.heap.size wr w') (by kernel_rfl) (drawS (Below.refl _ _)) (fun hHeld => ?_)
          generalize wr.drew = wd at hHeld ⊢
          refine take_at (i := 0) 11 rfl rfl (by kernel_rfl) (by kernel_rfl) (by kernel_rfl) (fun _ _ _ h => h) (sure_yes (by rfl) (fun w => by go_simp; try with_reducible rfl)) hHeld ?_
          simp only [List.setIfInBounds_toArray, List.set_cons_zero, List.set_cons_succ]
          refine take_at (i := 1) 12 rfl rfl (by kernel_rfl) (by kernel_rfl) (by kernel_rfl) (fun _ _ _ h => h) (sure_yes (by rfl) (fun w => by go_simp; try with_reducible rfl)) hHeld ?_
          simp only [List.setIfInBounds_toArray, List.set_cons_zero, List.set_cons_succ]
          refine take_at (i := 2) 13 rfl rfl (by kernel_rfl) (by kernel_rfl) (by kernel_rfl) (fun _ _ _ h => h) (sure_yes (by rfl) (fun w => by go_simp; try with_reducible rfl)) hHeld ?_
          simp only [List.setIfInBounds_toArray, List.set_cons_zero, List.set_cons_succ]
          refine take_at (i := 3) 14 rfl rfl (by kernel_rfl) (by kernel_rfl) (by kernel_rfl) (fun _ _ _ h => h) (dot_yields (by rfl) 32 (.tmp 13) rfl (ad.add (k * 2)) rfl (i : Int) q Tryd.underlying32 (by kernel_rfl) (fun w h => ⟨(World.cell?_of_block (h.block _ (World.block_lt_of_cell? _ _ C0.out))).trans C0.out, (World.cell?_of_block (h.block _ (World.block_lt_of_cell? _ _ C1.out))).trans C1.out⟩)) hHeld ?_
          simp only [List.setIfInBounds_toArray, List.set_cons_zero, List.set_cons_succ]
          refine wpAnyH_ready (rs := [4]) (by kernel_rfl) (by simp) ?_
          refine AllReadyH.cons rfl (fun K hK => ?_) AllReadyH.nil
          go_simp
          go_at_call 51
          refine (MY.out _).mono ?_
          rintro e w6 ⟨rfl, hb⟩
          dsimp only
          refine hK.out _ _ (below_next hHeld hb) (fun hHeld => ?_)
          clear hK K hb
          refine take_at (i := 5) 16 rfl rfl (by kernel_rfl) (by kernel_rfl) (by kernel_rfl) (fun _ _ _ h => h) (sure_yes (by rfl) (fun w => by go_simp; try with_reducible rfl)) hHeld ?_
          simp only [List.setIfInBounds_toArray, List.set_cons_zero, List.set_cons_succ]
          refine take_at (i := 6) 17 rfl rfl (by kernel_rfl) (by kernel_rfl) (by kernel_rfl) (fun _ _ _ h => h) (sure_yes (by rfl) (fun w => by go_simp; try with_reducible rfl)) hHeld ?_
          simp only [List.setIfInBounds_toArray, List.set_cons_zero, List.set_cons_succ]
          refine take_at (i := 7) 18 rfl rfl (by kernel_rfl) (by kernel_rfl) (by kernel_rfl) (fun _ _ _ h => h) (sure_yes (by rfl) (fun w => by go_simp; try with_reducible rfl)) hHeld ?_
          simp only [List.setIfInBounds_toArray, List.set_cons_zero, List.set_cons_succ]
          refine take_at (i := 8) 19 rfl rfl (by kernel_rfl) (by kernel_rfl) (by kernel_rfl) (fun _ _ _ h => h) (sure_yes (by rfl) (fun w => by go_simp; try with_reducible rfl)) hHeld ?_
          simp only [List.setIfInBounds_toArray, List.set_cons_zero, List.set_cons_succ]
          refine take_at (i := 9) 20 rfl rfl (by kernel_rfl) (by kernel_rfl) (by kernel_rfl) (fun _ _ _ h => h) (sure_yes (by rfl) (fun w => by go_simp; try with_reducible rfl)) hHeld ?_
          simp only [List.setIfInBounds_toArray, List.set_cons_zero, List.set_cons_succ]
          refine take_at (i := 11) 22 rfl rfl (by kernel_rfl) (by kernel_rfl) (by kernel_rfl) (fun _ _ _ h => h) (sure_yes (by rfl) (fun w => by go_simp; try with_reducible rfl)) hHeld ?_
          simp only [List.setIfInBounds_toArray, List.set_cons_zero, List.set_cons_succ]
          refine take_at (i := 12) 23 rfl rfl (by kernel_rfl) (by kernel_rfl) (by kernel_rfl) (fun _ _ _ h => h) (sure_yes (by rfl) (fun w => by go_simp; try with_reducible rfl)) hHeld ?_
          simp only [List.setIfInBounds_toArray, List.set_cons_zero, List.set_cons_succ]
          refine take_at (i := 13) 24 rfl rfl (by kernel_rfl) (by kernel_rfl) (by kernel_rfl) (fun _ _ _ h => h) (sure_yes (by rfl) (fun w => by go_simp; try with_reducible rfl)) hHeld ?_
          simp only [List.setIfInBounds_toArray, List.set_cons_zero, List.set_cons_succ]
          refine take_at (i := 14) 25 rfl rfl (by kernel_rfl) (by kernel_rfl) (by kernel_rfl) (fun _ _ _ h => h) (sure_yes (by rfl) (fun w => by go_simp; try with_reducible rfl)) hHeld ?_
          simp only [List.setIfInBounds_toArray, List.set_cons_zero, List.set_cons_succ]
          refine take_at (i := 10) 21 rfl rfl (by kernel_rfl) (by kernel_rfl) (by kernel_rfl) (fun _ _ _ h => h) (addr_yields (by rfl) 2 (.tmp 20) rfl (⟨(ad.add (k * 2)).block, (ad.add (k * 2)).off + 1, none⟩) rfl .i64 (q) Tryd.underlying2 (fun w h => (World.cell?_of_block (h.block _ (World.block_lt_of_cell? _ _ C1.out))).trans C1.out)) hHeld ?_
          simp only [List.setIfInBounds_toArray, List.set_cons_zero, List.set_cons_succ]
          refine take_at (i := 15) 26 rfl rfl (by kernel_rfl) (by kernel_rfl) (by kernel_rfl) (fun _ _ _ h => h) (addr_yields (by rfl) 3 (.tmp 25) rfl (ad.add (k * 2)) rfl .i64 ((i : Int)) Tryd.underlying3 (fun w h => (World.cell?_of_block (h.block _ (World.block_lt_of_cell? _ _ C0.out))).trans C0.out)) hHeld ?_
          simp only [List.setIfInBounds_toArray, List.set_cons_zero, List.set_cons_succ]
          refine take_at (i := 16) 27 rfl rfl (by kernel_rfl) (by kernel_rfl) (by kernel_rfl) (fun _ _ _ h => h) (sure_yes (by rfl) (fun w => by go_simp; try with_reducible rfl)) hHeld ?_
          simp only [List.setIfInBounds_toArray, List.set_cons_zero, List.set_cons_succ]
          refine take_at (i := 17) 28 rfl rfl (by kernel_rfl) (by kernel_rfl) (by kernel_rfl) (fun _ _ _ h => h) (addr_yields (by rfl) 2 (.tmp 27) rfl (⟨w.heap.size + 1, i, none⟩) rfl .i64 (m) Tryd.underlying2 (fun w h => (World.cell?_of_block (h.block _ (World.block_lt_of_cell? _ _ CM.out))).trans CM.out)) hHeld ?_
          simp only [List.setIfInBounds_toArray, List.set_cons_zero, List.set_cons_succ]
          refine take_at (i := 18) 29 rfl rfl (by kernel_rfl) (by kernel_rfl) (by kernel_rfl) (fun _ _ _ h => h) (sure_yes (by rfl) (fun w => by go_simp; try with_reducible rfl)) hHeld ?_
          simp only [List.setIfInBounds_toArray, List.set_cons_zero, List.set_cons_succ]
          refine take_at (i := 19) 30 rfl rfl (by kernel_rfl) (by kernel_rfl) (by kernel_rfl) (fun _ _ _ h => h) (sure_yes (by rfl) (fun w => by go_simp; try with_reducible rfl)) hHeld ?_
          simp only [List.setIfInBounds_toArray, List.set_cons_zero, List.set_cons_succ]
          refine wpAnyH_done (by kernel_rfl) ?_ _
          have c0 := (World.cell?_of_block (hHeld.block _ (World.block_lt_of_cell? _ _ C0.out))).trans C0.out
          have c1 := (World.cell?_of_block (hHeld.block _ (World.block_lt_of_cell? _ _ C1.out))).trans C1.out
          have HO6 := Lib.hid (row_kept HO.out hHeld)
          have HZ6 := Lib.hid (row_kept HZ.out hHeld)
          have HB6 := Lib.hid (below_next HB.out hHeld)
          clear hHeld C0 C1 CM HO HZ HB
          go_wp2
          go_still_tail 11, (by kernel_rfl)
          change wpList _ _ _ _ _ w6.drew
          have hz : w6.drew.heap[w.heap.size]? = _ := HZ6.out
          have ho : w6.drew.heap[w.heap.size + 1]? = _ := HO6.out
          have hb := below_draws HB6.out 1
          change Below _ _ w6.drew at hb
          clear HO6 HZ6 HB6 c0 c1
          generalize w6.drew = w7 at *
          go_wp2_with (first
            | (refine store_cell rfl 2 (.tmp 41) (.tmp 40) rfl rfl .i64 (w.heap.size + 1) i _ q 74 ho rfl rfl (by rw [nums_size]; omega) (by kernel_rfl) ?_; intro w8 hg8 hs8; rw [HS.out] at hg8; have H8 := Lib.hid (And.intro hg8 (And.intro ((hs8.block w.heap.size (by omega)).trans hz) (solo_below hb hs8 (by omega)))); clear hg8 hs8 hz ho hb))
          refine ⟨⟨k + 1, KK.out.1, by simp, H8.out.2.1, H8.out.1, H8.out.2.2⟩, ?_⟩
          simp [intOf]; exact KK.out.2
        · have d1 : decide (q > m) = false := decide_eq_false (by omega)
          have HS := Lib.hid (show nums 32 (allV (l.take (k + 1))) = nums 32 (allV (l.take k)) from nums_congr _ _ _ fun j _ => by
            rw [HA.out j, seen, if_neg (fun h => by
              obtain rfl : j = i := by have := h.2.1; simp only at this; omega
              rw [← hme] at h; exact hgt h.2.2)])
          clear hm HA hb hgt hme hi32
          go_wp2
          refine wp_region_held_drew (S := fun w' => Below wr.heap.size wr w') (by kernel_rfl) (drawS (Below.refl _ _)) (fun hHeld => ?_)
          generalize wr.drew = wd at hHeld ⊢
          refine take_at (i := 0) 11 rfl rfl (by kernel_rfl) (by kernel_rfl) (by kernel_rfl) (fun _ _ _ h => h) (sure_yes (by rfl) (fun w => by go_simp; try with_reducible rfl)) hHeld ?_
          simp only [List.setIfInBounds_toArray, List.set_cons_zero, List.set_cons_succ]
          refine take_at (i := 1) 12 rfl rfl (by kernel_rfl) (by kernel_rfl) (by kernel_rfl) (fun _ _ _ h => h) (sure_yes (by rfl) (fun w => by go_simp; try with_reducible rfl)) hHeld ?_
          simp only [List.setIfInBounds_toArray, List.set_cons_zero, List.set_cons_succ]
          refine take_at (i := 2) 13 rfl rfl (by kernel_rfl) (by kernel_rfl) (by kernel_rfl) (fun _ _ _ h => h) (sure_yes (by rfl) (fun w => by go_simp; try with_reducible rfl)) hHeld ?_
          simp only [List.setIfInBounds_toArray, List.set_cons_zero, List.set_cons_succ]
          refine take_at (i := 3) 14 rfl rfl (by kernel_rfl) (by kernel_rfl) (by kernel_rfl) (fun _ _ _ h => h) (dot_yields (by rfl) 32 (.tmp 13) rfl (ad.add (k * 2)) rfl (i : Int) q Tryd.underlying32 (by kernel_rfl) (fun w h => ⟨(World.cell?_of_block (h.block _ (World.block_lt_of_cell? _ _ C0.out))).trans C0.out, (World.cell?_of_block (h.block _ (World.block_lt_of_cell? _ _ C1.out))).trans C1.out⟩)) hHeld ?_
          simp only [List.setIfInBounds_toArray, List.set_cons_zero, List.set_cons_succ]
          refine wpAnyH_ready (rs := [4]) (by kernel_rfl) (by simp) ?_
          refine AllReadyH.cons rfl (fun K hK => ?_) AllReadyH.nil
          go_simp
          go_at_call 51
          refine (MY.out _).mono ?_
          rintro e w6 ⟨rfl, hb⟩
          dsimp only
          refine hK.out _ _ (below_next hHeld hb) (fun hHeld => ?_)
          clear hK K hb
          refine take_at (i := 5) 16 rfl rfl (by kernel_rfl) (by kernel_rfl) (by kernel_rfl) (fun _ _ _ h => h) (sure_yes (by rfl) (fun w => by go_simp; try with_reducible rfl)) hHeld ?_
          simp only [List.setIfInBounds_toArray, List.set_cons_zero, List.set_cons_succ]
          refine take_at (i := 6) 17 rfl rfl (by kernel_rfl) (by kernel_rfl) (by kernel_rfl) (fun _ _ _ h => h) (sure_yes (by rfl) (fun w => by go_simp; try with_reducible rfl)) hHeld ?_
          simp only [List.setIfInBounds_toArray, List.set_cons_zero, List.set_cons_succ]
          refine take_at (i := 7) 18 rfl rfl (by kernel_rfl) (by kernel_rfl) (by kernel_rfl) (fun _ _ _ h => h) (sure_yes (by rfl) (fun w => by go_simp; try with_reducible rfl)) hHeld ?_
          simp only [List.setIfInBounds_toArray, List.set_cons_zero, List.set_cons_succ]
          refine take_at (i := 8) 19 rfl rfl (by kernel_rfl) (by kernel_rfl) (by kernel_rfl) (fun _ _ _ h => h) (sure_yes (by rfl) (fun w => by go_simp; try with_reducible rfl)) hHeld ?_
          simp only [List.setIfInBounds_toArray, List.set_cons_zero, List.set_cons_succ]
          refine take_at (i := 9) 20 rfl rfl (by kernel_rfl) (by kernel_rfl) (by kernel_rfl) (fun _ _ _ h => h) (sure_yes (by rfl) (fun w => by go_simp; try with_reducible rfl)) hHeld ?_
          simp only [List.setIfInBounds_toArray, List.set_cons_zero, List.set_cons_succ]
          refine take_at (i := 11) 22 rfl rfl (by kernel_rfl) (by kernel_rfl) (by kernel_rfl) (fun _ _ _ h => h) (sure_yes (by rfl) (fun w => by go_simp; try with_reducible rfl)) hHeld ?_
          simp only [List.setIfInBounds_toArray, List.set_cons_zero, List.set_cons_succ]
          refine take_at (i := 12) 23 rfl rfl (by kernel_rfl) (by kernel_rfl) (by kernel_rfl) (fun _ _ _ h => h) (sure_yes (by rfl) (fun w => by go_simp; try with_reducible rfl)) hHeld ?_
          simp only [List.setIfInBounds_toArray, List.set_cons_zero, List.set_cons_succ]
          refine take_at (i := 13) 24 rfl rfl (by kernel_rfl) (by kernel_rfl) (by kernel_rfl) (fun _ _ _ h => h) (sure_yes (by rfl) (fun w => by go_simp; try with_reducible rfl)) hHeld ?_
          simp only [List.setIfInBounds_toArray, List.set_cons_zero, List.set_cons_succ]
          refine take_at (i := 14) 25 rfl rfl (by kernel_rfl) (by kernel_rfl) (by kernel_rfl) (fun _ _ _ h => h) (sure_yes (by rfl) (fun w => by go_simp; try with_reducible rfl)) hHeld ?_
          simp only [List.setIfInBounds_toArray, List.set_cons_zero, List.set_cons_succ]
          refine take_at (i := 10) 21 rfl rfl (by kernel_rfl) (by kernel_rfl) (by kernel_rfl) (fun _ _ _ h => h) (addr_yields (by rfl) 2 (.tmp 20) rfl (⟨(ad.add (k * 2)).block, (ad.add (k * 2)).off + 1, none⟩) rfl .i64 (q) Tryd.underlying2 (fun w h => (World.cell?_of_block (h.block _ (World.block_lt_of_cell? _ _ C1.out))).trans C1.out)) hHeld ?_
          simp only [List.setIfInBounds_toArray, List.set_cons_zero, List.set_cons_succ]
          refine take_at (i := 15) 26 rfl rfl (by kernel_rfl) (by kernel_rfl) (by kernel_rfl) (fun _ _ _ h => h) (addr_yields (by rfl) 3 (.tmp 25) rfl (ad.add (k * 2)) rfl .i64 ((i : Int)) Tryd.underlying3 (fun w h => (World.cell?_of_block (h.block _ (World.block_lt_of_cell? _ _ C0.out))).trans C0.out)) hHeld ?_
          simp only [List.setIfInBounds_toArray, List.set_cons_zero, List.set_cons_succ]
          refine take_at (i := 16) 27 rfl rfl (by kernel_rfl) (by kernel_rfl) (by kernel_rfl) (fun _ _ _ h => h) (sure_yes (by rfl) (fun w => by go_simp; try with_reducible rfl)) hHeld ?_
          simp only [List.setIfInBounds_toArray, List.set_cons_zero, List.set_cons_succ]
          refine take_at (i := 17) 28 rfl rfl (by kernel_rfl) (by kernel_rfl) (by kernel_rfl) (fun _ _ _ h => h) (addr_yields (by rfl) 2 (.tmp 27) rfl (⟨w.heap.size + 1, i, none⟩) rfl .i64 (m) Tryd.underlying2 (fun w h => (World.cell?_of_block (h.block _ (World.block_lt_of_cell? _ _ CM.out))).trans CM.out)) hHeld ?_
          simp only [List.setIfInBounds_toArray, List.set_cons_zero, List.set_cons_succ]
          refine take_at (i := 18) 29 rfl rfl (by kernel_rfl) (by kernel_rfl) (by kernel_rfl) (fun _ _ _ h => h) (sure_yes (by rfl) (fun w => by go_simp; try with_reducible rfl)) hHeld ?_
          simp only [List.setIfInBounds_toArray, List.set_cons_zero, List.set_cons_succ]
          refine take_at (i := 19) 30 rfl rfl (by kernel_rfl) (by kernel_rfl) (by kernel_rfl) (fun _ _ _ h => h) (sure_yes (by rfl) (fun w => by go_simp; try with_reducible rfl)) hHeld ?_
          simp only [List.setIfInBounds_toArray, List.set_cons_zero, List.set_cons_succ]
          refine wpAnyH_done (by kernel_rfl) ?_ _
          go_wp2
          refine ⟨⟨k + 1, KK.out.1, by simp, row_kept HZ.out hHeld, by rw [HS.out]; exact row_kept HO.out hHeld, below_next HB.out hHeld⟩, ?_⟩
          simp [intOf]; exact KK.out.2
    · have q0 : ¬ (k : Int) < (n : Int) := by omega
      have HE := Lib.hid (show l.take k = l by rw [show k = l.length by rw [← HN.out]; omega, List.take_length])
      rw [HE.out] at ho
      have HZ := Lib.hid hz
      have HO := Lib.hid ho
      have HB := Lib.hid hb
      clear hz ho hb
      go_wp2_with (first
        | (refine wpList_load_row rfl 74 (.tmp 3) rfl (w.heap.size + 1) rfl 74 _ (0, 0) _ HO.out Tryd.underlying74 rfl (by rw [nums_size]; kernel_rfl) ?_)
        | (refine wpList_store_row rfl 74 (.tmp 2) (.tmp 42) rfl w.heap.size _ rfl rfl 74 _ HZ.out (by rw [nums_size]; kernel_rfl) (by rw [nums_size, nums_size]) (nums_one _ _) ?_))
      exact bodyPost_ret (results_cell_row Tryd.results49 _ _ w.heap.size 74 _ (0, 0) _ rfl (setRow_heap _ _ _ _ _ _ HZ.out) Tryd.underlying74 rfl (by rw [nums_size]; kernel_rfl)) rfl ⟨rfl, below_setRow HB.out (Nat.le_refl _) _⟩
end Go.Proofs.YthkojphgjlojgaaDoor
namespace Go.Proofs.YthkojphgjlojgaaDoor
open Go.RowKit
/-- A dot loaded from an address whose two cells are known. -/
theorem load_dot10 {P : Program} {ops : Array Oper} {rest : List Oper} {o : Oper} {a : Act} {w : World} {Q : Exit → Act → World → Prop} (hw : Region.wanted o (yielded ops a.tmps) = true) (ty : TypeId) (x : Operand) (ho : o.op = .load ty x)
    (A : Addr) (hx : a.eval x = .pointer (some A)) (r q : Int) {fs : Array Field} (hu : P.underlying ty = some (.struct fs)) (hi : (P.info? ty).map (·.size) = some 2) (hc : w.cell? A = some (.int .i64 r) ∧ w.cell? ⟨A.block, A.off + 1, none⟩ = some (.int .i64 q))
    (h : wpList P ops Q rest (a.put o.dst (.agg #[.int .i64 r, .int .i64 q])) w) : wpList P ops Q (o :: rest) a w := by
  rcases dot_yields (S := fun w' => w' = w) hw ty x ho A hx r q hu hi (fun w' e => by rw [e]; exact hc) with ⟨-, hy⟩ | ⟨hn, -⟩
  · refine wpList_step fun K hK => ?_
    rw [if_pos hw]
    unfold Oper.wp
    rw [hy w rfl]
    exact hK _ _ h
  · rw [hw] at hn; cases hn
theorem infoDot : ∃ i, Tryd.prog.info? 32 = some i ∧ (i.zero.map (·.cells.size), i.size, i.bytes) = (some 2, 2, 16) := by
  have h : (Tryd.prog.info? 32).map (fun i => (i.zero.map (·.cells.size), i.size, i.bytes)) = some (some 2, 2, 16) := by kernel_rfl
  cases hi : Tryd.prog.info? 32 with
  | none => rw [hi] at h; cases h
  | some i => rw [hi] at h; exact ⟨i, rfl, Option.some.inj h⟩
set_option maxRecDepth 100000 in
theorem dot_built2 (r q : Int) : Tryd.prog.built 32 [(0, .int .i64 r), (1, .int .i64 q)] = some #[.int .i64 r, .int .i64 q] := by rfl
set_option maxRecDepth 100000 in
set_option maxHeartbeats 16000000 in
theorem refOf_typ (f : Nat → Int) (w : World) : Calls Tryd.prog 50 #[.agg (nums 32 f)] w fun e w' => ∃ v, e = .returned v ∧ TypDots w' v (ofV f) ∧ Below w.heap.size w w' := by
  obtain ⟨i0, hi, hz⟩ := infoDot
  have HX := Lib.hid (heap_last w (.cells (nums 32 f) 74 (0, 0)))
  have HB := Lib.hid ((Below.refl w.heap.size w).alloc (Nat.le_refl _) (.cells (nums 32 f) 74 (0, 0)))
  have HW := Lib.hid (show w.heap.size < (w.alloc (.cells (nums 32 f) 74 (0, 0))).heap.size by simp)
  go_enter Tryd.func50, Tryd.ntmps50
  go_wp2
  go_loopw [3, 4] (fun v c wr => ∃ k : Nat, k ≤ 32 ∧ c = .int .i64 (k : Int) ∧ wr.ownsRow (w.heap.size + 1) 32 2 v (ofN f k).length (dotsC (ofN f k)) ∧ wr.heap[w.heap.size]? = some (.cells (nums 32 f) 74 (0, 0)) ∧ w.heap.size < wr.heap.size ∧ Below w.heap.size w wr) (fun _ c _ => 32 - (intOf c).toNat)
  case atStart => exact ⟨0, by omega, rfl, dots_own_nil _ _ _, HX.out, HW.out, HB.out⟩
  case round =>
    clear HX HB HW
    obtain ⟨k, hk, rfl, ho, hx, hs, hb⟩ := hrel
    have HO := Lib.hid ho
    have HX := Lib.hid hx
    have HB := Lib.hid hb
    have HS := Lib.hid hs
    by_cases hlt : k < 32
    · have q0 : (k : Int) < 32 := by omega
      have c0 := nums_cell HX.out k hlt
      have HL := Lib.hid (ofN_length f k)
      have KK := Lib.hid (show k + 1 ≤ 32 ∧ 32 - (k + 1) < 32 - k by omega)
      obtain ⟨m, hm⟩ : ∃ m, m = f k := ⟨_, rfl⟩
      rw [← hm] at c0
      by_cases hp : 0 < m
      · have d1 : decide (m > 0) = true := decide_eq_true hp
        have HN := Lib.hid (show ofN f (k + 1) = ofN f k ++ [((k : Int), m)] by rw [ofN, if_pos (by rw [← hm]; exact hp), ← hm])
        clear hp hm ho hx hb hs hlt
        go_wp2_with (first
          | (refine build_on (by rfl) 32 #[(0, .tmp 14), (1, .tmp 17)] rfl _ _ (dot_built2 (k : Int) m) (by simp [Act.eval]) ?_)
          | (at_builtin; refine append_dot rfl (.tmp 13) (.tmp 19) 26 rfl (w.heap.size + 1) 32 i0 Tryd.underlying26 hi hz _ (ofN f k) ((k : Int), m) rfl (HO.out.alloc _) ⟨wr.heap.size, 0, none⟩ 1 rfl ⟨(cell_of_row _ _ 0 _ _ _ (heap_last wr _)).trans rfl, by rw [Addr.add_lit]; exact (cell_of_row _ _ (0 + 1) _ _ _ (heap_last wr _)).trans rfl⟩ (by have := HL.out; have := KK.out.1; omega) (by have := HS.out; simp <;> omega) ?_; intro v1 w1 ho hg; rw [← HN.out] at ho; have HO1 := Lib.hid ho; have HB1 := Lib.hid (below_grown (HB.out.alloc HB.out.size _) hg (by have := HS.out; simp <;> omega) (fun j hj => by have := (HO.out.lt j hj).1; omega)); have HX1 := Lib.hid (show w1.heap[w.heap.size]? = some (.cells (nums 32 f) 74 (0, 0)) from (hg.block w.heap.size (by have := HS.out; simp <;> omega) (fun h => by have := (HO.out.lt _ h.symm).1; omega)).trans (by rw [heap_at_alloc, if_neg (by have := HS.out; omega)]; exact HX.out)); have HS1 := Lib.hid (show w.heap.size < w1.heap.size from Nat.lt_of_lt_of_le HS.out (Nat.le_trans (by simp) hg.size)); clear ho hg))
        refine ⟨⟨k + 1, KK.out.1, by simp, HO1.out, HX1.out, HS1.out, HB1.out⟩, ?_⟩
        have := KK.out.2; simp [intOf]; omega
      · have d1 : decide (m > 0) = false := decide_eq_false hp
        have HN := Lib.hid (show ofN f (k + 1) = ofN f k by rw [ofN, if_neg (by rw [← hm]; exact hp), List.append_nil])
        clear hp hm ho hx hb hs hlt
        go_wp2
        refine ⟨⟨k + 1, KK.out.1, by simp, by rw [HN.out]; exact HO.out, HX.out, HS.out, HB.out⟩, ?_⟩
        have := KK.out.2; simp [intOf]; omega
    · have q0 : ¬ (k : Int) < 32 := by omega
      obtain rfl : k = 32 := by omega
      have HD := Lib.hid (typ_of_own HO.out)
      clear ho hx hb hs hlt
      go_wp2
      go_ret
      exact ⟨_, rfl, HD.out, HB.out⟩
end Go.Proofs.YthkojphgjlojgaaDoor
namespace Go.Proofs.YthkojphgjlojgaaDoor
open Go.RowKit
/-- The cells of an event; v is the slice of what was known. -/
def evC (e : Ev) (v : Value) : Array Value := #[.int .i64 e.r, .int .i64 e.q, v, .int .i64 e.kind, .string (str e.path)] ++ row .u8 32 e.sum ++ #[.int .i64 e.size]
theorem evC_size (e : Ev) (v : Value) : (evC e v).size = 38 := by simp [evC, row_size]
theorem evC_at (e : Ev) (v : Value) : (evC e v)[0]? = some (.int .i64 e.r) ∧ (evC e v)[1]? = some (.int .i64 e.q) ∧ (evC e v)[2]? = some v ∧ (evC e v)[3]? = some (.int .i64 e.kind) ∧ (evC e v)[4]? = some (.string (str e.path)) ∧ (evC e v)[37]? = some (.int .i64 e.size) := by
  refine ⟨?_, ?_, ?_, ?_, ?_, ?_⟩
  iterate 5 simp [evC, row_size]
  unfold evC
  rw [Array.getElem?_append_right (by simp [row_size])]
  simp [row_size]
theorem evC_sum (e : Ev) (v : Value) (j : Nat) (u : Value) (h : (row .u8 32 e.sum).toList[j]? = some u) : (evC e v)[5 + j]? = some u := by
  have hj : j < 32 := by have := (List.getElem?_eq_some_iff.1 h).1; simpa [row_size] using this
  rw [Array.getElem?_toList] at h
  unfold evC
  rw [Array.getElem?_append_left (by simp [row_size]; omega), Array.getElem?_append_right (by simp)]
  simpa using h
theorem evC_one (e : Ev) (v : Value) (hv : v.oneCell' = true) : (evC e v).all (·.oneCell') = true := by
  have hr := row_one .u8 32 e.sum
  rw [Array.all_eq_true_iff_forall_mem] at hr ⊢
  intro x hx
  unfold evC at hx
  rcases Array.mem_append.1 hx with hx | hx
  · rcases Array.mem_append.1 hx with hx | hx
    · simp only [List.mem_toArray, List.mem_cons, List.not_mem_nil, or_false] at hx
      rcases hx with rfl | rfl | rfl | rfl | rfl
      · rfl
      · rfl
      · exact hv
      · rfl
      · rfl
    · exact hr x hx
  · simp only [List.mem_toArray, List.mem_cons, List.not_mem_nil, or_false] at hx
    subst hx; rfl
theorem evC_same {e f : Ev} (h : SameE e f) (v : Value) : evC e v = evC f v := by
  obtain ⟨h1, h2, h3, h4, h5, h6, h7⟩ := h
  have hr : row .u8 32 e.sum = row .u8 32 f.sum := row_congr _ _ _ _ ((sameRow_iff _ _ _).1 h6)
  simp only [evC, h1, h2, h4, h5, h7, hr]
/-- A block that is an event. -/
def EvAt (w : World) (B : Nat) (T : TypeId) (e : Ev) (v : Value) : Prop := w.heap[B]? = some (.cells (evC e v) T (0, 0))
theorem evAt_kept {w w' : World} {B : Nat} {T : TypeId} {e : Ev} {v : Value} (h : EvAt w B T e v) (hb : Below w.heap.size w w') : EvAt w' B T e v :=
  (hb.block B (Array.getElem?_eq_some_iff.1 h).1).trans h
theorem evAt_cell {w : World} {B : Nat} {T : TypeId} {e : Ev} {v : Value} (h : EvAt w B T e v) (j : Nat) (u : Value) (hu : (evC e v)[j]? = some u) : w.cell? ⟨B, j, none⟩ = some u := by
  unfold EvAt at h
  simp only [World.cell?, h]
  exact hu
theorem evAt_cells {w : World} {B : Nat} {T : TypeId} {e : Ev} {v : Value} (h : EvAt w B T e v) :
    w.cell? ⟨B, 0, none⟩ = some (.int .i64 e.r) ∧ w.cell? ⟨B, 1, none⟩ = some (.int .i64 e.q) ∧ w.cell? ⟨B, 2, none⟩ = some v ∧ w.cell? ⟨B, 3, none⟩ = some (.int .i64 e.kind) ∧ w.cell? ⟨B, 4, none⟩ = some (.string (str e.path)) ∧ w.cell? ⟨B, 37, none⟩ = some (.int .i64 e.size) := by
  obtain ⟨h0, h1, h2, h3, h4, h5⟩ := evC_at e v
  exact ⟨evAt_cell h _ _ h0, evAt_cell h _ _ h1, evAt_cell h _ _ h2, evAt_cell h _ _ h3, evAt_cell h _ _ h4, evAt_cell h _ _ h5⟩
theorem evAt_dot {w : World} {B : Nat} {T : TypeId} {e : Ev} {v : Value} (h : EvAt w B T e v) : w.cell? ⟨B, 0, none⟩ = some (.int .i64 e.r) ∧ w.cell? ⟨(⟨B, 0, none⟩ : Addr).block, (⟨B, 0, none⟩ : Addr).off + 1, none⟩ = some (.int .i64 e.q) := ⟨(evAt_cells h).1, (evAt_cells h).2.1⟩
theorem evAt_sum {w : World} {B : Nat} {T : TypeId} {e : Ev} {v : Value} (h : EvAt w B T e v) : w.rangeAt B 5 (row .u8 32 e.sum).toList := fun j u hu => evAt_cell h _ _ (evC_sum e v j u hu)
theorem box_ev (w : World) (T : TypeId) (e : Ev) (v : Value) : EvAt (w.alloc (.cells (evC e v) T (0, 0))) w.heap.size T e v := heap_last _ _
/-- A row loaded out of the middle of a block, where the operation's guard lets it run. -/
theorem load_mid_on {P : Program} {ops : Array Oper} {rest : List Oper} {o : Oper} {a : Act} {w : World} {Q : Exit → Act → World → Prop} (hw : Region.wanted o (yielded ops a.tmps) = true) (ty : TypeId) (x : Operand) (ho : o.op = .load ty x)
    (b n : Nat) (hx : a.eval x = .pointer (some ⟨b, n, none⟩)) (cs : List Value) (d : TypeDesc) (hc : w.rangeAt b n cs) (hu : P.underlying ty = some d) (hd : d.isRow = true) (hi : (P.info? ty).map (·.size) = some cs.length)
    (h : wpList P ops Q rest (a.put o.dst (.agg cs.toArray)) w) : wpList P ops Q (o :: rest) a w := by
  rcases yieldsIf_load_mid (S := fun w' => w' = w) hw ty x ho b n hx cs d (fun w' e => by rw [e]; exact hc) hu hd hi with ⟨-, hy⟩ | ⟨hn, -⟩
  · refine wpList_step fun K hK => ?_
    rw [if_pos hw]
    unfold Oper.wp
    rw [hy w rfl]
    exact hK _ _ h
  · rw [hw] at hn; cases hn
theorem load_sum_on {P : Program} {ops : Array Oper} {rest : List Oper} {o : Oper} {a : Act} {w : World} {Q : Exit → Act → World → Prop} (hw : Region.wanted o (yielded ops a.tmps) = true) (ty : TypeId) (x : Operand) (ho : o.op = .load ty x)
    (b : Nat) (hx : a.eval x = .pointer (some ⟨b, 5, none⟩)) {T : TypeId} {e : Ev} {v : Value} {n : Nat} {u : TypeId} (hc : EvAt w b T e v) (hu : P.underlying ty = some (.array n u)) (hi : (P.info? ty).map (·.size) = some 32)
    (h : wpList P ops Q rest (a.put o.dst (rowV .u8 32 e.sum)) w) : wpList P ops Q (o :: rest) a w :=
  load_mid_on hw ty x ho b 5 hx (row .u8 32 e.sum).toList _ (evAt_sum hc) hu rfl (by rw [hi]; simp [row_size]) (by rwa [Array.toArray_toList])
/-- A whole event loaded. -/
theorem load_ev_on {P : Program} {ops : Array Oper} {rest : List Oper} {o : Oper} {a : Act} {w : World} {Q : Exit → Act → World → Prop} (hw : Region.wanted o (yielded ops a.tmps) = true) (ty : TypeId) (x : Operand) (ho : o.op = .load ty x)
    (b : Nat) (hx : a.eval x = .pointer (some ⟨b, 0, none⟩)) {T : TypeId} {e : Ev} {v : Value} {fs : Array Field} (hc : EvAt w b T e v) (hu : P.underlying ty = some (.struct fs)) (hi : (P.info? ty).map (·.size) = some 38)
    (h : wpList P ops Q rest (a.put o.dst (.agg (evC e v))) w) : wpList P ops Q (o :: rest) a w :=
  load_row_on hw ty x ho b hx T _ (0, 0) _ hc hu rfl (by rw [hi, evC_size]) h
/-- One cell loaded, where the operation's guard lets it run. -/
theorem load_str_on {P : Program} {ops : Array Oper} {rest : List Oper} {o : Oper} {a : Act} {w : World} {Q : Exit → Act → World → Prop} (hw : Region.wanted o (yielded ops a.tmps) = true) (ty : TypeId) (x : Operand) (ho : o.op = .load ty x)
    (A : Addr) (hx : a.eval x = .pointer (some A)) (s : ByteArray) (hu : P.underlying ty = some .string) (hc : w.cell? A = some (.string s))
    (h : wpList P ops Q rest (a.put o.dst (.string s)) w) : wpList P ops Q (o :: rest) a w := by
  have hy : (execOp a.eval o).run P w = .ok (.value (.string s)) w := by
    unfold execOp
    simp [ho, hx, Instr.loadAt, Instr.sureAddr, loadVar, isAgg, run_underlying hu, hc]
  refine wpList_step fun K hK => ?_
  rw [if_pos hw]
  unfold Oper.wp
  rw [hy]
  exact hK _ _ h
end Go.Proofs.YthkojphgjlojgaaDoor
