/-
Texts that all claims of this seat share, part 1: VecMore, Ref04Read, Ref06, Texts, Ref06Copy, HexaFace, Ref09, Ref09Text, Ref09Parse, VecSeq, MatSeq, Mat.
-/
import Derived.Test.YtcnjgdnokiindaaDoorProg
import Derived.WalkKit
import Derived.Lib.Hide
import Derived.WalkLawsBesides
import Derived.Laws.DeepStrings4
import Derived.BigQuiet
import Derived.Deep.QuietTactic
import Derived.Laws.AppendOwn
import Derived.Lib.ItoaNum
import Derived.Lib.LaidTab
import Derived.Deep.DeepCutAuto
import Derived.Test.YtcnjgdnokiindaaDoorShelf
import Derived.Lib.IndexLaws
import Derived.OneCell
import Derived.Test.YtcnjgdnokiindaaDoorPk0
namespace Go.Proofs.YtcnjgdnokiindaaDoor
/-- Whether a dot may stand next behind others. -/
def fol (l : List D2) (d : D2) : Bool := mayT d && (l.isEmpty || decide ((l.getLastD (0, 0)).1 < d.1))
/-- Dots that may be, of rising replicas. -/
def Rising (l : List D2) : Prop := l.Pairwise (fun a b => a.1 < b.1) ∧ ∀ d ∈ l, mayT d = true
theorem rising_nil : Rising [] := ⟨List.Pairwise.nil, fun _ h => by cases h⟩
theorem rising_snoc (l : List D2) (d : D2) : Rising (l ++ [d]) ↔ Rising l ∧ fol l d = true := by
  unfold Rising fol
  rw [List.pairwise_append, Bool.and_eq_true, Bool.or_eq_true, decide_eq_true_eq]
  constructor
  · rintro ⟨⟨h1, -, h2⟩, h3⟩
    refine ⟨⟨h1, fun x hx => h3 x (List.mem_append.2 (.inl hx))⟩, h3 d (by simp), ?_⟩
    by_cases h : l = []
    · left; rw [h]; rfl
    · right
      obtain ⟨a, b, rfl⟩ := list_snoc l h
      rw [List.getLastD_concat]; exact h2 b (by simp) d (by simp)
  · rintro ⟨⟨h1, h2⟩, h3, h4⟩
    refine ⟨⟨h1, List.pairwise_singleton _ _, fun x hx y hy => ?_⟩, fun x hx => ?_⟩
    · rw [List.mem_singleton.1 hy]
      rcases h4 with h4 | h4
      · rw [List.isEmpty_iff.1 h4] at hx; cases hx
      · obtain ⟨a, b, rfl⟩ := list_snoc l (fun e => by rw [e] at hx; cases hx)
        rw [List.getLastD_concat] at h4
        rcases List.mem_append.1 hx with hx | hx
        · have := (List.pairwise_append.1 h1).2.2 x hx b (by simp); omega
        · rw [List.mem_singleton.1 hx]; exact h4
    · rcases List.mem_append.1 hx with hx | hx
      · exact h2 x hx
      · rw [List.mem_singleton.1 hx]; exact h3
theorem allV_none {l : List D2} {i : Nat} (h : ∀ d ∈ l, d.1 ≠ (i : Int)) : allV l i = 0 := by
  revert h
  refine snoc_ind (P := fun l => (∀ d ∈ l, d.1 ≠ (i : Int)) → allV l i = 0) (fun _ => rfl) ?_ l
  intro l a ih h
  rw [allV_snoc, ih (fun d hd => h d (List.mem_append.2 (.inl hd))), seen, if_neg (fun hh => h a (by simp) hh.2.1)]
theorem ofN_stay {n : Nat → Int} {k : Nat} : ∀ m, k ≤ m → (∀ i, k ≤ i → i < m → n i = 0) → ofN n m = ofN n k := by
  intro m
  induction m with
  | zero => intro h _; rw [show k = 0 by omega]
  | succ m ih =>
    intro h h0
    by_cases e : k = m + 1
    · rw [e]
    · rw [ofN, ih (by omega) (fun i h1 h2 => h0 i h1 (by omega)), h0 m (by omega) (by omega), if_neg (by omega), List.append_nil]
theorem rising_of {l : List D2} (h : Rising l) : ∀ N : Nat, (∀ d ∈ l, d.1 < (N : Int)) → ofN (allV l) N = l := by
  revert h
  refine snoc_ind (P := fun l => Rising l → ∀ N : Nat, (∀ d ∈ l, d.1 < (N : Int)) → ofN (allV l) N = l) ?_ ?_ l
  · intro _ N _
    exact ofN_stay (n := allV []) (k := 0) N (Nat.zero_le _) (fun i _ _ => rfl)
  · intro l d ih h N hN
    have hh := (rising_snoc l d).1 h
    have hm := mayT_bd (h.2 d (by simp))
    have hlt : ∀ x ∈ l, x.1 < d.1 := fun x hx => (List.pairwise_append.1 h.1).2.2 x hx d (by simp)
    obtain ⟨k, hk⟩ : ∃ k : Nat, d.1 = (k : Int) := ⟨d.1.toNat, by omega⟩
    have hkN : k < N := by have := hN d (by simp); omega
    have h0 : allV l k = 0 := allV_none fun x hx => by have := hlt x hx; omega
    have hbig : ∀ i, k + 1 ≤ i → i < N → allV (l ++ [d]) i = 0 := fun i h1 _ => allV_none fun x hx => by
      rcases List.mem_append.1 hx with hx | hx
      · have := hlt x hx; omega
      · rw [List.mem_singleton.1 hx]; omega
    have hd : allV (l ++ [d]) k = d.2 := by
      rw [allV_snoc, h0, seen, if_pos ⟨h.2 d (by simp), hk, by omega⟩]
    rw [ofN_stay (k := k + 1) N (by omega) hbig, ofN, hd, if_pos (by omega)]
    rw [ofN_congr (m := allV l) (fun i hi => by rw [allV_snoc, seen, if_neg (fun hh => by have := hh.2.1; omega)]), ih hh.1 k (fun x hx => by have := hlt x hx; omega), ← hk]
theorem ofN_rising {n : Nat → Int} (h : Cnt n) : ∀ k, k ≤ 32 → Rising (ofN n k) := by
  intro k
  induction k with
  | zero => intro _; exact rising_nil
  | succ k ih =>
    intro hk
    rw [ofN]
    by_cases hp : 0 < n k
    · rw [if_pos hp, rising_snoc]
      refine ⟨ih (by omega), ?_⟩
      have hc := h k (by omega)
      have hm : mayT ((k : Int), n k) = true := decide_eq_true (by simp only; omega)
      rw [fol, hm, Bool.true_and, Bool.or_eq_true, decide_eq_true_eq]
      by_cases e : ofN n k = []
      · left; rw [e]; rfl
      · right
        obtain ⟨a, b, hab⟩ := list_snoc _ e
        rw [hab, List.getLastD_concat]
        obtain ⟨i, h1, h2, -⟩ := ofN_mem (n := n) (k := k) (d := b) (by rw [hab]; simp)
        rw [h2]; simp only; omega
    · rw [if_neg hp, List.append_nil]; exact ih (by omega)
theorem mayV_rising (l : List D2) : mayV l = true ↔ Rising l := by
  rw [mayV, beq_iff_eq]
  constructor
  · intro h; rw [h]; exact ofN_rising (allV_cnt l) 32 (Nat.le_refl _)
  · intro h; exact (rising_of h 32 (fun d hd => by have := mayT_bd (h.2 d hd); omega)).symm
/-- A vector, dot by dot. -/
theorem mayV_take {l : List D2} {k : Nat} {d : D2} (hd : l[k]? = some d) : mayV (l.take (k + 1)) = (mayV (l.take k) && fol (l.take k) d) := by
  obtain ⟨h, rfl⟩ := List.getElem?_eq_some_iff.1 hd
  rw [List.take_add_one, List.getElem?_eq_getElem h, Bool.eq_iff_iff, Bool.and_eq_true, mayV_rising, mayV_rising]
  exact rising_snoc _ _
theorem mayV_ahead {l : List D2} {k : Nat} (h : mayV (l.take k) = false) : mayV l = false := by
  cases hh : mayV l with
  | false => rfl
  | true =>
    have h1 := (mayV_rising l).1 hh
    have : mayV (l.take k) = true := (mayV_rising _).2 ⟨h1.1.sublist (List.take_sublist k l), fun d hd => h1.2 d (List.mem_of_mem_take hd)⟩
    rw [h] at this; cases this
theorem mayV_nil : mayV [] = true := (mayV_rising []).2 rising_nil
theorem rising_length {l : List D2} (h : mayV l = true) : l.length ≤ 32 := by
  rw [mayV, beq_iff_eq] at h
  rw [h]; exact ofN_length _ 32
theorem rising_vec {l : List D2} (h : mayV l = true) : vecOf l = l := by
  rw [mayV, beq_iff_eq] at h; exact h.symm
/-- Pieces from the front. -/
theorem cut_from (c : UInt8) (r : List UInt8) : ∀ ps, r.foldl (cutStep c) (ps, []) = (ps ++ (cutS c r).1, (cutS c r).2) := by
  intro ps
  refine snoc_ind (P := fun r => r.foldl (cutStep c) (ps, []) = (ps ++ (cutS c r).1, (cutS c r).2)) (by simp [cutS]) ?_ r
  intro r b ih
  rw [List.foldl_append, ih, cutS_snoc, List.foldl_cons, List.foldl_nil, cutStep, cutStep]
  by_cases h : b = c
  · rw [if_pos h, if_pos h]; simp
  · rw [if_neg h, if_neg h]
theorem pieces_front {c : UInt8} {p r : List UInt8} (hp : c ∉ p) : piecesB c (p ++ c :: r) = p :: piecesB c r := by
  rw [piecesB, piecesB, cutS, List.foldl_append, cut_fold p _ hp, List.foldl_cons, cutStep, if_pos rfl, cut_from]
  simp
theorem pieces_last {c : UInt8} {p : List UInt8} (hp : c ∉ p) : piecesB c p = [p] := by
  rw [piecesB, cutS, cut_fold p _ hp]; simp
theorem pieces_length (c : UInt8) (s : List UInt8) : (piecesB c s).length ≤ s.length + 1 := by
  have := pieces_count c s
  rw [piecesB, List.length_append, List.length_singleton]; omega
/-- What is read piece by piece: the dots so far, as long as each one may follow. -/
def goodP (ps : List (List UInt8)) : Bool := ps.all (fun p => parErr p == 0) && mayV (ps.map dotOf)
theorem goodP_nil : goodP [] = true := by rw [goodP]; simp [mayV_nil]
theorem goodP_snoc (ps : List (List UInt8)) (p : List UInt8) : goodP (ps ++ [p]) = (goodP ps && (parErr p == 0 && fol (ps.map dotOf) (dotOf p))) := by
  have h : mayV (ps.map dotOf ++ [dotOf p]) = (mayV (ps.map dotOf) && fol (ps.map dotOf) (dotOf p)) := by
    rw [Bool.eq_iff_iff, Bool.and_eq_true, mayV_rising, mayV_rising]; exact rising_snoc _ _
  rw [goodP, List.all_append, List.map_append, List.map_cons, List.map_nil, h, goodP]
  simp only [List.all_cons, List.all_nil, Bool.and_true]
  cases ps.all (fun p => parErr p == 0) <;> cases (parErr p == 0) <;> cases mayV (ps.map dotOf) <;> rfl
theorem goodP_prefix {ps qs : List (List UInt8)} (h : ps <+: qs) (hg : goodP ps = false) : goodP qs = false := by
  obtain ⟨r, rfl⟩ := h
  revert hg
  refine snoc_ind (P := fun r => goodP ps = false → goodP (ps ++ r) = false) (fun h => by rwa [List.append_nil]) ?_ r
  intro r a ih hg
  rw [← List.append_assoc, goodP_snoc, ih hg]; rfl
theorem dotT_dotOf {p : List UInt8} (h : parErr p = 0) : dotT (dotOf p) = p := by
  rcases parErr_cases p with ⟨-, h1⟩ | ⟨h2, -, -⟩
  · exact (text_parse9 h1).2
  · rw [h] at h2; cases h2
theorem isVecT_good (s : List UInt8) : isVecT s = (if s = [45] then true else goodP (piecesB 44 s)) := by
  by_cases h : s = [45]
  · rw [if_pos h, h]; decide +kernel
  · rw [if_neg h]
    have hps : vecPs s = piecesB 44 s := by rw [vecPs, if_neg h]
    rw [Bool.eq_iff_iff]
    constructor
    · intro h1
      have h2 := (text_parseV h1).1
      have h3 : parV s = dotsOf s := by rw [parV, h1]; rfl
      rw [h3, dotsOf, hps] at h2
      rw [isVecT, Bool.and_eq_true, hps] at h1
      rw [goodP, Bool.and_eq_true]; exact ⟨h1.1, h2⟩
    · intro h1
      rw [goodP, Bool.and_eq_true] at h1
      have h4 : vecOf (dotsOf s) = dotsOf s := rising_vec (by rw [dotsOf, hps]; exact h1.2)
      rw [isVecT, Bool.and_eq_true, hps, beq_iff_eq]
      refine ⟨h1.1, ?_⟩
      have h5 : (dotsOf s).map dotT = piecesB 44 s := by
        rw [dotsOf, hps, List.map_map]
        conv => rhs; rw [← List.map_id (piecesB 44 s)]
        exact List.map_congr_left fun p hp => dotT_dotOf (by have := List.all_eq_true.1 h1.1 p hp; simpa using this)
      rw [textV, h4, textL, if_neg (fun e => by rw [e] at h5; simp [piecesB] at h5), h5, join_cut]
theorem par_good {s : List UInt8} (h : s ≠ [45]) (hg : goodP (piecesB 44 s) = true) : parVErr s = 0 ∧ parV s = (piecesB 44 s).map dotOf := by
  have h1 : isVecT s = true := by rw [isVecT_good, if_neg h]; exact hg
  rw [parVErr, parV, h1, dotsOf, vecPs, if_neg h]; exact ⟨rfl, rfl⟩
theorem par_bad {s : List UInt8} (h : s ≠ [45]) (hg : goodP (piecesB 44 s) = false) : parVErr s = 2 ∧ parV s = [] := by
  have h1 : isVecT s = false := by rw [isVecT_good, if_neg h]; exact hg
  rw [parVErr, parV, h1]; exact ⟨rfl, rfl⟩
theorem par_hyphen : parVErr [45] = 0 ∧ parV [45] = [] := by
  have h1 : isVecT [45] = true := by rw [isVecT_good, if_pos rfl]
  rw [parVErr, parV, h1]; exact ⟨rfl, rfl⟩
end Go.Proofs.YtcnjgdnokiindaaDoor
namespace Go.Proofs.YtcnjgdnokiindaaDoor
open Go.RowKit
theorem read_bad {s : List UInt8} (h : isNum s = false) (most : Int) : readN s most = 0 ∧ readErr s most = 2 := by simp [readN, readErr, h]
theorem read_over {s : List UInt8} {most : Int} (h : isNum s = true) (hm : most < valN s) : readN s most = 0 ∧ readErr s most = 8 := by simp [readN, readErr, h, hm]
theorem read_good {s : List UInt8} {most : Int} (h : isNum s = true) (hm : ¬ most < valN s) : readN s most = valN s ∧ readErr s most = 0 := by simp [readN, readErr, h, hm]
/-- A number's text begins with no hyphen. -/
theorem num_isNum (s : List UInt8) (hl : 0 < s.length) (h19 : s.length ≤ 19) (hd : ∀ c ∈ s, isDig c = true) (x : Int) (hx : x = IntKind.i64.wrap (valN s)) :
    (numL x == s) = isNum s ∧ (isNum s = true → x = valN s) := by
  have hv := valN_lt s hd
  have h10 : 10 ^ s.length ≤ 10 ^ 19 := Nat.pow_le_pow_right (by decide) h19
  have he : s.isEmpty = false := by cases s with | nil => simp at hl | cons a l => rfl
  have hall : s.all isDig = true := List.all_eq_true.2 hd
  rw [IntKind.wrap_i64] at hx
  by_cases hm : valN s < 9223372036854775808
  · have hx' : x = valN s := by omega
    subst hx'
    exact ⟨by simp [isNum, he, h19, hall, hm, numL_nonneg], fun _ => rfl⟩
  · have hneg : x < 0 := by
      have : (10 : Nat) ^ 19 = 10000000000000000000 := by decide
      omega
    have hn : isNum s = false := by simp [isNum, hm]
    refine ⟨?_, fun h => by rw [hn] at h; cases h⟩
    rw [hn]
    have : numL x = 45 :: digs x.natAbs := by unfold numL; rw [if_pos hneg]
    rw [this]
    cases s with
    | nil => rfl
    | cons a l =>
      have ha := hd a (by simp)
      have : (45 : UInt8) ≠ a := fun h => by rw [← h] at ha; exact absurd ha (by decide)
      simp [this]
theorem wrap_val (s : List UInt8) (k : Nat) (c : UInt8) (hc : s[k]? = some c) (hd : ∀ j, j < k → ∀ c, s[j]? = some c → isDig c = true) (h18 : k ≤ 18) :
    ∃ v : Nat, v = valN (s.take k) ∧ v < 1000000000000000000 ∧ IntKind.i64.wrap (valN (s.take k)) = (v : Int) ∧ valN (s.take (k + 1)) = 10 * v + (c.toNat - 48) := by
  have hk : k < s.length := (List.getElem?_eq_some_iff.1 hc).1
  have hl : (s.take k).length = k := by rw [List.length_take]; omega
  have hv := valN_lt (s.take k) (fun c hc' => by
    obtain ⟨j, hj, rfl⟩ := List.mem_iff_getElem.1 hc'
    rw [hl] at hj
    exact hd j hj _ (by simp [List.getElem_take, show j < s.length from by omega]))
  rw [hl] at hv
  have h10 : 10 ^ k ≤ 10 ^ 18 := Nat.pow_le_pow_right (by decide) h18
  have h18' : (10 : Nat) ^ 18 = 1000000000000000000 := by decide
  refine ⟨_, rfl, by omega, by rw [IntKind.wrap_i64]; omega, ?_⟩
  obtain ⟨_, rfl⟩ := List.getElem?_eq_some_iff.1 hc
  rw [List.take_succ_eq_append_getElem hk, valN_snoc]
theorem wrap_two (v d : Nat) : IntKind.i64.wrap (IntKind.i64.wrap (10 * (v : Int)) + (d : Int)) = IntKind.i64.wrap ((10 * v + d : Nat) : Int) := by
  rw [IntKind.wrap_i64, IntKind.wrap_i64, IntKind.wrap_i64]
  generalize (18446744073709551616 : Int) = M
  generalize (9223372036854775808 : Int) = H
  rw [show (10 * (v : Int) + H) % M - H + (d : Int) + H = (10 * (v : Int) + H) % M + (d : Int) from by omega, Int.emod_add_emod]
  congr 2
  omega
set_option maxRecDepth 100000 in
set_option maxHeartbeats 4000000 in
theorem refRead_any (s : List UInt8) (most : Int) (hs : s.length < 9223372036854775808) (w : World) : Calls Tryd.prog 74 #[.string (str s), .int .i64 most] w fun e w' => e = .returned (.tuple #[.int .i64 (readN s most), .int .i64 (readErr s most)]) ∧ Below w.heap.size w w' := by
  have hsz : (str s).size = s.length := str_size s
  by_cases h0 : s.length = 0
  · obtain ⟨h1, h2⟩ := read_bad (s := s) (by obtain rfl := List.eq_nil_of_length_eq_zero h0; rfl) most
    have HP := Lib.hid (And.intro h1 h2)
    clear h1 h2 hs
    go_enter Tryd.func74, Tryd.ntmps74
    go_wp2_with fail
    go_ret2
    exact ⟨by rw [HP.out.1, HP.out.2]; rfl, Below.refl _ _⟩
  have hne : ((s.length : Int) == 0) = false := by
    rw [beq_eq_false_iff_ne]; omega
  by_cases h19 : 19 < s.length
  · obtain ⟨h1, h2⟩ := read_bad (s := s) (by simp [isNum]; omega) most
    have HP := Lib.hid (And.intro h1 h2)
    have hd : decide (19 < (s.length : Int)) = true := decide_eq_true (by omega)
    clear h1 h2 hs
    go_enter Tryd.func74, Tryd.ntmps74
    go_wp2_with fail
    go_ret2
    exact ⟨by rw [HP.out.1, HP.out.2]; rfl, Below.refl _ _⟩
  have hd19 : decide (19 < (s.length : Int)) = false := decide_eq_false (by omega)
  clear hs
  go_enter Tryd.func74, Tryd.ntmps74
  go_wp2_with fail
  go_loopw [6, 7] (fun x c wr => wr = w ∧ ∃ k : Nat, k ≤ s.length ∧ c = .int .i64 k ∧ x = .int .i64 (IntKind.i64.wrap (valN (s.take k))) ∧ ∀ j, j < k → ∀ c, s[j]? = some c → isDig c = true) (fun _ c _ => s.length - (intOf c).toNat)
  case atStart => exact ⟨rfl, 0, by omega, rfl, by rw [List.take_zero, valN_nil]; rfl, fun j hj => by omega⟩
  case round =>
    obtain ⟨rfl, k, hk, rfl, rfl, hall⟩ := hrel
    have HA := Lib.hid hall
    by_cases hlt : k < s.length
    · obtain ⟨c, hc⟩ : ∃ c, s[k]? = some c := ⟨s[k], List.getElem?_eq_getElem hlt⟩
      obtain ⟨v, hv, hv18, hw1, hv2⟩ := wrap_val s k c hc hall (by omega)
      have i1 := fun w => index_str (P := Tryd.prog) w s .i64 k c hc Tryd.underlying9
      obtain ⟨cn, hcn⟩ : ∃ cn, c.toNat = cn := ⟨_, rfl⟩
      rw [hcn] at i1 hv2
      rw [hw1]
      have HV := Lib.hid (And.intro hc (And.intro hv2 hcn))
      have q0 : (k : Int) < (s.length : Int) := by omega
      by_cases hdg : isDig c = true
      · have hdg' := hdg
        simp only [isDig, hcn, Bool.and_eq_true, decide_eq_true_eq] at hdg'
        have b1 : decide ((cn : Int) < 48) = false := decide_eq_false (by omega)
        have b2 : decide (57 < (cn : Int)) = false := decide_eq_false (by omega)
        obtain ⟨d, hd⟩ : ∃ d : Nat, d = cn - 48 := ⟨_, rfl⟩
        have e1 : (cn : Int) - 48 = (d : Int) := by omega
        have e2 : IntKind.u8.wrap (d : Int) = (d : Int) := by rw [IntKind.wrap_u8]; omega
        have e3 : IntKind.i64.wrap (d : Int) = (d : Int) := by rw [IntKind.wrap_i64]; omega
        obtain ⟨y1, hy1⟩ : ∃ y1, IntKind.i64.wrap (10 * (v : Int)) = y1 := ⟨_, rfl⟩
        obtain ⟨y2, hy2⟩ : ∃ y2, IntKind.i64.wrap (y1 + (d : Int)) = y2 := ⟨_, rfl⟩
        have HY := Lib.hid (show y2 = IntKind.i64.wrap (valN (s.take (k + 1))) by
          rw [hv2, ← hd, ← hy2, ← hy1]; exact wrap_two v d)
        have HDG := Lib.hid hdg
        clear hall hc hv hw1 hv2 hcn hdg hdg' hv18 hd
        go_wp2_with fail
        obtain ⟨hc, hv2, hcn⟩ := HV.out
        refine ⟨⟨trivial, k + 1, by omega, by go_num, by rw [HY.out], fun j hj c' hc' => ?_⟩, by simp [intOf]; omega⟩
        rcases Nat.lt_or_ge j k with h | h
        · exact HA.out j h c' hc'
        · obtain rfl : j = k := by omega
          rw [hc] at hc'; cases hc'; exact HDG.out
      · have hbad : isNum s = false := by
          cases h : isNum s with
          | false => rfl
          | true =>
            simp only [isNum, Bool.and_eq_true, List.all_eq_true] at h
            exact absurd (h.2.1 c (List.mem_of_getElem? hc)) hdg
        obtain ⟨h1, h2⟩ := read_bad hbad most
        have HP := Lib.hid (And.intro h1 h2)
        clear h1 h2 hbad
        have hdg' : cn < 48 ∨ 57 < cn := by
          simp only [isDig, hcn, Bool.and_eq_true, decide_eq_true_eq] at hdg; omega
        clear hall hc hv hw1 hv2 hcn hdg hv18
        rcases hdg' with h | h
        · have b1 : decide ((cn : Int) < 48) = true := decide_eq_true (by omega)
          clear h
          go_wp2_with fail
          go_ret2
          exact ⟨by rw [HP.out.1, HP.out.2]; rfl, Below.refl _ _⟩
        · have b1 : decide ((cn : Int) < 48) = false := decide_eq_false (by omega)
          have b2 : decide (57 < (cn : Int)) = true := decide_eq_true (by omega)
          clear h
          go_wp2_with fail
          go_ret2
          exact ⟨by rw [HP.out.1, HP.out.2]; rfl, Below.refl _ _⟩
    · obtain rfl : k = s.length := by omega
      have hd : ∀ c ∈ s, isDig c = true := fun c hc => by
        obtain ⟨j, hj, rfl⟩ := List.mem_iff_getElem.1 hc
        exact hall j hj _ (List.getElem?_eq_getElem hj)
      rw [List.take_length]
      obtain ⟨x, hx⟩ : ∃ x, x = IntKind.i64.wrap (valN s) := ⟨_, rfl⟩
      obtain ⟨n1, n2⟩ := num_isNum s (by omega) (by omega) hd x hx
      have hxb : -9223372036854775808 ≤ x ∧ x < 9223372036854775808 := by rw [hx, IntKind.wrap_i64]; omega
      have HN := Lib.hid (refNumber_any x hxb.1 hxb.2)
      rw [← hx]
      have hq : decide ((s.length : Int) < (s.length : Int)) = false := decide_eq_false (by omega)
      have hb : ((str (numL x)).toList == (str s).toList) = isNum s := by rw [str_toList, str_toList]; exact n1
      have N2 := Lib.hid n2
      clear hall hd hx n1 n2 hxb HA
      cases hnum : isNum s with
      | false =>
        rw [hnum] at hb
        obtain ⟨h1, h2⟩ := read_bad hnum most
        have HP := Lib.hid (And.intro h1 h2)
        clear h1 h2 hnum
        go_wp2_with (first | (go_at_call 78; refine (HN.out _).mono ?_; rintro e w1 ⟨rfl, hb1⟩))
        go_ret2
        exact ⟨by rw [HP.out.1, HP.out.2]; rfl, hb1⟩
      | true =>
        rw [hnum] at hb
        have hxv := N2.out hnum
        by_cases hmo : most < x
        · obtain ⟨h1, h2⟩ := read_over hnum (show most < (valN s : Int) from hxv ▸ hmo)
          have HP := Lib.hid (And.intro h1 h2)
          have hd : decide (most < x) = true := decide_eq_true hmo
          clear h1 h2 hnum hxv hmo
          go_wp2_with (first | (go_at_call 78; refine (HN.out _).mono ?_; rintro e w1 ⟨rfl, hb1⟩))
          go_ret2
          exact ⟨by rw [HP.out.1, HP.out.2]; rfl, hb1⟩
        · obtain ⟨h1, h2⟩ := read_good hnum (show ¬ most < (valN s : Int) from hxv ▸ hmo)
          rw [← hxv] at h1
          have HP := Lib.hid (And.intro h1 h2)
          have hd : decide (most < x) = false := decide_eq_false hmo
          clear h1 h2 hnum hxv hmo
          go_wp2_with (first | (go_at_call 78; refine (HN.out _).mono ?_; rintro e w1 ⟨rfl, hb1⟩))
          go_ret2
          exact ⟨by rw [HP.out.1, HP.out.2]; rfl, hb1⟩
end Go.Proofs.YtcnjgdnokiindaaDoor
namespace Go.Proofs.YtcnjgdnokiindaaDoor
open Go.RowKit
/-- A piece of a text. -/
theorem slice_mid {P : Program} (w : World) (t : TypeId) (s : List UInt8) (f k : Nat) (hf : f ≤ k) (hk : k ≤ s.length) (ht : P.underlying t = some .string) :
    (Instr.slice t (.string (str s)) (some (.int .i64 (f : Int))) (some (.int .i64 (k : Int))) none).run P w = .ok (.string (str ((s.take k).drop f))) w := by
  rw [run_slice_string_if w t (str s) .i64 .i64 f k ht, if_pos ⟨by omega, by rw [str_size]; omega⟩, if_pos ⟨by omega, by omega⟩, Int.toNat_natCast, Int.toNat_natCast]
  congr 2
  unfold str
  rw [ByteArray.extract_mk]
  simp [List.drop_take]
end Go.Proofs.YtcnjgdnokiindaaDoor
namespace Go.Proofs.YtcnjgdnokiindaaDoor
open Go.RowKit
/-- Texts as the cells of a slice. -/
def textsL (ls : List (List UInt8)) : List Value := ls.map fun l => Value.string (str l)
theorem textsL_append (x y : List (List UInt8)) : textsL (x ++ y) = textsL x ++ textsL y := by simp [textsL]
theorem textsL_one (ls : List (List UInt8)) : ∀ u ∈ textsL ls, u.oneCell' = true := fun u hu => by
  obtain ⟨l, _, rfl⟩ := List.mem_map.1 hu; rfl
/-- One text appended to a slice of texts of the call's own. -/
theorem append_text {P : Program} {w : World} {ops : Array Oper} {rest : List Oper} {o : Oper} {a : Act} {Q : Exit → Act → World → Prop} (hgd : o.guard = none) (s x : Operand) (t : TypeId)
    (ho : o.op = .call { callee := .builtin .append, args := #[s, x], argTypes := #[t, t] })
    (base : Nat) (e : TypeId) (i : TypeInfo) (ht : P.underlying t = some (.slice e)) (hi : P.info? e = some i) (hz : i.zero = some (.string ByteArray.empty)) (hsize : i.size = 1) (hby : i.bytes = 16)
    (v : Value) (ls : List (List UInt8)) (l : List UInt8) (hs : a.eval s = v) (hown : w.ownsRow base e 1 v ls.length (textsL ls)) (ad : Addr) (c : Nat) (hx : a.eval x = .slice (some ad) 1 c) (hc : w.cell? ad = some (.string (str l)))
    (hlen : ls.length + 1 ≤ 8796093022208) (hbase : base ≤ w.heap.size)
    (h : ∀ v' w', w'.ownsRow base e 1 v' (ls ++ [l]).length (textsL (ls ++ [l])) → w.grownBy w' v.ownBlock → wpList P ops Q rest (a.put o.dst v') w') : wpList P ops Q (o :: rest) a w := by
  have hadd : ad.add 0 = ad := by unfold Addr.add; split <;> simp_all
  refine wpList_append_own w hgd s x t ho base e i (.string ByteArray.empty) 1 16 ht hi hz hsize hby rfl (by decide) v ls.length (textsL ls) hs hown ad 1 c (textsL [l]) hx (by simp [textsL]) (fun j u hj => ?_) (textsL_one [l])
    (by unfold maxLen; omega) (by omega) hbase fun v' w' h1 h2 _ => h v' w' (by rw [textsL_append, List.length_append]; exact h1) h2
  match j, hj with
  | 0, hj =>
    have e : u = .string (str l) := by simpa [textsL] using hj.symm
    rw [hadd, e]; exact hc
end Go.Proofs.YtcnjgdnokiindaaDoor
namespace Go.Proofs.YtcnjgdnokiindaaDoor
open Go.RowKit
/-- Two texts one behind the other, as an operation, the whole under a name. -/
theorem add_as {P : Program} {o : Oper} {a : Act} {t rt : TypeId} {x y : Operand} {l m r : List UInt8} (ho : o.op = .binOp .add t x y rt) (hx : a.eval x = .string (str l)) (hy : a.eval y = .string (str m)) (hn : l.length + m.length ≤ 4611686018427387904) (hr : l ++ m = r) :
    ∀ w, (execOp a.eval o).run P w = .ok (.value (.string (str r))) w := by subst hr; exact add_op ho hx hy hn
end Go.Proofs.YtcnjgdnokiindaaDoor
namespace Go.Proofs.YtcnjgdnokiindaaDoor
open Go.RowKit
/-- The table of the powers of ten, as strconv lays it. -/
def PowTab (w : World) : Prop := Lib.TabIs Tryd.prog w "internal/strconv.uint64pow10" .u64 Lib.pow10Tab
theorem gPow : Tryd.prog.globalNamed "internal/strconv.uint64pow10" = some 3 := by kernel_rfl
theorem powTab_below {w w' : World} (h : PowTab w) (hb : Below w.heap.size w w') : PowTab w' := by
  unfold PowTab Lib.TabIs World.var? at h ⊢
  rw [gPow] at h ⊢
  simp only [Option.bind_some] at h ⊢
  have hlt : 3 < w.heap.size := by
    rcases Nat.lt_or_ge 3 w.heap.size with h' | h'
    · exact h'
    · rw [Array.getElem?_eq_none h'] at h; cases h
  rw [hb.block _ hlt]
  exact h
end Go.Proofs.YtcnjgdnokiindaaDoor
namespace Go.Proofs.YtcnjgdnokiindaaDoor
open Go.RowKit
/-- A dot's cells, just boxed. -/
def dotO (r q : Int) : Obj := .cells #[.int .i64 r, .int .i64 q] 44 (0, 0)
theorem dot_cells {w : World} {g : Nat} {r q : Int} (h : w.heap[g]? = some (dotO r q)) : w.cell? ⟨g, 0, none⟩ = some (.int .i64 r) ∧ w.cell? ⟨g, 1, none⟩ = some (.int .i64 q) :=
  ⟨by rw [cell_of_row _ _ 0 _ _ _ h]; rfl, by rw [cell_of_row _ _ 1 _ _ _ h]; rfl⟩
/-- A dot's own box. -/
theorem one_box (w : World) (r q : Int) : (w.alloc (dotO r q)).heap[w.heap.size]? = some (dotO r q) := heap_last _ _
set_option maxRecDepth 100000 in
set_option maxHeartbeats 4000000 in
theorem refMay_any9 (r q : Int) (w : World) : Calls Tryd.prog 75 #[.agg #[.int .i64 r, .int .i64 q]] w fun e w' => e = .returned (.bool (mayD r q)) ∧ Below w.heap.size w w' := by
  have h1 := one_box w r q
  obtain ⟨c1, c2⟩ := dot_cells h1
  have B0 := Lib.hid ((Below.refl w.heap.size w).alloc (Nat.le_refl _) (dotO r q))
  clear h1
  unfold dotO at *
  go_enter Tryd.func75, Tryd.ntmps75
  go_wp2
  all_goals
    go_ret
    refine ⟨congrArg Ending.returned (show Value.bool _ = Value.bool _ from congrArg Value.bool ?_), B0.out⟩
    unfold mayD
    rw [Bool.eq_iff_iff]
    simp
    try omega
set_option maxRecDepth 100000 in
theorem dot_built (r q : Int) : Tryd.prog.built 44 [(0, .int .i64 r), (1, .int .i64 q)] = some #[.int .i64 r, .int .i64 q] := by rfl
theorem dot_built0 : Tryd.prog.built 44 [] = some #[.int .i64 0, .int .i64 0] := by kernel_rfl
end Go.Proofs.YtcnjgdnokiindaaDoor
namespace Go.Proofs.YtcnjgdnokiindaaDoor
open Go.RowKit
set_option maxRecDepth 100000 in
set_option maxHeartbeats 4000000 in
theorem refText_any9 (r q : Int) (hr : -9223372036854775808 ≤ r ∧ r < 9223372036854775808) (hq : -9223372036854775808 ≤ q ∧ q < 9223372036854775808) (w : World) :
    Calls Tryd.prog 65 #[.agg #[.int .i64 r, .int .i64 q]] w fun e w' => e = .returned (.string (str (textD r q))) ∧ Below w.heap.size w w' := by
  have N1 := Lib.hid (refNumber_any r hr.1 hr.2)
  have N2 := Lib.hid (refNumber_any q hq.1 hq.2)
  have HL := Lib.hid (And.intro (numL_length r hr.1 hr.2) (numL_length q hq.1 hq.2))
  obtain ⟨R, hR⟩ : ∃ R, numL r = R := ⟨_, rfl⟩
  obtain ⟨Q, hQ⟩ : ∃ Q, numL q = Q := ⟨_, rfl⟩
  obtain ⟨A1, hA1⟩ : ∃ A1, R ++ [58] = A1 := ⟨_, rfl⟩
  obtain ⟨A2, hA2⟩ : ∃ A2, A1 ++ Q = A2 := ⟨_, rfl⟩
  have HE := Lib.hid (show A2 = textD r q by rw [← hA2, ← hA1, ← hR, ← hQ]; simp [textD])
  have hA := Lib.hid (And.intro hA1 hA2)
  rw [hR] at N1 HL
  rw [hQ] at N2 HL
  have c0 : (w.alloc (.cells #[.int .i64 r, .int .i64 q] 44 (0, 0))).cell? ⟨w.heap.size, 0, none⟩ = some (.int .i64 r) := by rw [cell_of_row _ _ 0 _ _ _ (heap_last w _)]; rfl
  have c1 : (w.alloc (.cells #[.int .i64 r, .int .i64 q] 44 (0, 0))).cell? ⟨w.heap.size, 1, none⟩ = some (.int .i64 q) := by rw [cell_of_row _ _ 1 _ _ _ (heap_last w _)]; rfl
  have B0 := Lib.hid ((Below.refl w.heap.size w).alloc (Nat.le_refl _) (.cells #[.int .i64 r, .int .i64 q] 44 (0, 0)))
  clear hr hq hR hQ hA1 hA2
  go_enter Tryd.func65, Tryd.ntmps65
  go_wp2
  refine wp_region_held_drew (S := fun w' => Below (w.alloc (.cells #[.int .i64 r, .int .i64 q] 44 (0, 0))).heap.size (w.alloc (.cells #[.int .i64 r, .int .i64 q] 44 (0, 0))) w') (by kernel_rfl) (below_draws (Below.refl _ _) 1) (fun hHeld => ?_)
  generalize (w.alloc (.cells #[.int .i64 r, .int .i64 q] 44 (0, 0))).drew = wd at hHeld ⊢
  refine take_at (i := 0) 3 rfl rfl (by kernel_rfl) (by kernel_rfl) (by kernel_rfl) (fun _ _ _ h => h) (sure_yes (by rfl) (fun w => by go_simp; try with_reducible rfl)) hHeld ?_
  simp only [List.setIfInBounds_toArray, List.set_cons_zero, List.set_cons_succ]
  refine take_at (i := 4) 7 rfl rfl (by kernel_rfl) (by kernel_rfl) (by kernel_rfl) (fun _ _ _ h => h) (sure_yes (by rfl) (fun w => by go_simp; try with_reducible rfl)) hHeld ?_
  simp only [List.setIfInBounds_toArray, List.set_cons_zero, List.set_cons_succ]
  refine take_at (i := 1) 4 rfl rfl (by kernel_rfl) (by kernel_rfl) (by kernel_rfl) (fun _ _ _ h => h) (cell_yields (by rfl) 3 (.tmp 3) rfl w.heap.size 0 rfl .i64 r Tryd.underlying3 (fun w' h => (cell_same (h.block w.heap.size (by simp)) 0).trans c0)) hHeld ?_
  simp only [List.setIfInBounds_toArray, List.set_cons_zero, List.set_cons_succ]
  refine take_at (i := 5) 8 rfl rfl (by kernel_rfl) (by kernel_rfl) (by kernel_rfl) (fun _ _ _ h => h) (cell_yields (by rfl) 2 (.tmp 7) rfl w.heap.size 1 rfl .i64 q Tryd.underlying2 (fun w' h => (cell_same (h.block w.heap.size (by simp)) 1).trans c1)) hHeld ?_
  simp only [List.setIfInBounds_toArray, List.set_cons_zero, List.set_cons_succ]
  refine wpAnyH_ready (rs := [2]) (by kernel_rfl) (by simp) ?_
  refine AllReadyH.cons rfl (fun K hK => ?_) AllReadyH.nil
  go_simp
  go_at_call 78
  refine (N1.out _).mono ?_
  rintro e w2 ⟨rfl, hb⟩
  dsimp only
  refine hK.out _ _ (below_next hHeld hb) (fun hHeld => ?_)
  clear hK K hb
  refine take_at (i := 3) 6 rfl rfl (by kernel_rfl) (by kernel_rfl) (by kernel_rfl) (fun _ _ _ h => h) (sure_yes (by rfl) (add_as (l := R) (m := [58]) rfl rfl rfl (by have h1 := HL.out.1; have h2 := HL.out.2; have e1 := congrArg List.length hA.out.1; simp at e1 ⊢; omega) hA.out.1)) hHeld ?_
  simp only [List.setIfInBounds_toArray, List.set_cons_zero, List.set_cons_succ]
  refine wpAnyH_ready (rs := [6]) (by kernel_rfl) (by simp) ?_
  refine AllReadyH.cons rfl (fun K hK => ?_) AllReadyH.nil
  go_simp
  go_at_call 78
  refine (N2.out _).mono ?_
  rintro e w2 ⟨rfl, hb⟩
  dsimp only
  refine hK.out _ _ (below_next hHeld hb) (fun hHeld => ?_)
  clear hK K hb
  refine take_at (i := 7) 10 rfl rfl (by kernel_rfl) (by kernel_rfl) (by kernel_rfl) (fun _ _ _ h => h) (sure_yes (by rfl) (add_as (l := A1) (m := Q) rfl rfl rfl (by have h1 := HL.out.1; have h2 := HL.out.2; have e1 := congrArg List.length hA.out.1; simp at e1 ⊢; omega) hA.out.2)) hHeld ?_
  simp only [List.setIfInBounds_toArray, List.set_cons_zero, List.set_cons_succ]
  refine take_at (i := 8) 2 rfl rfl (by kernel_rfl) (by kernel_rfl) (by kernel_rfl) (fun _ _ _ h => h) (sure_yes (by rfl) (fun w => by go_simp; try with_reducible rfl)) hHeld ?_
  simp only [List.setIfInBounds_toArray, List.set_cons_zero, List.set_cons_succ]
  refine wpAnyH_done (by kernel_rfl) ?_ _
  go_wp2
  go_ret
  exact ⟨by rw [← HE.out]; rfl, below_next B0.out hHeld⟩
end Go.Proofs.YtcnjgdnokiindaaDoor
namespace Go.Proofs.YtcnjgdnokiindaaDoor
open Go.RowKit
theorem slice_upto {P : Program} (w : World) (t : TypeId) (s : List UInt8) (k : Nat) (hk : k ≤ s.length) (ht : P.underlying t = some .string) :
    (Instr.slice t (.string (str s)) none (some (.int .i64 (k : Int))) none).run P w = .ok (.string (str (s.take k))) w := by
  rw [run_slice_string_h w t (str s) ht .i64 k (by omega) (by rw [str_size]; omega)]
  congr 2
  unfold str; rw [ByteArray.extract_mk]; simp
theorem slice_rest {P : Program} (w : World) (t : TypeId) (s : List UInt8) (f : Nat) (hf : f ≤ s.length) (ht : P.underlying t = some .string) :
    (Instr.slice t (.string (str s)) (some (.int .i64 (f : Int))) none none).run P w = .ok (.string (str (s.drop f))) w := by
  have h := run_slice_string_l w t (str s) ht .i64 f (by omega) (by rw [str_size]; omega)
  have e : (str s).extract (f : Int).toNat (str s).size = str (s.drop f) := by
    rw [str_size]; unfold str; rw [ByteArray.extract_mk, List.take_of_length_le (by simp)]; simp
  rw [e] at h; exact h
/-- The first colon's place. -/
theorem ahead_at {s : List UInt8} {k : Nat} (hk : k < s.length) (h58 : s.getD k 0 = 58) (hno : ∀ j, j < k → s.getD j 0 ≠ 58) : aheadD s = s.take k ∧ behindD s = s.drop (k + 1) ∧ s.contains 58 = true := by
  have e : s = s.take k ++ 58 :: s.drop (k + 1) := by
    have h1 : s[k] = 58 := by rw [← h58]; simp [hk]
    rw [← h1, ← List.drop_eq_getElem_cons hk, List.take_append_drop]
  have hn : (58 : UInt8) ∉ s.take k := fun hm => by
    obtain ⟨j, hj, he⟩ := List.mem_iff_getElem.1 hm
    rw [List.length_take] at hj
    rw [List.getElem_take] at he
    exact hno j (by omega) (by rw [List.getD_eq_getElem?_getD, List.getElem?_eq_getElem (by omega), he]; rfl)
  obtain ⟨a1, a2⟩ := ahead_of (s.take k) (s.drop (k + 1)) hn
  rw [← e] at a1 a2
  exact ⟨a1, a2, by rw [List.contains_iff_mem, e]; simp⟩
theorem no_colon {s : List UInt8} (hno : ∀ j, j < s.length → s.getD j 0 ≠ 58) : isDot s = false := by
  have : s.contains 58 = false := by
    rw [Bool.eq_false_iff, ne_eq, List.contains_iff_mem]
    intro hm
    obtain ⟨j, hj, he⟩ := List.mem_iff_getElem.1 hm
    exact hno j hj (by rw [List.getD_eq_getElem?_getD, List.getElem?_eq_getElem hj, he]; rfl)
  rw [isDot, this]; rfl
theorem row_kept {g : Nat} {A B : World} {o : Obj} (h : A.heap[g]? = some o) (hb : Below A.heap.size A B) : B.heap[g]? = some o := (hb.block g (Array.getElem?_eq_some_iff.1 h).1).trans h
theorem dot_one (x y : Int) : (#[Value.int .i64 x, Value.int .i64 y] : Array Value).all (·.oneCell') = true := by simp [Value.oneCell']
set_option maxRecDepth 100000 in
set_option maxHeartbeats 8000000 in
theorem refParse_any9 (s : List UInt8) (hs : s.length < 4611686018427387904) (w : World) : Calls Tryd.prog 56 #[.string (str s)] w fun e w' => e = .returned (.tuple #[.agg #[.int .i64 (parR s), .int .i64 (parQ s)], .int .i64 (parErr s)]) ∧ Below w.heap.size w w' := by
  obtain ⟨n, hn⟩ : ∃ n, n = s.length := ⟨_, rfl⟩
  have HN := Lib.hid hn
  have hsz : (str s).size = n := by rw [str_size, hn]
  have HS := Lib.hid hs
  have B0 := Lib.hid ((Below.refl w.heap.size w).alloc (Nat.le_refl _) (.cells #[.int .i64 0, .int .i64 0] 44 (0, 0)))
  have H0 := Lib.hid (heap_last w (.cells #[.int .i64 0, .int .i64 0] 44 (0, 0)))
  have HZ := Lib.hid (show (w.alloc (.cells #[.int .i64 0, .int .i64 0] 44 (0, 0))).heap.size = w.heap.size + 1 by simp)
  rw [← hn] at hs
  clear hn
  go_enter Tryd.func56, Tryd.ntmps56
  go_upto_region 1 with fail
  generalize w.alloc (.cells #[.int .i64 0, .int .i64 0] 44 (0, 0)) = W0 at *
  go_wp2
  go_loopw [4] (fun i wr => W0 = wr ∧ ∃ k : Nat, k ≤ n ∧ i = .int .i64 k ∧ ∀ j, j < k → s.getD j 0 ≠ 58) (fun i _ => n - (intOf i).toNat)
  case atStart => exact ⟨rfl, 0, by omega, rfl, fun j hj => by omega⟩
  case round =>
    obtain ⟨rfl, k, hk, rfl, hall⟩ := hrel
    have HA := Lib.hid hall
    clear hall
    by_cases hlt : k < n
    · obtain ⟨c, hc⟩ : ∃ c, s[k]? = some c := ⟨s[k]'(by have := HN.out; omega), List.getElem?_eq_getElem _⟩
      have i1 := fun w => index_str (P := Tryd.prog) w s .i64 k c hc Tryd.underlying9
      obtain ⟨x, hx⟩ : ∃ x, c.toNat = x := ⟨_, rfl⟩
      rw [hx] at i1
      have HX := Lib.hid (And.intro (show s.getD k 0 = c by rw [List.getD_eq_getElem?_getD, hc]; rfl) hx)
      have q1 : (k : Int) < (n : Int) := by omega
      by_cases h58 : x = 58
      · subst h58
        have hcc : s.getD k 0 = 58 := by rw [HX.out.1]; exact UInt8.toNat_inj.1 HX.out.2
        obtain ⟨a1, a2, a3⟩ := ahead_at (by rw [← HN.out]; exact hlt) hcc HA.out
        have q2 : ((k : Int) == (n : Int)) = false := by rw [beq_eq_false_iff_ne]; omega
        have s1 : ∀ w, (Instr.slice 9 (.string (str s)) none (some (.int .i64 (k : Int))) none).run Tryd.prog w = .ok (.string (str (aheadD s))) w := fun w => by rw [a1]; exact slice_upto w 9 s k (by rw [← HN.out]; exact hk) Tryd.underlying9
        have s2 : ∀ w, (Instr.slice 9 (.string (str s)) (some (.int .i64 ((k + 1 : Nat) : Int))) none none).run Tryd.prog w = .ok (.string (str (behindD s))) w := fun w => by rw [a2]; exact slice_rest w 9 s (k + 1) (by rw [← HN.out]; exact hlt) Tryd.underlying9
        have hk1 : wrap64 ((k : Int) + 1) = ((k + 1 : Nat) : Int) := by rw [wrap64]; omega
        have RA := Lib.hid (fun w => refRead_any (aheadD s) 31 (by rw [a1, List.length_take, ← HN.out]; omega) w)
        have RB := Lib.hid (fun w => refRead_any (behindD s) 1099511627776 (by rw [a2, List.length_drop, ← HN.out]; omega) w)
        have HD := Lib.hid (show isDot s = (readErr (aheadD s) 31 == 0 && (readErr (behindD s) 1099511627776 == 0 && mayD (readN (aheadD s) 31) (readN (behindD s) 1099511627776))) by rw [isDot, a3, Bool.true_and])
        have HP := Lib.hid (show parErr s = (if isDot s then 0 else 2) ∧ parR s = (if isDot s then readN (aheadD s) 31 else 0) ∧ parQ s = (if isDot s then readN (behindD s) 1099511627776 else 0) from ⟨rfl, rfl, rfl⟩)
        obtain ⟨X, hX⟩ : ∃ X, aheadD s = X := ⟨_, rfl⟩
        obtain ⟨Y, hY⟩ : ∃ Y, behindD s = Y := ⟨_, rfl⟩
        rw [hX] at s1 RA HD HP
        rw [hY] at s2 RB HD HP
        obtain ⟨r, hr⟩ : ∃ r, readN X 31 = r := ⟨_, rfl⟩
        obtain ⟨q, hq⟩ : ∃ q, readN Y 1099511627776 = q := ⟨_, rfl⟩
        obtain ⟨e1, he1⟩ : ∃ e, readErr X 31 = e := ⟨_, rfl⟩
        obtain ⟨e2, he2⟩ : ∃ e, readErr Y 1099511627776 = e := ⟨_, rfl⟩
        rw [hr, he1] at RA
        rw [hq, he2] at RB
        rw [hr, hq, he1, he2] at HD
        rw [hr, hq] at HP
        obtain ⟨k1, hk1'⟩ : ∃ k1, k1 = k + 1 := ⟨_, rfl⟩
        rw [← hk1'] at s2 hk1
        have M1 := Lib.hid (fun w => refMay_any9 r q w)
        clear hX hY hr hq he1 he2 a1 a2 a3 hcc hlt hk hk1' hc hx hs
        go_upto_region 7 with (first | (go_at_call 74; refine (RA.out _).mono ?_; rintro e w3 ⟨rfl, hb⟩; have G3 := Lib.hid (row_kept H0.out hb); have B3 := Lib.hid (B0.out.trans (hb.mono B0.out.size)); clear hb))
        go_upto_region 8 with (first | (go_at_call 74; refine (RB.out _).mono ?_; rintro e w4 ⟨rfl, hb⟩; have G4 := Lib.hid (row_kept G3.out hb); have B4 := Lib.hid (below_next B3.out hb); clear hb))
        go_upto_region 9 with (first | (refine build_on (by rfl) 44 #[(0, .tmp 42), (1, .tmp 43)] rfl _ _ (dot_built _ _) (by simp [Act.eval]) ?_))
        have H5 := Lib.hid (heap_last w4 (.cells #[.int .i64 r, .int .i64 q] 44 (0, 0)))
        have G5 := Lib.hid (row_kept G4.out ((Below.refl w4.heap.size w4).alloc (Nat.le_refl _) (.cells #[.int .i64 r, .int .i64 q] 44 (0, 0))))
        have B5 := Lib.hid (B4.out.alloc B4.out.size (.cells #[.int .i64 r, .int .i64 q] 44 (0, 0)))
        generalize w4.alloc (.cells #[.int .i64 r, .int .i64 q] 44 (0, 0)) = W5 at *
        by_cases z1 : e1 = 0
        · subst z1
          by_cases z2 : e2 = 0
          · subst z2
            cases hm : mayD r q with
            | true =>
              have hd : isDot s = true := by rw [HD.out, hm]; rfl
              have HR := Lib.hid (show parR s = r ∧ parQ s = q ∧ parErr s = 0 by have h := HP.out; rw [hd] at h; exact ⟨h.2.1, h.2.2, h.1⟩)
              rw [hm] at M1
              clear hd hm
              go_wp2_with (first
                | (refine load_row_on (by rfl) 44 (.tmp 9) rfl w4.heap.size rfl 44 _ (0, 0) _ H5.out Tryd.underlying44 rfl (by kernel_rfl) ?_)
                | (go_at_call 75; refine (M1.out _).mono ?_; rintro e w6 ⟨rfl, hb⟩; have G6 := Lib.hid (row_kept G5.out hb); have H6 := Lib.hid (row_kept H5.out hb); have B6 := Lib.hid (below_next B5.out hb); clear hb)
                | (refine load_row_on (by rfl) 44 (.tmp 9) rfl w4.heap.size rfl 44 _ (0, 0) _ H6.out Tryd.underlying44 rfl (by kernel_rfl) ?_)
                | (refine wpList_store_row rfl 44 (.tmp 2) (.tmp 57) rfl w.heap.size _ rfl rfl 44 _ G6.out (by kernel_rfl) rfl (dot_one _ _) ?_))
              exact bodyPost_ret (results_cell2 Tryd.results56 _ _ w.heap.size 44 _ (0, 0) _ _ rfl rfl (setRow_heap _ _ _ _ _ _ G6.out) Tryd.underlying44 rfl (by kernel_rfl)) rfl ⟨by rw [HR.out.1, HR.out.2.1, HR.out.2.2]; rfl, below_setRow B6.out (Nat.le_refl _) _⟩
            | false =>
              have hd : isDot s = false := by rw [HD.out, hm]; rfl
              have HR := Lib.hid (show parR s = 0 ∧ parQ s = 0 ∧ parErr s = 2 by have h := HP.out; rw [hd] at h; exact ⟨h.2.1, h.2.2, h.1⟩)
              rw [hm] at M1
              clear hd hm
              go_wp2_with (first
                | (refine load_row_on (by rfl) 44 (.tmp 9) rfl w4.heap.size rfl 44 _ (0, 0) _ H5.out Tryd.underlying44 rfl (by kernel_rfl) ?_)
                | (go_at_call 75; refine (M1.out _).mono ?_; rintro e w6 ⟨rfl, hb⟩; have G6 := Lib.hid (row_kept G5.out hb); have H6 := Lib.hid (row_kept H5.out hb); have B6 := Lib.hid (below_next B5.out hb); clear hb)
                | (refine build_on (by rfl) 44 #[] rfl _ _ dot_built0 (by simp [Act.eval]) ?_)
                | (refine wpList_store_row rfl 44 (.tmp 2) (.tmp 56) rfl w.heap.size _ rfl rfl 44 _ G6.out (by kernel_rfl) rfl (dot_one _ _) ?_))
              exact bodyPost_ret (results_cell2 Tryd.results56 _ _ w.heap.size 44 _ (0, 0) _ _ rfl rfl (setRow_heap _ _ _ _ _ _ G6.out) Tryd.underlying44 rfl (by kernel_rfl)) rfl ⟨by rw [HR.out.1, HR.out.2.1, HR.out.2.2]; rfl, below_setRow B6.out (Nat.le_refl _) _⟩
          · have t2 : (e2 != 0) = true := bne_iff_ne.2 z2
            have hd : isDot s = false := by rw [HD.out, show (e2 == 0) = false from beq_eq_false_iff_ne.2 z2]; simp
            have HR := Lib.hid (show parR s = 0 ∧ parQ s = 0 ∧ parErr s = 2 by have h := HP.out; rw [hd] at h; exact ⟨h.2.1, h.2.2, h.1⟩)
            clear z2 hd
            go_wp2_with (first
              | (refine build_on (by rfl) 44 #[] rfl _ _ dot_built0 (by simp [Act.eval]) ?_)
              | (refine wpList_store_row rfl 44 (.tmp 2) (.tmp 56) rfl w.heap.size _ rfl rfl 44 _ G5.out (by kernel_rfl) rfl (dot_one _ _) ?_))
            exact bodyPost_ret (results_cell2 Tryd.results56 _ _ w.heap.size 44 _ (0, 0) _ _ rfl rfl (setRow_heap _ _ _ _ _ _ G5.out) Tryd.underlying44 rfl (by kernel_rfl)) rfl ⟨by rw [HR.out.1, HR.out.2.1, HR.out.2.2]; rfl, below_setRow B5.out (Nat.le_refl _) _⟩
        · have t1 : (e1 != 0) = true := bne_iff_ne.2 z1
          have hd : isDot s = false := by rw [HD.out, show (e1 == 0) = false from beq_eq_false_iff_ne.2 z1]; simp
          have HR := Lib.hid (show parR s = 0 ∧ parQ s = 0 ∧ parErr s = 2 by have h := HP.out; rw [hd] at h; exact ⟨h.2.1, h.2.2, h.1⟩)
          clear z1 hd
          go_wp2_with (first
            | (refine build_on (by rfl) 44 #[] rfl _ _ dot_built0 (by simp [Act.eval]) ?_)
            | (refine wpList_store_row rfl 44 (.tmp 2) (.tmp 56) rfl w.heap.size _ rfl rfl 44 _ G5.out (by kernel_rfl) rfl (dot_one _ _) ?_))
          exact bodyPost_ret (results_cell2 Tryd.results56 _ _ w.heap.size 44 _ (0, 0) _ _ rfl rfl (setRow_heap _ _ _ _ _ _ G5.out) Tryd.underlying44 rfl (by kernel_rfl)) rfl ⟨by rw [HR.out.1, HR.out.2.1, HR.out.2.2]; rfl, below_setRow B5.out (Nat.le_refl _) _⟩
      · have t2 : ((x : Int) != 58) = true := by rw [bne_iff_ne]; omega
        have HD := Lib.hid (show s.getD k 0 ≠ 58 from fun e => by rw [HX.out.1] at e; rw [e] at HX; exact h58 HX.out.2.symm)
        clear h58 hc hx
        go_wp2
        go_roundw
        case rel => exact ⟨trivial, k + 1, by omega, by go_num, fun j h2 => by
          rcases Nat.lt_or_ge j k with h | h
          · exact HA.out j h
          · obtain rfl : j = k := by omega
            exact HD.out⟩
        case measure => simp [intOf]; omega
    · obtain rfl : k = n := by omega
      have hd := no_colon (s := s) (fun j hj => HA.out j (by rw [HN.out]; exact hj))
      have HR := Lib.hid (show parR s = 0 ∧ parQ s = 0 ∧ parErr s = 2 by rw [parR, parQ, parErr, hd]; exact ⟨rfl, rfl, rfl⟩)
      clear hd hlt
      have G5 := Lib.hid H0.out
      go_wp2_with (first
        | (refine build_on (by rfl) 44 #[] rfl _ _ dot_built0 (by simp [Act.eval]) ?_)
        | (refine wpList_store_row rfl 44 (.tmp 2) (.tmp 26) rfl w.heap.size _ rfl rfl 44 _ G5.out (by kernel_rfl) rfl (dot_one _ _) ?_))
      exact bodyPost_ret (results_cell2 Tryd.results56 _ _ w.heap.size 44 _ (0, 0) _ _ rfl rfl (setRow_heap _ _ _ _ _ _ G5.out) Tryd.underlying44 rfl (by kernel_rfl)) rfl ⟨by rw [HR.out.1, HR.out.2.1, HR.out.2.2]; rfl, below_setRow B0.out (Nat.le_refl _) _⟩
end Go.Proofs.YtcnjgdnokiindaaDoor
namespace Go.Proofs.YtcnjgdnokiindaaDoor
open Go.RowKit Go.Shelf
attribute [local go_sem] Oper.semAt_some
/-- A piece no longer than the text. -/
abbrev Pc (s : List UInt8) := { p : List UInt8 // p.length ≤ s.length }
theorem comma_first (t : List UInt8) : (Lib.indexByte t 44 = -1 ∧ piecesB 44 t = [t]) ∨ ∃ o : Nat, o < t.length ∧ Lib.indexByte t 44 = (o : Int) ∧ piecesB 44 t = t.take o :: piecesB 44 (t.drop (o + 1)) := by
  have hge := Lib.indexByte_ge t 44
  by_cases h : Lib.indexByte t 44 = -1
  · have hn : (44 : UInt8) ∉ t := fun hm => by
      obtain ⟨j, hj, e⟩ := List.mem_iff_getElem.1 hm
      exact absurd (by rw [List.getElem?_eq_getElem hj, e]) (Lib.indexByte_none h j)
    exact .inl ⟨h, pieces_last hn⟩
  · obtain ⟨k, hk⟩ : ∃ k : Nat, Lib.indexByte t 44 = (k : Int) := ⟨(Lib.indexByte t 44).toNat, by omega⟩
    obtain ⟨h1, h2⟩ := Lib.indexByte_some hk
    obtain ⟨hlt, he⟩ := List.getElem?_eq_some_iff.1 h1
    refine .inr ⟨k, hlt, hk, ?_⟩
    have hn : (44 : UInt8) ∉ t.take k := fun hm => by
      obtain ⟨j, hj, e⟩ := List.mem_iff_getElem.1 hm
      rw [List.length_take] at hj
      refine h2 j (by omega) ?_
      rw [List.getElem_take] at e
      rw [List.getElem?_eq_getElem (by omega), e]
    have hs : t = t.take k ++ 44 :: t.drop (k + 1) := by
      conv => lhs; rw [← List.take_append_drop k t]
      rw [List.drop_eq_getElem_cons hlt, he]
    conv => lhs; rw [hs]
    exact pieces_front hn
/-- How long the text in a cell is. -/
def cellLen (B : Nat) (W : World) : Nat := match W.cell? ⟨B, 0, none⟩ with | some (.string b) => b.size | _ => 0
theorem cellLen_one {B : Nat} {W : World} {t : TypeId} {b : ByteArray} (h : W.heap[B]? = some (.cells #[.string b] t (0, 0))) : cellLen B W = b.size := by
  unfold cellLen; rw [cell_of_one h]
theorem seq10_wraps (o m O : Nat) (h : o < m) (hm : m < 1152921504606846976) (hO : O = o + 1) : wrap64 ((o : Int) + 1) = (O : Int) ∧ wrap64 ((o : Int) + 0) = (o : Int) ∧ decide ((o : Int) < 0) = false := by
  refine ⟨?_, ?_, decide_eq_false (by omega)⟩ <;> rw [wrap64] <;> omega
theorem drop_step (s : List UInt8) (f o O m k : Nat) (hm : m = s.length) (hlt : o < (s.drop f).length) (hO : O = o + 1) (hf : f ≤ m) (hk : k ≤ f + 1) : f + O ≤ m ∧ (s.drop f).drop O = s.drop (f + O) ∧ ((s.drop f).drop O).length < (s.drop f).length ∧ k ≤ f + O := by
  rw [List.length_drop] at hlt
  exact ⟨by omega, List.drop_drop, by simp only [List.length_drop]; omega, by omega⟩
set_option maxRecDepth 100000 in
set_option maxHeartbeats 8000000 in
theorem splitSeq_in (n : Nat) (hn : 1 ≤ n) (l B : Nat) (s : List UInt8) (hs : s.length < 1152921504606846976) (J Jx : List (Pc s) → World → Prop) (hJ : AbidesSet B J)
    (hY : ∀ pre x W, J pre W → pre.length < s.length + 1 → YieldAt Fence.wide (n - 1) Tryd.prog l #[.string (str x.1)] W fun e W' =>
      (e = .returned (.bool true) ∧ J (pre ++ [x]) W' ∧ Keep3 B W W') ∨ (e = .returned (.bool false) ∧ Jx (pre ++ [x]) W'))
    (W : World) (hB0 : W.heap[B]? = some (.cells #[.string (str s)] 9 (0, 0))) (hB1 : W.heap[B + 1]? = some (.cells #[.string ⟨#[44]⟩] 9 (0, 0))) (hB2 : W.heap[B + 2]? = some (.cells #[.int .i64 0] 3 (0, 0))) (h0 : J [] W) :
    CallsIn Fence.wide n Tryd.prog 69 #[.func (.yield l) #[] #[], .pointer (some ⟨B + 1, 0, none⟩), .pointer (some ⟨B, 0, none⟩), .pointer (some ⟨B + 2, 0, none⟩)] W fun e W' => (∃ v, e = .returned v) ∧
      ((∃ ys : List (Pc s), ys.map (·.1) = piecesB 44 s ∧ J ys W') ∨ (∃ pre : List (Pc s), pre.map (·.1) <+: piecesB 44 s ∧ Jx pre W')) := by
  obtain ⟨m, hm⟩ : ∃ m, m = s.length := ⟨_, rfl⟩
  have HM := Lib.hid hm
  rw [← hm] at hs
  have HMS := Lib.hid hs
  have s2 : (ByteArray.mk #[44]).size = 1 := rfl
  have c1 := cell_of_one hB1
  clear hm hs
  refine callsIn_of_wp Tryd.func69 rfl trivial ?_ rfl
  simp only [Tryd.ntmps69, List.size_toArray, List.length_cons, List.length_nil, Nat.reduceAdd, Nat.reduceSub, Array.replicate_succ, Array.replicate_zero, List.push_toArray, List.append_toArray, List.nil_append, List.cons_append]
  gi_wp2
  gi_loopw [7] (fun x wr => ∃ (f : Nat) (pre : List (Pc s)), f ≤ m ∧ pre.map (·.1) ++ piecesB 44 (s.drop f) = piecesB 44 s ∧ pre.length ≤ f ∧ J pre wr ∧ wr.heap[B]? = some (.cells #[.string (str (s.drop f))] 9 (0, 0)) ∧ wr.heap[B + 1]? = some (.cells #[.string ⟨#[44]⟩] 9 (0, 0)) ∧ wr.heap[B + 2]? = some (.cells #[.int .i64 0] 3 (0, 0)))
    (fun _ wr => cellLen B wr)
  case atStart => exact ⟨0, [], by omega, rfl, Nat.le_refl _, h0, hB0, hB1, hB2⟩
  case round =>
    obtain ⟨f, pre, hfm, hpc, hpl, hj, b0, b1, b2⟩ := hrel
    have HPC := Lib.hid (And.intro hpc hpl)
    have hpre : pre.length < s.length + 1 := by have := HM.out; omega
    have HB := Lib.hid (And.intro b0 (And.intro b1 b2))
    have c0 := cell_of_one b0
    have c1 := cell_of_one b1
    have c2 := cell_of_one b2
    have HX := Lib.hid (show ∀ w, Calls Tryd.prog 71 #[.string (str (s.drop f)), .string ⟨#[44]⟩] w fun e w' => e = .returned (.int .i64 (Lib.indexByte (s.drop f) 44)) ∧ w = w' from fun w => by
      refine (Tryd.strings_Index_one (str (s.drop f)) 44 w).mono fun e w' h => ?_
      rw [show (str (s.drop f)).data.toList = s.drop f from by simp [str]] at h
      exact ⟨h.1, h.2.symm⟩)
    rcases comma_first (s.drop f) with ⟨hix, hmk⟩ | ⟨o, hlt, hix, hmk⟩
    · rw [hix] at HX
      obtain ⟨p, hp⟩ : ∃ p : Pc s, p.1 = s.drop f := ⟨⟨s.drop f, by simp⟩, rfl⟩
      have HE := Lib.hid (show (pre ++ [p]).map (·.1) = piecesB 44 s by
        rw [← HPC.out.1, List.map_append, List.map_cons, List.map_nil, hp, hmk])
      obtain ⟨fn, tmps, assign, body, hy, hR⟩ := hY pre p wr hj hpre
      rw [hp] at hy
      clear hp hpl hix hmk hpc b0 b1 b2 hpre
      gi_wp2_with (refine ⟨trivial, ?_⟩; gi_at_call 71; refine (callsIn_wide.2 (HX.out _)).mono ?_; rintro e w' ⟨rfl, rfl⟩)
      refine hR.mono ?_
      rintro e W3 (⟨rfl, hJ3, hk3⟩ | ⟨rfl, hJx3⟩)
      · gi_wp2
        refine bodyPost_end (results_none rfl _ _ _) rfl ?_
        exact ⟨⟨_, rfl⟩, .inl ⟨pre ++ [p], HE.out, hJ3⟩⟩
      · gi_wp2
        refine bodyPost_end (results_none rfl _ _ _) rfl ?_
        exact ⟨⟨_, rfl⟩, .inr ⟨pre ++ [p], by rw [HE.out]; exact List.prefix_refl _, hJx3⟩⟩
    · rw [hix] at HX
      obtain ⟨p, hp⟩ : ∃ p : Pc s, p.1 = (s.drop f).take o := ⟨⟨(s.drop f).take o, by rw [List.length_take, List.length_drop]; omega⟩, rfl⟩
      obtain ⟨O, hO⟩ : ∃ O : Nat, O = o + 1 := ⟨_, rfl⟩
      have hlm : o < m := by rw [List.length_drop] at hlt; have := HM.out; omega
      have HG := Lib.hid (drop_step s f o O m (pre ++ [p]).length HM.out hlt hO hfm (by rw [List.length_append, List.length_singleton]; omega))
      have ho' : o ≤ (s.drop f).length := Nat.le_of_lt hlt
      have hO' : O ≤ (s.drop f).length := by rw [hO]; exact hlt
      obtain ⟨w1, w2, d0⟩ := seq10_wraps o m O hlm HMS.out hO
      have w3 : wrap64 (o : Int) = (o : Int) := by rw [Int.add_zero] at w2; exact w2
      have sl1 : ∀ w, (Instr.slice 9 (.string (str (s.drop f))) none (some (.int .i64 (o : Int))) none).run Tryd.prog w = .ok (.string (str ((s.drop f).take o))) w := fun w => slice_upto w 9 (s.drop f) o ho' Tryd.underlying9
      have sl2 : ∀ w, (Instr.slice 9 (.string (str (s.drop f))) (some (.int .i64 (O : Int))) none none).run Tryd.prog w = .ok (.string (str ((s.drop f).drop O))) w := fun w => slice_rest w 9 (s.drop f) O hO' Tryd.underlying9
      have HE := Lib.hid (show (pre ++ [p]).map (·.1) ++ piecesB 44 ((s.drop f).drop O) = piecesB 44 s by
        rw [← HPC.out.1, List.map_append, List.map_cons, List.map_nil, hp, hmk, hO, List.append_assoc]; rfl)
      obtain ⟨fn, tmps, assign, body, hy, hR⟩ := hY pre p wr hj hpre
      rw [hp] at hy
      obtain ⟨X, hX⟩ : ∃ X, X = s.drop f := ⟨_, rfl⟩
      rw [← hX] at HX sl1 sl2 HE HG c0 HB hy
      obtain ⟨Y, hY1⟩ : ∃ Y, Y = X.take o := ⟨_, rfl⟩
      rw [← hY1] at sl1 hy
      obtain ⟨Z, hZ⟩ : ∃ Z, Z = X.drop O := ⟨_, rfl⟩
      rw [← hZ] at sl2 HE HG
      clear hp hpl hix hmk hpc b0 b1 b2 hlt hO hlm ho' hO' hpre hX hY1 hZ
      gi_wp2_with (refine ⟨trivial, ?_⟩; gi_at_call 71; refine (callsIn_wide.2 (HX.out _)).mono ?_; rintro e w' ⟨rfl, rfl⟩)
      refine hR.mono ?_
      rintro e W3 (⟨rfl, hJ3, hk3⟩ | ⟨rfl, hJx3⟩)
      · have b0 := (hk3 B (Nat.le_refl _) (by omega)).trans HB.out.1
        have b1 := (hk3 (B + 1) (by omega) (by omega)).trans HB.out.2.1
        have b2 := (hk3 (B + 2) (by omega) (by omega)).trans HB.out.2.2
        have c0 := cell_of_one b0
        have f0 := free_of_one b0
        have c1 := cell_of_one b1
        have HN := Lib.hid (And.intro (one_setCell (u := .string (str Z)) b0) (And.intro ((heap_setCell_other W3 ⟨B, 0, none⟩ (B + 1) (.string (str Z)) (by show B + 1 ≠ B; omega)).trans b1) (And.intro ((heap_setCell_other W3 ⟨B, 0, none⟩ (B + 2) (.string (str Z)) (by show B + 2 ≠ B; omega)).trans b2) (hJ _ W3 (.string (str Z)) hJ3))))
        clear b0 b1 b2 hk3
        gi_wp2
        go_roundw
        case rel => exact ⟨f + O, pre ++ [p], HG.out.1, by rw [← HG.out.2.1]; exact HE.out, HG.out.2.2.2, HN.out.2.2.2, by rw [← HG.out.2.1]; exact HN.out.1, HN.out.2.1, HN.out.2.2.1⟩
        case measure => rw [cellLen_one HN.out.1, cellLen_one HB.out.1, str_size, str_size]; exact HG.out.2.2.1
      · gi_wp2
        refine bodyPost_ret (results_none rfl _ _ _) rfl ?_
        exact ⟨⟨_, rfl⟩, .inr ⟨pre ++ [p], ⟨_, HE.out⟩, hJx3⟩⟩
theorem seq10 (n : Nat) (hn : 1 ≤ n) (B : Nat) (s : List UInt8) (hs : s.length < 1152921504606846976) (w : World) (hB : B + 3 ≤ w.heap.size) (hB0 : w.heap[B]? = some (.cells #[.string (str s)] 9 (0, 0))) (hB1 : w.heap[B + 1]? = some (.cells #[.string ⟨#[44]⟩] 9 (0, 0))) (hB2 : w.heap[B + 2]? = some (.cells #[.int .i64 0] 3 (0, 0))) :
    SeqCell Fence.wide n Tryd.prog 69 #[.pointer (some ⟨B + 1, 0, none⟩), .pointer (some ⟨B, 0, none⟩), .pointer (some ⟨B + 2, 0, none⟩)] (fun x : Pc s => #[.string (str x.1)]) B (fun xs => xs.map (·.1) = piecesB 44 s) (fun pre => pre.map (·.1) <+: piecesB 44 s) (s.length + 1) w := fun l J Jx W hW hJ hY h0 =>
  splitSeq_in n hn l B s hs J Jx hJ hY W ((hW.block B (by omega)).trans hB0) ((hW.block (B + 1) (by omega)).trans hB1) ((hW.block (B + 2) (by omega)).trans hB2) h0
/-- The function: it has laid its text, the byte between, and a number into three cells of its own. -/
theorem splitSeq_any (s : List UInt8) (w : World) : Calls Tryd.prog 28 #[.string (str s), .string ⟨#[44]⟩] w fun e w' => e = .returned (.func (.func 69) #[] #[.pointer (some ⟨w.heap.size + 1, 0, none⟩), .pointer (some ⟨w.heap.size, 0, none⟩), .pointer (some ⟨w.heap.size + 2, 0, none⟩)]) ∧
    (Below w.heap.size w w' ∧ w'.heap.size = w.heap.size + 3 ∧ w'.heap[w.heap.size]? = some (.cells #[.string (str s)] 9 (0, 0)) ∧ w'.heap[w.heap.size + 1]? = some (.cells #[.string ⟨#[44]⟩] 9 (0, 0)) ∧ w'.heap[w.heap.size + 2]? = some (.cells #[.int .i64 0] 3 (0, 0))) := by
  have hmf : ∀ (fn : Fn) (first cap : Array Value) (w : World), (Instr.makeFunc fn first cap).run Tryd.prog w = .ok (.func fn first cap) w := fun _ _ _ _ => rfl
  have H := Lib.hid (show Calls Tryd.prog 53 #[.string (str s), .string ⟨#[44]⟩, .int .i64 0] w fun e w' => e = .returned (.func (.func 69) #[] #[.pointer (some ⟨w.heap.size + 1, 0, none⟩), .pointer (some ⟨w.heap.size, 0, none⟩), .pointer (some ⟨w.heap.size + 2, 0, none⟩)]) ∧ w' = ((w.alloc (.cells #[.string (str s)] 9)).alloc (.cells #[.string ⟨#[44]⟩] 9)).alloc (.cells #[.int .i64 0] 3) from by
    go_enter Tryd.func53, Tryd.ntmps53
    go_wp2
    go_ret
    exact ⟨rfl, rfl⟩)
  go_enter Tryd.func28, Tryd.ntmps28
  go_wp2_with (first | (go_at_call 53; refine H.out.mono ?_; rintro e w1 ⟨rfl, rfl⟩))
  go_ret
  exact ⟨rfl, (((Below.refl w.heap.size w).alloc (Nat.le_refl _) _).alloc (by simp) _).alloc (by simp; omega) _, by simp, alloc3_0 w _ _ _, alloc3_1 w _ _ _, alloc3_2 w _ _ _⟩
end Go.Proofs.YtcnjgdnokiindaaDoor
namespace Go.Proofs.YtcnjgdnokiindaaDoor
open Go.RowKit Go.Shelf
attribute [local go_sem] Oper.semAt_some
theorem semi_first (t : List UInt8) : (Lib.indexByte t 59 = -1 ∧ piecesB 59 t = [t]) ∨ ∃ o : Nat, o < t.length ∧ Lib.indexByte t 59 = (o : Int) ∧ piecesB 59 t = t.take o :: piecesB 59 (t.drop (o + 1)) := by
  have hge := Lib.indexByte_ge t 59
  by_cases h : Lib.indexByte t 59 = -1
  · have hn : (59 : UInt8) ∉ t := fun hm => by
      obtain ⟨j, hj, e⟩ := List.mem_iff_getElem.1 hm
      exact absurd (by rw [List.getElem?_eq_getElem hj, e]) (Lib.indexByte_none h j)
    exact .inl ⟨h, pieces_last hn⟩
  · obtain ⟨k, hk⟩ : ∃ k : Nat, Lib.indexByte t 59 = (k : Int) := ⟨(Lib.indexByte t 59).toNat, by omega⟩
    obtain ⟨h1, h2⟩ := Lib.indexByte_some hk
    obtain ⟨hlt, he⟩ := List.getElem?_eq_some_iff.1 h1
    refine .inr ⟨k, hlt, hk, ?_⟩
    have hn : (59 : UInt8) ∉ t.take k := fun hm => by
      obtain ⟨j, hj, e⟩ := List.mem_iff_getElem.1 hm
      rw [List.length_take] at hj
      refine h2 j (by omega) ?_
      rw [List.getElem_take] at e
      rw [List.getElem?_eq_getElem (by omega), e]
    have hs : t = t.take k ++ 59 :: t.drop (k + 1) := by
      conv => lhs; rw [← List.take_append_drop k t]
      rw [List.drop_eq_getElem_cons hlt, he]
    conv => lhs; rw [hs]
    exact pieces_front hn
set_option maxRecDepth 100000 in
set_option maxHeartbeats 8000000 in
theorem splitSemi_in (n : Nat) (hn : 1 ≤ n) (l B : Nat) (s : List UInt8) (hs : s.length < 1152921504606846976) (J Jx : List (Pc s) → World → Prop) (hJ : AbidesSet B J)
    (hY : ∀ pre x W, J pre W → pre.length < s.length + 1 → YieldAt Fence.wide (n - 1) Tryd.prog l #[.string (str x.1)] W fun e W' =>
      (e = .returned (.bool true) ∧ J (pre ++ [x]) W' ∧ Keep3 B W W') ∨ (e = .returned (.bool false) ∧ Jx (pre ++ [x]) W'))
    (W : World) (hB0 : W.heap[B]? = some (.cells #[.string (str s)] 9 (0, 0))) (hB1 : W.heap[B + 1]? = some (.cells #[.string ⟨#[59]⟩] 9 (0, 0))) (hB2 : W.heap[B + 2]? = some (.cells #[.int .i64 0] 3 (0, 0))) (h0 : J [] W) :
    CallsIn Fence.wide n Tryd.prog 69 #[.func (.yield l) #[] #[], .pointer (some ⟨B + 1, 0, none⟩), .pointer (some ⟨B, 0, none⟩), .pointer (some ⟨B + 2, 0, none⟩)] W fun e W' => (∃ v, e = .returned v) ∧
      ((∃ ys : List (Pc s), ys.map (·.1) = piecesB 59 s ∧ J ys W') ∨ (∃ pre : List (Pc s), pre.map (·.1) <+: piecesB 59 s ∧ Jx pre W')) := by
  obtain ⟨m, hm⟩ : ∃ m, m = s.length := ⟨_, rfl⟩
  have HM := Lib.hid hm
  rw [← hm] at hs
  have HMS := Lib.hid hs
  have s2 : (ByteArray.mk #[59]).size = 1 := rfl
  have c1 := cell_of_one hB1
  clear hm hs
  refine callsIn_of_wp Tryd.func69 rfl trivial ?_ rfl
  simp only [Tryd.ntmps69, List.size_toArray, List.length_cons, List.length_nil, Nat.reduceAdd, Nat.reduceSub, Array.replicate_succ, Array.replicate_zero, List.push_toArray, List.append_toArray, List.nil_append, List.cons_append]
  gi_wp2
  gi_loopw [7] (fun x wr => ∃ (f : Nat) (pre : List (Pc s)), f ≤ m ∧ pre.map (·.1) ++ piecesB 59 (s.drop f) = piecesB 59 s ∧ pre.length ≤ f ∧ J pre wr ∧ wr.heap[B]? = some (.cells #[.string (str (s.drop f))] 9 (0, 0)) ∧ wr.heap[B + 1]? = some (.cells #[.string ⟨#[59]⟩] 9 (0, 0)) ∧ wr.heap[B + 2]? = some (.cells #[.int .i64 0] 3 (0, 0)))
    (fun _ wr => cellLen B wr)
  case atStart => exact ⟨0, [], by omega, rfl, Nat.le_refl _, h0, hB0, hB1, hB2⟩
  case round =>
    obtain ⟨f, pre, hfm, hpc, hpl, hj, b0, b1, b2⟩ := hrel
    have HPC := Lib.hid (And.intro hpc hpl)
    have hpre : pre.length < s.length + 1 := by have := HM.out; omega
    have HB := Lib.hid (And.intro b0 (And.intro b1 b2))
    have c0 := cell_of_one b0
    have c1 := cell_of_one b1
    have c2 := cell_of_one b2
    have HX := Lib.hid (show ∀ w, Calls Tryd.prog 71 #[.string (str (s.drop f)), .string ⟨#[59]⟩] w fun e w' => e = .returned (.int .i64 (Lib.indexByte (s.drop f) 59)) ∧ w = w' from fun w => by
      refine (Tryd.strings_Index_one (str (s.drop f)) 59 w).mono fun e w' h => ?_
      rw [show (str (s.drop f)).data.toList = s.drop f from by simp [str]] at h
      exact ⟨h.1, h.2.symm⟩)
    rcases semi_first (s.drop f) with ⟨hix, hmk⟩ | ⟨o, hlt, hix, hmk⟩
    · rw [hix] at HX
      obtain ⟨p, hp⟩ : ∃ p : Pc s, p.1 = s.drop f := ⟨⟨s.drop f, by simp⟩, rfl⟩
      have HE := Lib.hid (show (pre ++ [p]).map (·.1) = piecesB 59 s by
        rw [← HPC.out.1, List.map_append, List.map_cons, List.map_nil, hp, hmk])
      obtain ⟨fn, tmps, assign, body, hy, hR⟩ := hY pre p wr hj hpre
      rw [hp] at hy
      clear hp hpl hix hmk hpc b0 b1 b2 hpre
      gi_wp2_with (refine ⟨trivial, ?_⟩; gi_at_call 71; refine (callsIn_wide.2 (HX.out _)).mono ?_; rintro e w' ⟨rfl, rfl⟩)
      refine hR.mono ?_
      rintro e W3 (⟨rfl, hJ3, hk3⟩ | ⟨rfl, hJx3⟩)
      · gi_wp2
        refine bodyPost_end (results_none rfl _ _ _) rfl ?_
        exact ⟨⟨_, rfl⟩, .inl ⟨pre ++ [p], HE.out, hJ3⟩⟩
      · gi_wp2
        refine bodyPost_end (results_none rfl _ _ _) rfl ?_
        exact ⟨⟨_, rfl⟩, .inr ⟨pre ++ [p], by rw [HE.out]; exact List.prefix_refl _, hJx3⟩⟩
    · rw [hix] at HX
      obtain ⟨p, hp⟩ : ∃ p : Pc s, p.1 = (s.drop f).take o := ⟨⟨(s.drop f).take o, by rw [List.length_take, List.length_drop]; omega⟩, rfl⟩
      obtain ⟨O, hO⟩ : ∃ O : Nat, O = o + 1 := ⟨_, rfl⟩
      have hlm : o < m := by rw [List.length_drop] at hlt; have := HM.out; omega
      have HG := Lib.hid (drop_step s f o O m (pre ++ [p]).length HM.out hlt hO hfm (by rw [List.length_append, List.length_singleton]; omega))
      have ho' : o ≤ (s.drop f).length := Nat.le_of_lt hlt
      have hO' : O ≤ (s.drop f).length := by rw [hO]; exact hlt
      obtain ⟨w1, w2, d0⟩ := seq10_wraps o m O hlm HMS.out hO
      have w3 : wrap64 (o : Int) = (o : Int) := by rw [Int.add_zero] at w2; exact w2
      have sl1 : ∀ w, (Instr.slice 9 (.string (str (s.drop f))) none (some (.int .i64 (o : Int))) none).run Tryd.prog w = .ok (.string (str ((s.drop f).take o))) w := fun w => slice_upto w 9 (s.drop f) o ho' Tryd.underlying9
      have sl2 : ∀ w, (Instr.slice 9 (.string (str (s.drop f))) (some (.int .i64 (O : Int))) none none).run Tryd.prog w = .ok (.string (str ((s.drop f).drop O))) w := fun w => slice_rest w 9 (s.drop f) O hO' Tryd.underlying9
      have HE := Lib.hid (show (pre ++ [p]).map (·.1) ++ piecesB 59 ((s.drop f).drop O) = piecesB 59 s by
        rw [← HPC.out.1, List.map_append, List.map_cons, List.map_nil, hp, hmk, hO, List.append_assoc]; rfl)
      obtain ⟨fn, tmps, assign, body, hy, hR⟩ := hY pre p wr hj hpre
      rw [hp] at hy
      obtain ⟨X, hX⟩ : ∃ X, X = s.drop f := ⟨_, rfl⟩
      rw [← hX] at HX sl1 sl2 HE HG c0 HB hy
      obtain ⟨Y, hY1⟩ : ∃ Y, Y = X.take o := ⟨_, rfl⟩
      rw [← hY1] at sl1 hy
      obtain ⟨Z, hZ⟩ : ∃ Z, Z = X.drop O := ⟨_, rfl⟩
      rw [← hZ] at sl2 HE HG
      clear hp hpl hix hmk hpc b0 b1 b2 hlt hO hlm ho' hO' hpre hX hY1 hZ
      gi_wp2_with (refine ⟨trivial, ?_⟩; gi_at_call 71; refine (callsIn_wide.2 (HX.out _)).mono ?_; rintro e w' ⟨rfl, rfl⟩)
      refine hR.mono ?_
      rintro e W3 (⟨rfl, hJ3, hk3⟩ | ⟨rfl, hJx3⟩)
      · have b0 := (hk3 B (Nat.le_refl _) (by omega)).trans HB.out.1
        have b1 := (hk3 (B + 1) (by omega) (by omega)).trans HB.out.2.1
        have b2 := (hk3 (B + 2) (by omega) (by omega)).trans HB.out.2.2
        have c0 := cell_of_one b0
        have f0 := free_of_one b0
        have c1 := cell_of_one b1
        have HN := Lib.hid (And.intro (one_setCell (u := .string (str Z)) b0) (And.intro ((heap_setCell_other W3 ⟨B, 0, none⟩ (B + 1) (.string (str Z)) (by show B + 1 ≠ B; omega)).trans b1) (And.intro ((heap_setCell_other W3 ⟨B, 0, none⟩ (B + 2) (.string (str Z)) (by show B + 2 ≠ B; omega)).trans b2) (hJ _ W3 (.string (str Z)) hJ3))))
        clear b0 b1 b2 hk3
        gi_wp2
        go_roundw
        case rel => exact ⟨f + O, pre ++ [p], HG.out.1, by rw [← HG.out.2.1]; exact HE.out, HG.out.2.2.2, HN.out.2.2.2, by rw [← HG.out.2.1]; exact HN.out.1, HN.out.2.1, HN.out.2.2.1⟩
        case measure => rw [cellLen_one HN.out.1, cellLen_one HB.out.1, str_size, str_size]; exact HG.out.2.2.1
      · gi_wp2
        refine bodyPost_ret (results_none rfl _ _ _) rfl ?_
        exact ⟨⟨_, rfl⟩, .inr ⟨pre ++ [p], ⟨_, HE.out⟩, hJx3⟩⟩
theorem seq11 (n : Nat) (hn : 1 ≤ n) (B : Nat) (s : List UInt8) (hs : s.length < 1152921504606846976) (w : World) (hB : B + 3 ≤ w.heap.size) (hB0 : w.heap[B]? = some (.cells #[.string (str s)] 9 (0, 0))) (hB1 : w.heap[B + 1]? = some (.cells #[.string ⟨#[59]⟩] 9 (0, 0))) (hB2 : w.heap[B + 2]? = some (.cells #[.int .i64 0] 3 (0, 0))) :
    SeqCell Fence.wide n Tryd.prog 69 #[.pointer (some ⟨B + 1, 0, none⟩), .pointer (some ⟨B, 0, none⟩), .pointer (some ⟨B + 2, 0, none⟩)] (fun x : Pc s => #[.string (str x.1)]) B (fun xs => xs.map (·.1) = piecesB 59 s) (fun pre => pre.map (·.1) <+: piecesB 59 s) (s.length + 1) w := fun l J Jx W hW hJ hY h0 =>
  splitSemi_in n hn l B s hs J Jx hJ hY W ((hW.block B (by omega)).trans hB0) ((hW.block (B + 1) (by omega)).trans hB1) ((hW.block (B + 2) (by omega)).trans hB2) h0
/-- The function: it has laid its text, the byte between, and a number into three cells of its own. -/
theorem splitSemi_any (s : List UInt8) (w : World) : Calls Tryd.prog 28 #[.string (str s), .string ⟨#[59]⟩] w fun e w' => e = .returned (.func (.func 69) #[] #[.pointer (some ⟨w.heap.size + 1, 0, none⟩), .pointer (some ⟨w.heap.size, 0, none⟩), .pointer (some ⟨w.heap.size + 2, 0, none⟩)]) ∧
    (Below w.heap.size w w' ∧ w'.heap.size = w.heap.size + 3 ∧ w'.heap[w.heap.size]? = some (.cells #[.string (str s)] 9 (0, 0)) ∧ w'.heap[w.heap.size + 1]? = some (.cells #[.string ⟨#[59]⟩] 9 (0, 0)) ∧ w'.heap[w.heap.size + 2]? = some (.cells #[.int .i64 0] 3 (0, 0))) := by
  have hmf : ∀ (fn : Fn) (first cap : Array Value) (w : World), (Instr.makeFunc fn first cap).run Tryd.prog w = .ok (.func fn first cap) w := fun _ _ _ _ => rfl
  have H := Lib.hid (show Calls Tryd.prog 53 #[.string (str s), .string ⟨#[59]⟩, .int .i64 0] w fun e w' => e = .returned (.func (.func 69) #[] #[.pointer (some ⟨w.heap.size + 1, 0, none⟩), .pointer (some ⟨w.heap.size, 0, none⟩), .pointer (some ⟨w.heap.size + 2, 0, none⟩)]) ∧ w' = ((w.alloc (.cells #[.string (str s)] 9)).alloc (.cells #[.string ⟨#[59]⟩] 9)).alloc (.cells #[.int .i64 0] 3) from by
    go_enter Tryd.func53, Tryd.ntmps53
    go_wp2
    go_ret
    exact ⟨rfl, rfl⟩)
  go_enter Tryd.func28, Tryd.ntmps28
  go_wp2_with (first | (go_at_call 53; refine H.out.mono ?_; rintro e w1 ⟨rfl, rfl⟩))
  go_ret
  exact ⟨rfl, (((Below.refl w.heap.size w).alloc (Nat.le_refl _) _).alloc (by simp) _).alloc (by simp; omega) _, by simp, alloc3_0 w _ _ _, alloc3_1 w _ _ _, alloc3_2 w _ _ _⟩
end Go.Proofs.YtcnjgdnokiindaaDoor
namespace Go.Proofs.YtcnjgdnokiindaaDoor
abbrev M2 := List (List D2)
def mayM (m : M2) (n : Int) : Bool := m.all mayV && (decide ((m.length : Int) = n) && (decide (1 ≤ n) && decide (n ≤ 32)))
def rowM (m : M2) (r : Int) : List D2 := if 0 ≤ r then m.getD r.toNat [] else []
def raiseM (m : M2) (r : Int) (v : List D2) : M2 := if 0 ≤ r ∧ r < (m.length : Int) then m.set r.toNat (joinV (m.getD r.toNat []) v) else m
def joinM : M2 → M2 → M2
  | [], b => b
  | a, [] => a
  | x :: a, y :: b => joinV x y :: joinM a b
def lowM : M2 → List D2
  | [] => []
  | x :: t => t.foldl meetV (meetV x x)
def textM (m : M2) : List UInt8 := joinB 59 (m.map textV)
def dotsM (s : List UInt8) : M2 := (piecesB 59 s).map parV
def isMatT (s : List UInt8) (n : Int) : Bool := (piecesB 59 s).all isVecT && (decide (((piecesB 59 s).length : Int) = n) && (decide (1 ≤ n) && decide (n ≤ 32)))
def parMErr (s : List UInt8) (n : Int) : Int := if isMatT s n then 0 else 2
def parM (s : List UInt8) (n : Int) : M2 := if isMatT s n then dotsM s else []
/-- A vector's text has no semicolon. -/
theorem semi_not (l : List D2) : (59 : UInt8) ∉ textV l := by
  rw [textV, textL]
  split
  · decide
  · intro h
    have key : ∀ ps : List (List UInt8), (∀ p ∈ ps, (59 : UInt8) ∉ p) → (59 : UInt8) ∉ joinB 44 ps := fun ps hps hm => by
      cases ps with
      | nil => cases hm
      | cons p t =>
        rw [joinB] at hm
        rcases List.mem_append.1 hm with h | h
        · exact hps p (List.mem_cons_self) h
        · obtain ⟨q, hq, hc⟩ := List.mem_flatMap.1 h
          rcases List.mem_cons.1 hc with h | h
          · cases h
          · exact hps q (List.mem_cons_of_mem _ hq) h
    exact key _ (fun p hp => by obtain ⟨d, -, rfl⟩ := List.mem_map.1 hp; exact dotT_not (by decide) (by decide) (by decide) d) h
theorem isVecT_text (l : List D2) : isVecT (textV l) = true := by
  have h := (parse_textV l).1
  unfold parVErr at h
  cases hh : isVecT (textV l) with
  | true => rfl
  | false => rw [hh] at h; cases h
theorem map_same {α : Type} {f : α → α} {l : List α} (h : ∀ x ∈ l, f x = x) : l.map f = l := by
  induction l with
  | nil => rfl
  | cons a t ih => rw [List.map_cons, h a List.mem_cons_self, ih fun x hx => h x (List.mem_cons_of_mem _ hx)]
/-- A matrix that may be is parsed as it was. -/
theorem parse_textM {m : M2} (h : mayM m m.length = true) : parMErr (textM m) m.length = 0 ∧ parM (textM m) m.length = m := by
  simp only [mayM, Bool.and_eq_true, decide_eq_true_eq] at h
  obtain ⟨h1, -, h2, h3⟩ := h
  have hne : m ≠ [] := fun e => by subst e; simp at h2
  obtain ⟨a, d, rfl⟩ := list_snoc m hne
  have hp : piecesB 59 (textM (a ++ [d])) = (a ++ [d]).map textV := by
    rw [textM, List.map_append, List.map_cons, List.map_nil, piecesB, cut_join _ _ (fun p hp => by obtain ⟨x, -, rfl⟩ := List.mem_map.1 hp; exact semi_not x) (semi_not d)]
  have hi : isMatT (textM (a ++ [d])) ((a ++ [d]).length : Nat) = true := by
    simp only [isMatT, Bool.and_eq_true, decide_eq_true_eq, hp, List.length_map]
    refine ⟨?_, trivial, h2, h3⟩
    rw [List.all_eq_true]
    intro p hp
    obtain ⟨l, -, rfl⟩ := List.mem_map.1 hp
    exact isVecT_text l
  rw [parMErr, parM, hi, dotsM, hp, List.map_map]
  refine ⟨rfl, ?_⟩
  rw [if_pos rfl]
  exact map_same fun l hl => by rw [Function.comp_apply, (parse_textV l).2, rising_vec (List.all_eq_true.1 h1 l hl)]
/-- What is parsed may be, and has the very text. -/
theorem text_parseM {s : List UInt8} {n : Int} (h : isMatT s n = true) : mayM (parM s n) n = true ∧ textM (parM s n) = s := by
  have h' := h
  simp only [isMatT, Bool.and_eq_true, decide_eq_true_eq] at h'
  obtain ⟨h1, h2, h3, h4⟩ := h'
  have hp : parM s n = dotsM s := by rw [parM, h]; rfl
  have key : ∀ p ∈ piecesB 59 s, mayV (parV p) = true ∧ textV (parV p) = p := fun p hp => text_parseV (List.all_eq_true.1 h1 p hp)
  rw [hp]
  constructor
  · simp only [mayM, dotsM, Bool.and_eq_true, decide_eq_true_eq, List.length_map]
    refine ⟨?_, h2, h3, h4⟩
    rw [List.all_eq_true]
    intro l hl
    obtain ⟨p, hp, rfl⟩ := List.mem_map.1 hl
    exact (key p hp).1
  · have e : (piecesB 59 s).map (textV ∘ parV) = piecesB 59 s := map_same fun p hp => by rw [Function.comp_apply, (key p hp).2]
    rw [textM, dotsM, List.map_map, e, join_cut]
theorem parMErr_cases (s : List UInt8) (n : Int) : parMErr s n = 0 ∧ isMatT s n = true ∨ parMErr s n = 2 ∧ isMatT s n = false ∧ parM s n = [] := by
  unfold parMErr parM
  cases h : isMatT s n <;> simp
/-- Rows of what is raised and joined. -/
theorem raiseM_length (m : M2) (r : Int) (v : List D2) : (raiseM m r v).length = m.length := by
  unfold raiseM; split
  · rw [List.length_set]
  · rfl
theorem raiseM_row (m : M2) (k : Nat) (v : List D2) (i : Nat) : (raiseM m (k : Int) v).getD i [] = if i = k ∧ k < m.length then joinV (m.getD k []) v else m.getD i [] := by
  unfold raiseM
  by_cases hk : k < m.length
  · rw [if_pos ⟨by omega, by omega⟩, Int.toNat_natCast]
    by_cases hi : i = k
    · subst hi
      rw [if_pos ⟨rfl, hk⟩, List.getD_eq_getElem?_getD, List.getElem?_set_self hk]; rfl
    · rw [if_neg (fun h => hi h.1), List.getD_eq_getElem?_getD, List.getElem?_set_ne (by omega), ← List.getD_eq_getElem?_getD]
  · rw [if_neg (by omega), if_neg (fun h => hk h.2)]
theorem joinM_length (a b : M2) : (joinM a b).length = max a.length b.length := by
  induction a generalizing b with
  | nil => cases b <;> simp [joinM]
  | cons x a ih =>
    cases b with
    | nil => simp [joinM]
    | cons y b => simp only [joinM, List.length_cons, ih]; omega
theorem joinM_row (a b : M2) (h : a.length = b.length) (i : Nat) (hi : i < a.length) : (joinM a b).getD i [] = joinV (a.getD i []) (b.getD i []) := by
  induction a generalizing b i with
  | nil => simp at hi
  | cons x a ih =>
    cases b with
    | nil => simp at h
    | cons y b =>
      cases i with
      | zero => rfl
      | succ i => exact ih b (by simpa using h) i (by simpa using hi)
theorem mayV_fold (t : M2) : ∀ x : List D2, mayV x = true → mayV (t.foldl meetV x) = true := by
  induction t with
  | nil => intro x h; exact h
  | cons y t ih => intro x _; rw [List.foldl_cons]; exact ih _ (mayV_meet _ _)
theorem mayV_low (m : M2) : mayV (lowM m) = true := by
  cases m with
  | nil => exact mayV_nil
  | cons x t => rw [lowM]; exact mayV_fold t _ (mayV_meet x x)
theorem has_fold (t : M2) (r q : Int) : ∀ x : List D2, hasV (t.foldl meetV x) r q = (hasV x r q && t.all fun l => hasV l r q) := by
  induction t with
  | nil => intro x; simp
  | cons y t ih => intro x; rw [List.foldl_cons, ih, has_meet, List.all_cons, Bool.and_assoc]
/-- A dot is known of all just if each row knows it. -/
theorem has_low {m : M2} (h : m ≠ []) (r q : Int) : hasV (lowM m) r q = m.all fun l => hasV l r q := by
  cases m with
  | nil => exact absurd rfl h
  | cons x t => rw [lowM, has_fold, has_meet, List.all_cons, Bool.and_self]
theorem leq_fold {t t' : M2} (h : t.length = t'.length) (hr : ∀ i, leqV (t.getD i []) (t'.getD i []) = true) : ∀ x x' : List D2, leqV x x' = true → leqV (t.foldl meetV x) (t'.foldl meetV x') = true := by
  induction t generalizing t' with
  | nil => intro x x' hx; cases t' with
    | nil => exact hx
    | cons y t' => simp at h
  | cons y t ih =>
    intro x x' hx
    cases t' with
    | nil => simp at h
    | cons y' t' =>
      rw [List.foldl_cons, List.foldl_cons]
      refine ih (by simpa using h) (fun i => hr (i + 1)) _ _ ?_
      have h0 := hr 0
      exact meet_great (leq_trans (meet_leq x y).1 hx) (leq_trans (meet_leq x y).2 h0)
/-- What rises lowers nothing that all know. -/
theorem low_rises {m m' : M2} (h : m.length = m'.length) (hr : ∀ i, leqV (m.getD i []) (m'.getD i []) = true) : leqV (lowM m) (lowM m') = true := by
  cases m with
  | nil => cases m' with
    | nil => rw [leqV_iff]; intro i _; exact Int.le_refl _
    | cons y t => simp at h
  | cons x t =>
    cases m' with
    | nil => simp at h
    | cons x' t' =>
      have h0 := hr 0
      rw [lowM, lowM]
      exact leq_fold (by simpa using h) (fun i => hr (i + 1)) _ _ (meet_great (leq_trans (meet_leq x x).1 h0) (leq_trans (meet_leq x x).1 h0))
theorem leq_refl (a : List D2) : leqV a a = true := (leqV_iff a a).2 fun _ _ => Int.le_refl _
/-- Rows raised, one behind the other. -/
def raises (l : List (Nat × List D2)) (m : M2) : M2 := l.foldl (fun m x => raiseM m (x.1 : Int) x.2) m
def supStep (i j : Nat) (z : Int) (x : Nat × List D2) : Int := if x.1 = i then max z (allV x.2 j) else z
def supOf (l : List (Nat × List D2)) (i j : Nat) (z : Int) : Int := l.foldl (supStep i j) z
theorem raises_length (l : List (Nat × List D2)) : ∀ m, (raises l m).length = m.length := by
  induction l with
  | nil => intro m; rfl
  | cons x t ih => intro m; show (raises t (raiseM m (x.1 : Int) x.2)).length = _; rw [ih, raiseM_length]
theorem raises_cnt (l : List (Nat × List D2)) (i j : Nat) (hj : j < 32) : ∀ m : M2, i < m.length → allV ((raises l m).getD i []) j = supOf l i j (allV (m.getD i []) j) := by
  induction l with
  | nil => intro m _; rfl
  | cons x t ih =>
    intro m hi
    show allV ((raises t (raiseM m (x.1 : Int) x.2)).getD i []) j = supOf t i j (supStep i j (allV (m.getD i []) j) x)
    rw [ih _ (by rw [raiseM_length]; exact hi), raiseM_row, supStep]
    by_cases h : x.1 = i
    · rw [if_pos h, if_pos ⟨h.symm, by omega⟩, all_join _ _ hj, h]
    · rw [if_neg h, if_neg (fun hh => h hh.1.symm)]
theorem supStep_comm (i j : Nat) (z : Int) (x y : Nat × List D2) : supStep i j (supStep i j z x) y = supStep i j (supStep i j z y) x := by
  unfold supStep; split <;> split <;> omega
theorem supOf_snoc (l : List (Nat × List D2)) (x : Nat × List D2) (i j : Nat) (z : Int) : supOf (l ++ [x]) i j z = supStep i j (supOf l i j z) x := by
  rw [supOf, List.foldl_append]; rfl
theorem supOf_front (l : List (Nat × List D2)) (i j : Nat) (x : Nat × List D2) : ∀ z, supOf l i j (supStep i j z x) = supStep i j (supOf l i j z) x := by
  induction l with
  | nil => intro z; rfl
  | cons y t ih => intro z; show supOf t i j (supStep i j (supStep i j z x) y) = supStep i j (supOf t i j (supStep i j z y)) x; rw [supStep_comm, ih]
theorem supOf_rev (l : List (Nat × List D2)) (i j : Nat) : ∀ z, supOf l.reverse i j z = supOf l i j z := by
  induction l with
  | nil => intro z; rfl
  | cons x t ih => intro z; rw [List.reverse_cons, supOf_snoc, ih]; exact (supOf_front t i j x z).symm
theorem supOf_max (l : List (Nat × List D2)) (i j : Nat) : ∀ z, 0 ≤ z → supOf l i j z = max z (supOf l i j 0) := by
  induction l with
  | nil => intro z h; show z = max z 0; omega
  | cons x t ih =>
    intro z h
    have hb := allV_bd x.2 j
    show supOf t i j (supStep i j z x) = max z (supOf t i j (supStep i j 0 x))
    unfold supStep
    by_cases e : x.1 = i
    · rw [if_pos e, if_pos e, ih (max z (allV x.2 j)) (by omega), ih (max 0 (allV x.2 j)) (by omega)]; omega
    · rw [if_neg e, if_neg e]; exact ih z h
theorem supOf_twice (l : List (Nat × List D2)) (i j : Nat) : supOf l i j (supOf l i j 0) = supOf l i j 0 := by
  have h0 : 0 ≤ supOf l i j 0 := by have := supOf_max l i j 0 (Int.le_refl 0); omega
  rw [supOf_max l i j _ h0]; omega
theorem supOf_append (l k : List (Nat × List D2)) (i j : Nat) (z : Int) : supOf (l ++ k) i j z = supOf k i j (supOf l i j z) := List.foldl_append
theorem supOf_parts (l k : List (Nat × List D2)) (i j : Nat) : supOf (l ++ k) i j 0 = max (supOf l i j 0) (supOf k i j 0) := by
  have h0 : 0 ≤ supOf l i j 0 := by have := supOf_max l i j 0 (Int.le_refl 0); omega
  rw [supOf_append, supOf_max k i j _ h0]
/-- Rows that all are vectors. -/
def RowsMay (m : M2) : Prop := ∀ i, i < m.length → mayV (m.getD i []) = true
theorem rows_raise {m : M2} (h : RowsMay m) (k : Nat) (v : List D2) : RowsMay (raiseM m (k : Int) v) := fun i hi => by
  rw [raiseM_length] at hi
  rw [raiseM_row]; split
  · exact mayV_join _ _
  · exact h i hi
theorem rows_raises (l : List (Nat × List D2)) : ∀ m, RowsMay m → RowsMay (raises l m) := by
  induction l with
  | nil => intro m h; exact h
  | cons x t ih => intro m h; exact ih _ (rows_raise h x.1 x.2)
theorem rows_join {a b : M2} (h : a.length = b.length) : RowsMay (joinM a b) := fun i hi => by
  rw [joinM_length, ← h, Nat.max_self] at hi
  rw [joinM_row a b h i hi]; exact mayV_join _ _
theorem rows_same {a b : M2} (h : a.length = b.length) (ha : RowsMay a) (hb : RowsMay b) (he : ∀ i, i < a.length → ∀ j, j < 32 → allV (a.getD i []) j = allV (b.getD i []) j) : a = b := by
  refine List.ext_getElem? fun i => ?_
  by_cases hi : i < a.length
  · have h1 := rising_vec (ha i hi)
    have h2 := rising_vec (hb i (by omega))
    have h3 : a.getD i [] = b.getD i [] := by rw [← h1, ← h2]; exact ofN_congr fun j hj => he i hi j hj
    rw [List.getD_eq_getElem?_getD, List.getD_eq_getElem?_getD, List.getElem?_eq_getElem hi, List.getElem?_eq_getElem (by omega)] at h3
    rw [List.getElem?_eq_getElem hi, List.getElem?_eq_getElem (by omega)]
    exact congrArg some h3
  · rw [List.getElem?_eq_none (by omega), List.getElem?_eq_none (by omega)]
def newM (n : Nat) : M2 := List.replicate n []
theorem newM_row (n i : Nat) : (newM n).getD i [] = [] := by
  rw [newM, List.getD_eq_getElem?_getD, List.getElem?_replicate]; split <;> rfl
theorem rows_new (n : Nat) : RowsMay (newM n) := fun i _ => by rw [newM_row]; exact mayV_nil
/-- In whatever order rows are raised, the matrix is the same; twice is as once; in two parts, joined, it is the same. -/
theorem raises_rev (n : Nat) (l : List (Nat × List D2)) : raises l.reverse (newM n) = raises l (newM n) :=
  rows_same (by rw [raises_length, raises_length]) (rows_raises _ _ (rows_new n)) (rows_raises _ _ (rows_new n)) fun i hi j hj => by
    rw [raises_length] at hi
    rw [raises_cnt _ _ _ hj _ hi, raises_cnt _ _ _ hj _ hi, supOf_rev]
theorem raises_twice (n : Nat) (l : List (Nat × List D2)) : raises l (raises l (newM n)) = raises l (newM n) :=
  rows_same (by rw [raises_length]) (rows_raises _ _ (rows_raises _ _ (rows_new n))) (rows_raises _ _ (rows_new n)) fun i hi j hj => by
    rw [raises_length, raises_length] at hi
    rw [raises_cnt _ _ _ hj _ (by rw [raises_length]; exact hi), raises_cnt _ _ _ hj _ hi, newM_row, allV_nil, supOf_twice]
theorem raises_parts (n : Nat) (l k : List (Nat × List D2)) : joinM (raises l (newM n)) (raises k (newM n)) = raises (l ++ k) (newM n) ∧ joinM (raises k (newM n)) (raises l (newM n)) = raises (l ++ k) (newM n) := by
  have hl : (raises l (newM n)).length = (newM n).length := raises_length _ _
  have hk : (raises k (newM n)).length = (newM n).length := raises_length _ _
  have ha : (raises (l ++ k) (newM n)).length = (newM n).length := raises_length _ _
  constructor
  · refine rows_same (by rw [joinM_length, hl, hk, ha, Nat.max_self]) (rows_join (by rw [hl, hk])) (rows_raises _ _ (rows_new n)) fun i hi j hj => ?_
    rw [joinM_length, hl, hk, Nat.max_self] at hi
    rw [joinM_row _ _ (by rw [hl, hk]) i (by rw [hl]; exact hi), all_join _ _ hj, raises_cnt _ _ _ hj _ hi, raises_cnt _ _ _ hj _ hi, raises_cnt _ _ _ hj _ hi, newM_row, allV_nil, supOf_parts]
  · refine rows_same (by rw [joinM_length, hl, hk, ha, Nat.max_self]) (rows_join (by rw [hl, hk])) (rows_raises _ _ (rows_new n)) fun i hi j hj => ?_
    rw [joinM_length, hl, hk, Nat.max_self] at hi
    rw [joinM_row _ _ (by rw [hl, hk]) i (by rw [hk]; exact hi), all_join _ _ hj, raises_cnt _ _ _ hj _ hi, raises_cnt _ _ _ hj _ hi, raises_cnt _ _ _ hj _ hi, newM_row, allV_nil, supOf_parts]
    omega
end Go.Proofs.YtcnjgdnokiindaaDoor
