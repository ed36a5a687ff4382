/-
Texts that all claims of this seat share, part 1: Ustar, Files, Ref05, Ref05Text, Ref05Put, Ref05Get, Ref06, Ref06Split, Ref06Own, OctalFace.
-/
import Derived.Laws.AppendOwn
import Derived.Test.YtocpplnnnflekaaDoorProg
import Derived.StillTailTactics
import Derived.WalkKit
import Derived.Lib.Hide
import Derived.Deep.RegionWith
import Derived.WalkLawsBesides
import Derived.Laws.DeepStrings4
import Derived.BigQuiet
import Derived.Deep.QuietTactic
import Derived.Test.YtocpplnnnflekaaDoorPk0
namespace Go.Proofs.YtocpplnnnflekaaDoor
open Go.RowKit
/-- A file: its path and its bytes. -/
abbrev F8 := List UInt8 × List UInt8
def zeros (n : Nat) : List UInt8 := List.replicate n 0
theorem zeros_len (n : Nat) : (zeros n).length = n := List.length_replicate
def padN (n : Nat) : Nat := (512 - n % 512) % 512
theorem padN_round (n : Nat) : roundZ (n : Int) = ((n + padN n : Nat) : Int) := by
  rw [roundZ, padN]; split <;> omega
def fileB (f : F8) : List UInt8 := putH f.1 f.2.length ++ (f.2 ++ zeros (padN f.2.length))
def bodyB : List F8 → List UInt8
  | [] => []
  | f :: t => fileB f ++ bodyB t
theorem bodyB_append (l m : List F8) : bodyB (l ++ m) = bodyB l ++ bodyB m := by
  induction l with
  | nil => rfl
  | cons f t ih => rw [List.cons_append, bodyB, bodyB, ih, List.append_assoc]
def totalB : List F8 → Nat
  | [] => 0
  | f :: t => f.2.length + totalB t
theorem totalB_append (l m : List F8) : totalB (l ++ m) = totalB l + totalB m := by
  induction l with
  | nil => simp [totalB]
  | cons f t ih => rw [List.cons_append, totalB, totalB, ih, Nat.add_assoc]
/-- The error of the first file's header that has one. -/
def firstErr : List F8 → Int
  | [] => 0
  | f :: t => if putHErr f.1 f.2.length = 0 then firstErr t else putHErr f.1 f.2.length
theorem firstErr_append (l m : List F8) : firstErr (l ++ m) = if firstErr l = 0 then firstErr m else firstErr l := by
  induction l with
  | nil => simp [firstErr]
  | cons f t ih =>
    rw [List.cons_append, firstErr, firstErr]
    by_cases h : putHErr f.1 f.2.length = 0
    · rw [if_pos h, if_pos h, ih]
    · rw [if_neg h, if_neg h, if_neg h]
theorem firstErr_zero {l : List F8} : firstErr l = 0 ↔ ∀ f ∈ l, putHErr f.1 f.2.length = 0 := by
  induction l with
  | nil => simp [firstErr]
  | cons f t ih =>
    rw [firstErr]
    by_cases h : putHErr f.1 f.2.length = 0
    · rw [if_pos h, ih]; simp [h]
    · rw [if_neg h]; simp [h]
/-- Does a path come twice? -/
def twiceB (l : List F8) : Bool := !decide ((l.map (·.1)).Nodup)
def putUErr (l : List F8) : Int := if 400 < l.length ∨ 4194304 < totalB l then 5 else if firstErr l = 0 then (if twiceB l then 7 else 0) else firstErr l
def putU (l : List F8) : List UInt8 := if putUErr l = 0 then bodyB l ++ zeros 1024 else []
theorem putUErr_zero {l : List F8} : putUErr l = 0 ↔ l.length ≤ 400 ∧ totalB l ≤ 4194304 ∧ firstErr l = 0 ∧ twiceB l = false := by
  unfold putUErr
  by_cases h : 400 < l.length ∨ 4194304 < totalB l
  · rw [if_pos h]; constructor
    · intro h; cases h
    · intro h'; omega
  · rw [if_neg h]
    by_cases h2 : firstErr l = 0
    · rw [if_pos h2]
      cases twiceB l with
      | true => simp
      | false => simp [h2]; omega
    · rw [if_neg h2]; simp [h2]
theorem fileB_len {f : F8} (h : putHErr f.1 f.2.length = 0) : (fileB f).length = 512 + f.2.length + padN f.2.length := by
  rw [fileB, List.length_append, List.length_append, putH_len h, zeros_len]; omega
/-- How many bytes an archive has. -/
def sizeU : List Int → Int
  | [] => 1024
  | z :: t => 512 + roundZ z + sizeU t
theorem sizeU_append (a b : List Int) : sizeU (a ++ b) = sizeU a + sizeU b - 1024 := by
  induction a with
  | nil => simp [sizeU]; omega
  | cons z t ih => rw [List.cons_append, sizeU, sizeU, ih]; omega
theorem bodyB_len {l : List F8} (h : firstErr l = 0) : (((bodyB l).length + 1024 : Nat) : Int) = sizeU (l.map fun f => (f.2.length : Int)) := by
  induction l with
  | nil => rfl
  | cons f t ih =>
    have hf := firstErr_zero.1 h
    have ih := ih (firstErr_zero.2 fun g hg => hf g (List.mem_cons.2 (.inr hg)))
    rw [bodyB, List.length_append, fileB_len (hf f (List.mem_cons.2 (.inl rfl))), List.map_cons, sizeU, ← ih, padN_round]
    omega
theorem putU_len {l : List F8} (h : putUErr l = 0) : ((putU l).length : Int) = sizeU (l.map fun f => (f.2.length : Int)) := by
  rw [putU, if_pos h, List.length_append, zeros_len]
  exact bodyB_len (putUErr_zero.1 h).2.2.1
theorem padN_mul (n : Nat) : (n + padN n) % 512 = 0 := by unfold padN; omega
theorem bodyB_mul {l : List F8} (h : firstErr l = 0) : (bodyB l).length % 512 = 0 := by
  induction l with
  | nil => rfl
  | cons f t ih =>
    have hf := firstErr_zero.1 h
    have ih := ih (firstErr_zero.2 fun g hg => hf g (List.mem_cons.2 (.inr hg)))
    rw [bodyB, List.length_append, fileB_len (hf f (List.mem_cons.2 (.inl rfl)))]
    have := padN_mul f.2.length; omega
theorem putU_mul {l : List F8} (h : putUErr l = 0) : (putU l).length % 512 = 0 := by
  rw [putU, if_pos h, List.length_append, zeros_len]
  have := bodyB_mul (putUErr_zero.1 h).2.2.1; omega
/-- A header's first byte is none that is 0. -/
theorem putH_head {p : List UInt8} {n : Int} (h : putHErr p n = 0) : (putH p n).getD 0 0 ≠ 0 := by
  have hs := ((putHErr_ok p n).1 h).1
  obtain ⟨h1, h2, h3, h4, h5, h6⟩ := split_some hs
  have hl := putH_len h
  have hn : (putH p n).take 100 = fieldT (splitB p) 100 := by rw [putH, if_pos h]; exact hdr_name (fit_of h)
  obtain ⟨c, t, hc⟩ : ∃ c t, splitB p = c :: t := by
    cases hb : splitB p with
    | nil => exact absurd hb h5
    | cons c t => exact ⟨c, t, rfl⟩
  have hcp : c ∈ p := by
    rw [← h6]; split
    · rw [hc]; simp
    · rw [hc]; simp
  have hc0 := parts_nonzero _ p (Nat.le_refl _) h1 c hcp
  have e : (putH p n).getD 0 0 = (fieldT (splitB p) 100).getD 0 0 := by
    rw [← hn, List.getD_eq_getElem?_getD, List.getD_eq_getElem?_getD, List.getElem?_take, if_pos (by omega)]
  rw [e, fieldT, if_pos (fit_of h).1, hc]
  exact hc0
/-- Bytes' files, header by header: what an archive would be made of. -/
def parseU : Nat → List UInt8 → Option (List F8)
  | 0, _ => none
  | n + 1, b => if b.length ≤ 1024 then some [] else
      if getHErr (b.take 512) = 0 ∧ 512 + getHSize (b.take 512) ≤ b.length then
        (parseU n (b.drop (512 + (roundZ (getHSize (b.take 512))).toNat))).map fun t => (getHPath (b.take 512), (b.take (512 + (getHSize (b.take 512)).toNat)).drop 512) :: t
      else none
def rawU (b : List UInt8) : Option (List F8) := parseU (b.length + 1) b
def isU (b : List UInt8) : Bool := match rawU b with | some l => putUErr l == 0 && putU l == b | none => false
def getUErr (b : List UInt8) : Int := if isU b then 0 else 2
def getU (b : List UInt8) : List F8 := match rawU b with | some l => if isU b then l else [] | none => []
theorem parse_body (l : List F8) : ∀ n, firstErr l = 0 → l.length < n → parseU n (bodyB l ++ zeros 1024) = some l := by
  induction l with
  | nil =>
    intro n _ hn
    obtain ⟨n, rfl⟩ : ∃ k, n = k + 1 := ⟨n - 1, by simp at hn; omega⟩
    rw [bodyB, List.nil_append, parseU, zeros_len, if_pos (Nat.le_refl _)]
  | cons f t ih =>
    intro n h hn
    obtain ⟨n, rfl⟩ : ∃ k, n = k + 1 := ⟨n - 1, by omega⟩
    have hf := firstErr_zero.1 h
    have h0 := hf f (List.mem_cons.2 (.inl rfl))
    have ih := ih n (firstErr_zero.2 fun g hg => hf g (List.mem_cons.2 (.inr hg))) (by simp at hn; omega)
    have hlen := putH_len h0
    have e : bodyB (f :: t) ++ zeros 1024 = putH f.1 f.2.length ++ (f.2 ++ (zeros (padN f.2.length) ++ (bodyB t ++ zeros 1024))) := by
      rw [bodyB, fileB]; simp only [List.append_assoc]
    have ht : (bodyB (f :: t) ++ zeros 1024).take 512 = putH f.1 f.2.length := by rw [e, List.take_append_of_le_length (by omega), List.take_of_length_le (by omega)]
    obtain ⟨g1, g2, g3⟩ := get_putH h0
    have hbl : (bodyB (f :: t) ++ zeros 1024).length = 512 + f.2.length + padN f.2.length + (bodyB t).length + 1024 := by
      rw [e]; simp only [List.length_append, hlen, zeros_len]; omega
    have hr : (roundZ (f.2.length : Int)).toNat = f.2.length + padN f.2.length := by rw [padN_round]; omega
    rw [parseU, if_neg (by omega), ht, g1, g2, g3, if_pos ⟨rfl, by rw [hbl]; omega⟩, hr]
    have hd : (bodyB (f :: t) ++ zeros 1024).drop (512 + (f.2.length + padN f.2.length)) = bodyB t ++ zeros 1024 := by
      rw [e, List.drop_append, List.drop_of_length_le (by omega), List.nil_append, hlen, List.drop_append, List.drop_of_length_le (by omega), List.nil_append, List.drop_append, List.drop_of_length_le (by rw [zeros_len]; omega), List.nil_append, zeros_len,
        show 512 + (f.2.length + padN f.2.length) - 512 - f.2.length - padN f.2.length = 0 from by omega, List.drop_zero]
    have hm : ((bodyB (f :: t) ++ zeros 1024).take (512 + ((f.2.length : Nat) : Int).toNat)).drop 512 = f.2 := by
      rw [Int.toNat_natCast, ← List.take_drop, e, List.drop_append, List.drop_of_length_le (by omega), List.nil_append, hlen, Nat.sub_self, List.drop_zero, List.take_append_of_le_length (Nat.le_refl _), List.take_length]
    rw [hd, ih, Option.map_some, hm]
theorem body_count (l : List F8) (h : firstErr l = 0) : l.length ≤ (bodyB l).length := by
  induction l with
  | nil => simp
  | cons f t ih =>
    have hf := firstErr_zero.1 h
    have ih := ih (firstErr_zero.2 fun g hg => hf g (List.mem_cons.2 (.inr hg)))
    rw [bodyB, List.length_append, fileB_len (hf f (List.mem_cons.2 (.inl rfl))), List.length_cons]; omega
theorem raw_putU {l : List F8} (h : putUErr l = 0) : rawU (putU l) = some l := by
  have h1 := (putUErr_zero.1 h).2.2.1
  rw [rawU, putU, if_pos h]
  refine parse_body l _ h1 ?_
  have := body_count l h1
  rw [List.length_append]; omega
theorem get_putU {l : List F8} (h : putUErr l = 0) : getUErr (putU l) = 0 ∧ getU (putU l) = l := by
  have h1 := raw_putU h
  have h2 : isU (putU l) = true := by rw [isU, h1]; simp [h]
  exact ⟨by rw [getUErr, if_pos h2], by rw [getU, h1]; simp only; rw [if_pos h2]⟩
theorem put_getU {b : List UInt8} (h : getUErr b = 0) : putUErr (getU b) = 0 ∧ putU (getU b) = b := by
  unfold getUErr at h
  have h2 : isU b = true := by
    by_cases e : isU b = true
    · exact e
    · rw [if_neg e] at h; cases h
  unfold getU
  have h3 := h2
  unfold isU at h3
  cases hr : rawU b with
  | none => rw [hr] at h3; cases h3
  | some l =>
    rw [hr] at h3
    simp only [Bool.and_eq_true, beq_iff_eq] at h3
    simp only
    rw [if_pos h2]; exact h3
theorem getUErr_cases (b : List UInt8) : getUErr b = 0 ∨ getUErr b = 2 := by unfold getUErr; split <;> simp
theorem getU_bad {b : List UInt8} (h : getUErr b ≠ 0) : getU b = [] := by
  unfold getU
  have h2 : ¬ isU b = true := fun e => h (by rw [getUErr, if_pos e])
  cases rawU b with
  | none => rfl
  | some l => simp only; rw [if_neg h2]
/-- What has an archive, and is one, has it whole. -/
theorem getU_of {b : List UInt8} {l : List F8} (h : putUErr l = 0) (e : putU l = b) : getUErr b = 0 ∧ getU b = l := by subst e; exact get_putU h
theorem head_append {a b : List UInt8} (h : a ≠ []) : (a ++ b).getD 0 0 = a.getD 0 0 := by
  cases a with
  | nil => exact absurd rfl h
  | cons c t => rfl
theorem file_head {f : F8} {x : List UInt8} (h : putHErr f.1 f.2.length = 0) : (fileB f ++ x).getD 0 0 ≠ 0 := by
  have hne : putH f.1 f.2.length ≠ [] := fun e => by have := putH_len h; rw [e] at this; cases this
  rw [fileB, List.append_assoc, head_append hne]
  exact putH_head h
theorem body_prefix (l : List F8) : ∀ m rest, firstErr l = 0 → firstErr m = 0 → bodyB m ++ zeros 1024 = bodyB l ++ (zeros 1024 ++ rest) → m = l ∧ rest = [] := by
  induction l with
  | nil =>
    intro m rest _ hm e
    cases m with
    | nil => exact ⟨rfl, by
        have := congrArg List.length e
        simp [bodyB, zeros_len] at this
        exact this⟩
    | cons f t =>
      exfalso
      have h := file_head (x := bodyB t ++ zeros 1024) (firstErr_zero.1 hm f (List.mem_cons.2 (.inl rfl)))
      rw [← List.append_assoc, show fileB f ++ bodyB t = bodyB (f :: t) from rfl, e] at h
      exact h rfl
  | cons f t ih =>
    intro m rest hl hm e
    have hf := firstErr_zero.1 hl
    have h0 := hf f (List.mem_cons.2 (.inl rfl))
    cases m with
    | nil =>
      exfalso
      have h := file_head (x := bodyB t ++ (zeros 1024 ++ rest)) h0
      rw [← List.append_assoc, show fileB f ++ bodyB t = bodyB (f :: t) from rfl, ← e] at h
      exact h rfl
    | cons g u =>
      have hg := firstErr_zero.1 hm
      have k0 := hg g (List.mem_cons.2 (.inl rfl))
      simp only [bodyB, fileB, List.append_assoc] at e
      obtain ⟨e1, e2⟩ := List.append_inj e (by rw [putH_len h0, putH_len k0])
      obtain ⟨p1, p2⟩ := (putH_inj k0 h0).1 e1
      have p3 : g.2.length = f.2.length := by omega
      obtain ⟨e3, e4⟩ := List.append_inj e2 p3
      rw [p3] at e4
      have e5 := List.append_cancel_left e4
      obtain ⟨e6, e7⟩ := ih u rest (firstErr_zero.2 fun x hx => hf x (List.mem_cons.2 (.inr hx))) (firstErr_zero.2 fun x hx => hg x (List.mem_cons.2 (.inr hx))) e5
      refine ⟨?_, e7⟩
      rw [e6]
      congr 1
      exact Prod.ext p1 e3
theorem putU_prefix {l m : List F8} {rest : List UInt8} (hl : putUErr l = 0) (hm : putUErr m = 0) (e : putU m = putU l ++ rest) : m = l ∧ rest = [] := by
  rw [putU, putU, if_pos hl, if_pos hm, List.append_assoc] at e
  exact body_prefix l m rest (putUErr_zero.1 hl).2.2.1 (putUErr_zero.1 hm).2.2.1 e
/-- No beginning of an archive is one. -/
theorem cut_none8 {l : List F8} (h : putUErr l = 0) {k : Nat} (hk : k < (putU l).length) : getUErr ((putU l).take k) = 2 := by
  rcases getUErr_cases ((putU l).take k) with h0 | h0
  · exfalso
    obtain ⟨h1, h2⟩ := put_getU h0
    have e : putU l = putU (getU ((putU l).take k)) ++ (putU l).drop k := by rw [h2, List.take_append_drop]
    have := (putU_prefix h1 h e).2
    have := congrArg List.length this
    rw [List.length_drop] at this
    simp at this; omega
  · exact h0
/-- Nothing that an archive is the beginning of is one. -/
theorem more_none8 {l : List F8} (h : putUErr l = 0) {x : List UInt8} (hx : x ≠ []) : getUErr (putU l ++ x) = 2 := by
  rcases getUErr_cases (putU l ++ x) with h0 | h0
  · obtain ⟨h1, h2⟩ := put_getU h0
    exact absurd (putU_prefix h h1 h2).2 hx
  · exact h0
/-- With one byte turned it is none, or one of other files. -/
theorem turned8 {l : List F8} {x : List UInt8} (hx : x ≠ putU l) : getUErr x = 2 ∨ (getUErr x = 0 ∧ getU x ≠ l) := by
  rcases getUErr_cases x with h0 | h0
  · refine .inr ⟨h0, fun e => hx ?_⟩
    rw [← e, (put_getU h0).2]
  · exact .inl h0
theorem twice_append {l m : List F8} (h : twiceB (l ++ m) = false) : twiceB l = false ∧ twiceB m = false := by
  simp only [twiceB, Bool.not_eq_false', decide_eq_true_eq, List.map_append] at h ⊢
  exact ⟨(List.nodup_append.1 h).1, (List.nodup_append.1 h).2.1⟩
theorem joins_err {l m : List F8} (hl : l.length ≤ 40 ∧ totalB l ≤ 20000) (hm : m.length ≤ 40 ∧ totalB m ≤ 20000) : (putUErr (l ++ m) = 0 → putUErr l = 0 ∧ putUErr m = 0) ∧ (putUErr l = 0 → putUErr m = 0 → putUErr (l ++ m) = 0 ∨ putUErr (l ++ m) = 7) := by
  constructor
  · intro h
    obtain ⟨h1, h2, h3, h4⟩ := putUErr_zero.1 h
    obtain ⟨t1, t2⟩ := twice_append h4
    rw [firstErr_append] at h3
    by_cases e : firstErr l = 0
    · rw [if_pos e] at h3
      exact ⟨putUErr_zero.2 ⟨by omega, by omega, e, t1⟩, putUErr_zero.2 ⟨by omega, by omega, h3, t2⟩⟩
    · rw [if_neg e] at h3; exact absurd h3 e
  · intro h1 h2
    have e1 := (putUErr_zero.1 h1).2.2.1
    have e2 := (putUErr_zero.1 h2).2.2.1
    have e3 : firstErr (l ++ m) = 0 := by rw [firstErr_append, if_pos e1, e2]
    unfold putUErr
    rw [if_neg (by rw [List.length_append, totalB_append]; omega), if_pos e3]
    split <;> simp
theorem joins_put {l m : List F8} (h : putUErr (l ++ m) = 0) (hl : putUErr l = 0) (hm : putUErr m = 0) : 1024 ≤ (putU l).length ∧ putU (l ++ m) = (putU l).take ((putU l).length - 1024) ++ putU m := by
  have e : putU l = bodyB l ++ zeros 1024 := by rw [putU, if_pos hl]
  have hlen : (putU l).length = (bodyB l).length + 1024 := by rw [e, List.length_append, zeros_len]
  refine ⟨by omega, ?_⟩
  rw [hlen, Nat.add_sub_cancel, e, List.take_left, putU, if_pos h, putU, if_pos hm, bodyB_append, List.append_assoc]
end Go.Proofs.YtocpplnnnflekaaDoor
namespace Go.Proofs.YtocpplnnnflekaaDoor
open Go.RowKit
/-- Files as the cells of a slice: each a path and a slice of bytes. -/
def filesC : List (F8 × Value) → List Value
  | [] => []
  | x :: t => .string (str x.1.1) :: x.2 :: filesC t
theorem filesC_length (us : List (F8 × Value)) : (filesC us).length = us.length * 2 := by
  induction us with
  | nil => rfl
  | cons x t ih => rw [filesC, List.length_cons, List.length_cons, ih, List.length_cons]; omega
theorem filesC_append (us vs : List (F8 × Value)) : filesC (us ++ vs) = filesC us ++ filesC vs := by
  induction us with
  | nil => rfl
  | cons x t ih => rw [List.cons_append, filesC, filesC, ih]; rfl
theorem filesC_path (us : List (F8 × Value)) : ∀ k x, us[k]? = some x → (filesC us)[k * 2]? = some (.string (str x.1.1)) ∧ (filesC us)[k * 2 + 1]? = some x.2 := by
  induction us with
  | nil => intro k x h; simp at h
  | cons y t ih =>
    intro k x h
    cases k with
    | zero => simp at h; subst h; exact ⟨rfl, rfl⟩
    | succ k =>
      have := ih k x (by simpa using h)
      rw [filesC, show (k + 1) * 2 = k * 2 + 2 from by omega]
      exact this
/-- A slice value whose elements are these files. -/
def HasFiles (w : World) (v : Value) (l : List F8) : Prop :=
  ∃ us : List (F8 × Value), us.map (·.1) = l ∧ (∀ x ∈ us, HasText w x.2 x.1.2) ∧ ∃ ao cap, v = .slice ao us.length cap ∧ (ao = none → us = [] ∧ cap = 0) ∧ ∀ ad, ao = some ad → us.length ≤ cap ∧ ∀ j u, (filesC us)[j]? = some u → w.cell? (ad.add j) = some u
theorem files_nil (w : World) : HasFiles w (.slice none 0 0) [] := ⟨[], rfl, (fun _ h => by cases h), none, 0, rfl, fun _ => ⟨rfl, rfl⟩, fun _ h => by cases h⟩
theorem hasText_one {w : World} {v : Value} {l : List UInt8} (h : HasText w v l) : v.oneCell' = true := by
  obtain ⟨ao, cap, rfl, -⟩ := h; rfl
theorem filesC_one {w : World} {us : List (F8 × Value)} (h : ∀ x ∈ us, HasText w x.2 x.1.2) : ∀ u ∈ filesC us, u.oneCell' = true := by
  induction us with
  | nil => intro u hu; cases hu
  | cons x t ih =>
    intro u hu
    rw [filesC] at hu
    rcases List.mem_cons.1 hu with rfl | hu
    · rfl
    · rcases List.mem_cons.1 hu with rfl | hu
      · exact hasText_one (h x (List.mem_cons.2 (.inl rfl)))
      · exact ih (fun y hy => h y (List.mem_cons.2 (.inr hy))) u hu
theorem files_below {w w' : World} {v : Value} {l : List F8} (h : HasFiles w v l) (hb : Below w.heap.size w w') : HasFiles w' v l := by
  obtain ⟨us, h1, h2, ao, cap, rfl, hnil, hc⟩ := h
  refine ⟨us, h1, fun x hx => has_below (h2 x hx) hb, ao, cap, rfl, hnil, fun ad had => ⟨(hc ad had).1, fun j u hu => ?_⟩⟩
  have h1 := (hc ad had).2 j u hu
  exact (World.cell?_of_block (hb.block (ad.add j).block (World.block_lt_of_cell? w _ h1))).trans h1
theorem files_shape {w : World} {v : Value} {l : List F8} (h : HasFiles w v l) (n : Nat) (hn : n = l.length) : ∃ ao cap, v = .slice ao n cap := by
  obtain ⟨us, rfl, -, ao, cap, rfl, -⟩ := h
  exact ⟨ao, cap, by rw [hn, List.length_map]⟩
theorem addr_next (ad : Addr) (k : Nat) : ad.add (k + 1) = ⟨(ad.add k).block, (ad.add k).off + 1, none⟩ := by
  unfold Addr.add
  rw [if_neg (by omega)]
  split
  · rename_i h; subst h; rfl
  · rfl
/-- A file of such a slice. -/
theorem files_at {w : World} {v : Value} {l : List F8} (h : HasFiles w v l) (n k : Nat) (hn : l.length = n) (f : F8) (hf : l[k]? = some f) : ∃ ad cap u, v = .slice (some ad) n cap ∧ w.cell? (ad.add (k * 2)) = some (.string (str f.1)) ∧ w.cell? ⟨(ad.add (k * 2)).block, (ad.add (k * 2)).off + 1, none⟩ = some u ∧ HasText w u f.2 := by
  obtain ⟨us, rfl, h2, ao, cap, rfl, hnil, hc⟩ := h
  rw [List.getElem?_map] at hf
  cases hx : us[k]? with
  | none => rw [hx] at hf; cases hf
  | some x =>
    rw [hx] at hf; cases hf
    cases ao with
    | none => obtain ⟨rfl, _⟩ := hnil rfl; simp at hx
    | some ad =>
      obtain ⟨p1, p2⟩ := filesC_path us k x hx
      exact ⟨ad, cap, x.2, by rw [← hn, List.length_map], (hc ad rfl).2 _ _ p1, by rw [← addr_next]; exact (hc ad rfl).2 _ _ p2, h2 x (List.mem_of_getElem? hx)⟩
end Go.Proofs.YtocpplnnnflekaaDoor
namespace Go.Proofs.YtocpplnnnflekaaDoor
open Go.RowKit
/-- A byte of a text in memory. -/
theorem text_at {w : World} {ao : Option Addr} {n cap : Nat} {l : List UInt8} (h : HasText w (.slice ao n cap) l) (k : Nat) (hk : k < l.length) : ∃ ad c, ao = some ad ∧ l[k]? = some c ∧ l.getD k 0 = c ∧ w.cell? (ad.add k) = some (.int .u8 (c.toNat : Int)) := by
  obtain ⟨ao', cap', e, hnil, hc⟩ := h
  cases e
  cases ao with
  | none => obtain ⟨hl, _⟩ := hnil rfl; simp at hl; subst hl; simp at hk
  | some ad =>
    refine ⟨ad, l[k], rfl, by simp [hk], by simp [hk], (hc ad rfl).2 k _ ?_⟩
    rw [bytesL_map]; simp [hk]
theorem wrap_sum (a b : Int) : IntKind.i64.wrap (IntKind.i64.wrap a + b) = IntKind.i64.wrap (a + b) := by
  rw [IntKind.wrap_i64, IntKind.wrap_i64, IntKind.wrap_i64]
  generalize (18446744073709551616 : Int) = M
  generalize (9223372036854775808 : Int) = H
  rw [show (a + H) % M - H + b + H = (a + H) % M + b from by omega, Int.emod_add_emod]
  congr 2
  omega
set_option maxHeartbeats 2000000 in
theorem refCheck_any (b : List UInt8) (hb : b.length < 4611686018427387904) (v : Value) (w : World) (hv : HasText w v b) : Calls Tryd.prog 35 #[v] w fun e w' => e = .returned (.int .i64 (IntKind.i64.wrap (sumL b))) ∧ w = w' := by
  have HV := Lib.hid hv
  obtain ⟨ao, cap, rfl, -⟩ := hv
  obtain ⟨n, hn⟩ : ∃ n, n = (b.map w8).length := ⟨_, rfl⟩
  rw [← hn] at HV ⊢
  have hnl : n = b.length := by rw [hn, List.length_map]
  have HN := Lib.hid hnl
  clear hn
  have hn : n < 4611686018427387904 := by omega
  clear hnl
  go_enter Tryd.func35, Tryd.ntmps35
  go_wp2
  go_loopw [3, 4] (fun s c wr => wr = w ∧ ∃ k : Nat, k ≤ n ∧ c = .int .i64 k ∧ s = .int .i64 (IntKind.i64.wrap (sumTo b k))) (fun _ c _ => n - (intOf c).toNat)
  case atStart => exact ⟨rfl, 0, by omega, rfl, by rw [sumTo_zero]; rfl⟩
  case round =>
    obtain ⟨rfl, k, hk, rfl, rfl⟩ := hrel
    by_cases hlt : k < n
    · have q0 : (k : Int) < (n : Int) := by omega
      obtain ⟨s, hs⟩ : ∃ s : Int, s = (sumTo b k : Int) := ⟨_, rfl⟩
      have HS := Lib.hid hs
      rw [← hs]
      clear hs
      by_cases h1 : 148 ≤ k ∧ k ≤ 155
      · have d1 : decide ((k : Int) ≥ 148) = true := decide_eq_true (by omega)
        have d2 : decide ((k : Int) ≤ 155) = true := decide_eq_true (by omega)
        have HE := Lib.hid (show (sumTo b (k + 1) : Int) = s + 32 by rw [sumTo_succ, HS.out, sumAt, if_pos h1]; omega)
        have e1 := wrap_sum s 32
        go_wp2
        go_roundw
        case rel => exact ⟨trivial, k + 1, by omega, by go_num, by rw [HE.out, IntKind.wrap_i64, wrap64]⟩
        case measure => simp [intOf]; omega
      · obtain ⟨ad, c, rfl, hc, hcd, c0⟩ := text_at HV.out k (by rw [← HN.out]; exact hlt)
        have HE := Lib.hid (show (sumTo b (k + 1) : Int) = s + (c.toNat : Int) by rw [sumTo_succ, HS.out, sumAt, if_neg h1, hcd]; omega)
        obtain ⟨x, hx⟩ : ∃ x : Nat, x = c.toNat := ⟨_, rfl⟩
        rw [← hx] at c0 HE
        have hx2 : (x : Int) < 256 := by have := UInt8.toNat_lt c; omega
        have e1 := wrap_sum s (x : Int)
        clear hc hcd hx
        by_cases h2 : 148 ≤ k
        · have d1 : decide ((k : Int) ≥ 148) = true := decide_eq_true (by omega)
          have d2 : decide ((k : Int) ≤ 155) = false := decide_eq_false (by omega)
          go_wp2
          go_roundw
          case rel => exact ⟨trivial, k + 1, by omega, by go_num, by rw [HE.out, IntKind.wrap_i64, wrap64]⟩
          case measure => simp [intOf]; omega
        · have d1 : decide ((k : Int) ≥ 148) = false := decide_eq_false (by omega)
          go_wp2
          go_roundw
          case rel => exact ⟨trivial, k + 1, by omega, by go_num, by rw [HE.out, IntKind.wrap_i64, wrap64]⟩
          case measure => simp [intOf]; omega
    · obtain rfl : k = n := by omega
      go_wp2
      go_ret
      exact ⟨by rw [HN.out]; rfl, rfl⟩
/-- What stands ahead of the first byte 0. -/
theorem head_split (b : List UInt8) (k : Nat) (hk : k ≤ b.length) (h1 : ∀ j, j < k → b.getD j 0 ≠ 0) (h2 : k < b.length → b.getD k 0 = 0) : headL b = b.take k ∧ b.dropWhile (· != 0) = b.drop k := by
  induction k generalizing b with
  | zero =>
    cases b with
    | nil => exact ⟨rfl, rfl⟩
    | cons a b =>
      have : a = 0 := h2 (by simp)
      subst this
      exact ⟨rfl, rfl⟩
  | succ k ih =>
    cases b with
    | nil => simp at hk
    | cons a b =>
      have ha : (a != 0) = true := by have := h1 0 (by omega); simpa using this
      obtain ⟨i1, i2⟩ := ih b (by simpa using hk) (fun j hj => by have := h1 (j + 1) (by omega); simpa using this) (fun h => by have := h2 (by simpa using h); simpa using this)
      unfold headL at i1 ⊢
      rw [List.takeWhile_cons, if_pos ha, List.dropWhile_cons, if_pos ha, i1, i2]
      exact ⟨rfl, rfl⟩
theorem isName_of (b : List UInt8) (k : Nat) (hk : k ≤ b.length) (h1 : ∀ j, j < k → b.getD j 0 ≠ 0) (h2 : k < b.length → b.getD k 0 = 0) (h3 : ∀ j, k ≤ j → j < b.length → b.getD j 0 = 0) : nameT b = b.take k ∧ nameErr b = 0 := by
  obtain ⟨e1, e2⟩ := head_split b k hk h1 h2
  have : isName b = true := by
    rw [isName, e2, List.all_eq_true]
    intro c hc
    obtain ⟨j, hj, rfl⟩ := List.mem_iff_getElem.1 hc
    rw [List.length_drop] at hj
    have := h3 (k + j) (by omega) (by omega)
    rw [List.getD_eq_getElem?_getD, List.getElem?_eq_getElem (by omega), Option.getD_some] at this
    simp [List.getElem_drop, this]
  rw [nameT, nameErr, if_pos this, if_pos this, e1]
  exact ⟨rfl, rfl⟩
theorem isName_bad (b : List UInt8) (k i : Nat) (hk : k ≤ i) (hi : i < b.length) (h1 : ∀ j, j < k → b.getD j 0 ≠ 0) (h2 : k < b.length → b.getD k 0 = 0) (h3 : b.getD i 0 ≠ 0) : nameT b = [] ∧ nameErr b = 2 := by
  obtain ⟨e1, e2⟩ := head_split b k (by omega) h1 h2
  have : isName b = false := by
    rw [isName, e2, Bool.eq_false_iff, ne_eq, List.all_eq_true]
    intro h
    rw [List.getD_eq_getElem?_getD, List.getElem?_eq_getElem hi, Option.getD_some] at h3
    have hm : b[i] ∈ b.drop k := List.mem_iff_getElem.2 ⟨i - k, by rw [List.length_drop]; omega, by rw [List.getElem_drop]; congr 1; omega⟩
    have := h _ hm
    simp at this
    exact h3 this
  rw [nameT, nameErr, this]
  exact ⟨rfl, rfl⟩
theorem text_take {w : World} {ao : Option Addr} {n cap : Nat} {l : List UInt8} (h : HasText w (.slice ao n cap) l) (k : Nat) (hk : k ≤ l.length) : HasText w (.slice ao k cap) (l.take k) := by
  obtain ⟨ao', cap', e, hnil, hc⟩ := h
  cases e
  have hl : ((l.take k).map w8).length = k := by rw [List.length_map, List.length_take]; omega
  refine ⟨ao, cap, by rw [hl], fun h => ?_, fun ad had => ⟨?_, fun j u hu => (hc ad had).2 j u ?_⟩⟩
  · obtain ⟨h1, h2⟩ := hnil h
    simp at h1; subst h1; exact ⟨by simp, h2⟩
  · have := (hc ad had).1
    rw [List.length_map] at this; omega
  · rw [bytesL_map] at hu ⊢
    rw [List.getElem?_map, List.getElem?_take] at hu
    rw [List.getElem?_map]
    split at hu
    · exact hu
    · cases hu
theorem text_cap {w : World} {ao : Option Addr} {n cap : Nat} {l : List UInt8} (h : HasText w (.slice ao n cap) l) : n = l.length ∧ n ≤ cap := by
  obtain ⟨ao', cap', e, hnil, hc⟩ := h
  cases e
  cases ao with
  | none => obtain ⟨h1, h2⟩ := hnil rfl; simp at h1; subst h1; exact ⟨rfl, by simp⟩
  | some ad => exact ⟨by rw [List.length_map], (hc ad rfl).1⟩
set_option maxHeartbeats 4000000 in
theorem refName_any (b : List UInt8) (hb : b.length < 4611686018427387904) (v : Value) (w : World) (hv : HasText w v b) : Calls Tryd.prog 40 #[v] w fun e w' => e = .returned (.tuple #[.string (str (nameT b)), .int .i64 (nameErr b)]) ∧ w = w' := by
  have HV := Lib.hid hv
  obtain ⟨ao, cap, rfl, -⟩ := hv
  obtain ⟨n, hn⟩ : ∃ n, n = (b.map w8).length := ⟨_, rfl⟩
  rw [← hn] at HV ⊢
  have hnl : n = b.length := by rw [hn, List.length_map]
  have HN := Lib.hid hnl
  clear hn
  have hn : n < 4611686018427387904 := by omega
  clear hnl
  go_enter Tryd.func40, Tryd.ntmps40
  go_wp2
  go_loopw [4] (fun c wr => wr = w ∧ ∃ k : Nat, k ≤ n ∧ c = .int .i64 k ∧ ∀ j, j < k → b.getD j 0 ≠ 0) (fun c _ => n - (intOf c).toNat)
  case atStart => exact ⟨rfl, 0, by omega, rfl, fun j hj => by omega⟩
  case round =>
    obtain ⟨rfl, k, hk, rfl, hall⟩ := hrel
    have HA := Lib.hid hall
    clear hall
    have second : (k < n → b.getD k 0 = 0) → True := fun _ => trivial
    by_cases hlt : k < n
    · have q0 : (k : Int) < (n : Int) := by omega
      obtain ⟨ad, c, rfl, hc, hcd, c0⟩ := text_at HV.out k (by rw [← HN.out]; exact hlt)
      have HC := Lib.hid hcd
      obtain ⟨x, hx⟩ : ∃ x : Nat, x = c.toNat := ⟨_, rfl⟩
      rw [← hx] at c0
      have HX := Lib.hid hx
      clear hc hcd hx
      by_cases hz : x = 0
      · subst hz
        have HK := Lib.hid (show k < n → b.getD k 0 = 0 from fun _ => by rw [HC.out]; exact UInt8.toNat_inj.1 HX.out.symm)
        go_wp2
        go_loopw [5] (fun c wl => wl = wr ∧ ∃ i : Nat, k ≤ i ∧ i ≤ n ∧ c = .int .i64 i ∧ ∀ j, k ≤ j → j < i → b.getD j 0 = 0) (fun c _ => n - (intOf c).toNat)
        case atStart => exact ⟨rfl, k, by omega, by omega, rfl, fun j h1 h2 => by omega⟩
        case round =>
          obtain ⟨rfl, i, hki, hi, rfl, hzz⟩ := hrel
          have HZ := Lib.hid hzz
          clear hzz
          by_cases hil : i < n
          · have q1 : (i : Int) < (n : Int) := by omega
            obtain ⟨ad1, c1, ea, hc1, hcd1, c10⟩ := text_at HV.out i (by rw [← HN.out]; exact hil)
            obtain rfl : ad1 = ad := (Option.some.inj ea).symm
            have HC1 := Lib.hid hcd1
            obtain ⟨y, hy⟩ : ∃ y : Nat, y = c1.toNat := ⟨_, rfl⟩
            rw [← hy] at c10
            have HY := Lib.hid hy
            clear hc1 hcd1 hy
            by_cases hyz : y = 0
            · subst hyz
              go_wp2
              go_roundw
              case rel => exact ⟨trivial, i + 1, by omega, by omega, by go_num, fun j h1 h2 => by
                rcases Nat.lt_or_ge j i with h | h
                · exact HZ.out j h1 h
                · obtain rfl : j = i := by omega
                  rw [HC1.out]; exact UInt8.toNat_inj.1 HY.out.symm⟩
              case measure => simp [intOf]; omega
            · have d1 : ((y : Int) == 0) = false := by simp; omega
              have HF := Lib.hid (isName_bad b k i hki (by rw [← HN.out]; exact hil) HA.out (fun h => HK.out (by rw [HN.out]; exact h)) (by rw [HC1.out]; intro h; rw [h] at HY; exact hyz HY.out))
              go_wp2
              go_ret2
              rw [HF.out.1, HF.out.2]
              exact ⟨rfl, rfl⟩
          · obtain rfl : i = n := by omega
            have HP := text_take HV.out k (by rw [← HN.out]; omega)
            have hcv := conv_text Tryd.underlying25 Tryd.underlying5 Tryd.underlying9 HP
            have qc : (k : Int) ≤ (cap : Int) := by have := text_cap HV.out; omega
            have HF := Lib.hid (isName_of b k (by rw [← HN.out]; exact hk) HA.out (fun h => HK.out (by rw [HN.out]; exact h)) (fun j h1 h2 => HZ.out j h1 (by rw [HN.out]; exact h2)))
            go_wp2
            go_ret2
            rw [HF.out.1, HF.out.2]
            exact ⟨rfl, rfl⟩
      · have d1 : ((x : Int) == 0) = false := by simp; omega
        go_wp2
        go_roundw
        case rel => exact ⟨trivial, k + 1, by omega, by go_num, fun j hj => by
          rcases Nat.lt_or_ge j k with h | h
          · exact HA.out j h
          · obtain rfl : j = k := by omega
            rw [HC.out]; intro h; rw [h] at HX; exact hz HX.out⟩
        case measure => simp [intOf]; omega
    · obtain rfl : k = n := by omega
      have HK := Lib.hid (show k < k → b.getD k 0 = 0 from fun h => absurd h (Nat.lt_irrefl k))
      go_wp2
      go_loopw [5] (fun c wl => wl = wr ∧ ∃ i : Nat, k ≤ i ∧ i ≤ k ∧ c = .int .i64 i ∧ ∀ j, k ≤ j → j < i → b.getD j 0 = 0) (fun c _ => k - (intOf c).toNat)
      case atStart => exact ⟨rfl, k, by omega, by omega, rfl, fun j h1 h2 => by omega⟩
      case round =>
        obtain ⟨rfl, i, hki, hi, rfl, hzz⟩ := hrel
        have HZ := Lib.hid hzz
        clear hzz
        by_cases hil : i < k
        · omega
        · obtain rfl : i = k := by omega
          have HP := text_take HV.out i (by rw [← HN.out]; omega)
          have hcv := conv_text Tryd.underlying25 Tryd.underlying5 Tryd.underlying9 HP
          have qc : (i : Int) ≤ (cap : Int) := by have := text_cap HV.out; omega
          have HF := Lib.hid (isName_of b i (by rw [← HN.out]; omega) HA.out (fun h => HK.out (by have := HN.out; omega)) (fun j h1 h2 => HZ.out j h1 (by rw [HN.out]; exact h2)))
          go_wp2
          go_ret2
          rw [HF.out.1, HF.out.2]
          exact ⟨rfl, rfl⟩
end Go.Proofs.YtocpplnnnflekaaDoor
namespace Go.Proofs.YtocpplnnnflekaaDoor
open Go.RowKit
theorem infoByte : (Tryd.prog.info? 5).map (fun i => (i.zero, i.size, i.bytes)) = some (some (.int .u8 0), 1, 1) := by kernel_rfl
theorem field_bad {s : List UInt8} {w x : Int} (h : fieldErr s w = x) (hx : x ≠ 0) : fieldT s w = [] := by rw [fieldT, if_neg (by rw [h]; exact hx)]
theorem hasText_nil (w : World) : HasText w (.slice none 0 0) [] := ⟨none, 0, rfl, fun _ => ⟨rfl, rfl⟩, fun _ h => by cases h⟩
set_option maxHeartbeats 4000000 in
theorem refField_any (s : List UInt8) (hs : s.length < 4611686018427387904) (width : Int) (w : World) :
    Calls Tryd.prog 49 #[.string (str s), .int .i64 width] w fun e w' => ∃ v, e = .returned (.tuple #[v, .int .i64 (fieldErr s width)]) ∧ HasText w' v (fieldT s width) ∧ Below w.heap.size w w' := by
  obtain ⟨i0, hi, hz0, hz1, hz2⟩ := info_parts infoByte
  have hsz : (str s).size = s.length := str_size s
  by_cases h1 : width < 1
  · have HF := Lib.hid (show fieldErr s width = 1 from (fieldErr_width s width).2 (.inl h1))
    go_enter Tryd.func49, Tryd.ntmps49
    go_wp2
    go_ret2
    rw [HF.out, field_bad HF.out (by decide)]
    exact ⟨_, rfl, hasText_nil _, Below.refl _ _⟩
  · by_cases h255 : 255 < width
    · have HF := Lib.hid (show fieldErr s width = 1 from (fieldErr_width s width).2 (.inr h255))
      go_enter Tryd.func49, Tryd.ntmps49
      go_wp2
      go_ret2
      rw [HF.out, field_bad HF.out (by decide)]
      exact ⟨_, rfl, hasText_nil _, Below.refl _ _⟩
    · obtain ⟨n, hn⟩ : ∃ n, n = s.length := ⟨_, rfl⟩
      have HN := Lib.hid hn
      rw [← hn] at hsz hs
      clear hn
      obtain ⟨m, rfl⟩ : ∃ m : Nat, width = (m : Int) := ⟨width.toNat, by omega⟩
      go_enter Tryd.func49, Tryd.ntmps49
      go_wp2
      go_loopw [6] (fun c wr => wr = w ∧ ∃ k : Nat, k ≤ n ∧ c = .int .i64 k ∧ ∀ j, j < k → s.getD j 0 ≠ 0) (fun c _ => n - (intOf c).toNat)
      case atStart => exact ⟨rfl, 0, by omega, rfl, fun j hj => by omega⟩
      case round =>
        obtain ⟨rfl, k, hk, rfl, hall⟩ := hrel
        have HA := Lib.hid hall
        clear hall
        by_cases hlt : k < n
        · have q0 : (k : Int) < (n : Int) := by omega
          obtain ⟨c, hc⟩ : ∃ c, s[k]? = some c := ⟨s[k]'(by have := HN.out; omega), by simp⟩
          have hix := fun w => index_str (P := Tryd.prog) w s .i64 k c hc Tryd.underlying9
          obtain ⟨x, hx⟩ : ∃ x : Nat, x = c.toNat := ⟨_, rfl⟩
          rw [← hx] at hix
          have HX := Lib.hid hx
          have HC := Lib.hid (show s.getD k 0 = c by rw [List.getD_eq_getElem?_getD, hc]; rfl)
          have HM := Lib.hid (List.mem_of_getElem? hc)
          clear hx hc
          by_cases hz : x = 0
          · subst hz
            have HF := Lib.hid (show fieldErr s (m : Int) = 2 by
              have hcz : c = 0 := UInt8.toNat_inj.1 HX.out.symm
              rw [fieldErr, if_neg (by omega), if_pos (List.contains_iff_mem.2 (by rw [← hcz]; exact HM.out))])
            go_wp2
            go_ret2
            rw [HF.out, field_bad HF.out (by decide)]
            exact ⟨_, rfl, hasText_nil _, Below.refl _ _⟩
          · have d1 : ((x : Int) == 0) = false := by simp; omega
            go_wp2
            go_roundw
            case rel => exact ⟨trivial, k + 1, by omega, by go_num, fun j hj => by
              rcases Nat.lt_or_ge j k with h | h
              · exact HA.out j h
              · obtain rfl : j = k := by omega
                rw [HC.out]; intro h; rw [h] at HX; exact hz HX.out⟩
            case measure => simp [intOf]; omega
        · obtain rfl : k = n := by omega
          have HZ := Lib.hid (show s.contains 0 = false by
            rw [Bool.eq_false_iff]; intro h
            obtain ⟨j, hj, e⟩ := List.mem_iff_getElem.1 (List.contains_iff_mem.1 h)
            exact HA.out j (by rw [HN.out]; exact hj) (by rw [List.getD_eq_getElem?_getD, List.getElem?_eq_getElem hj, e]; rfl))
          by_cases hov : m < k
          · have q0 : (m : Int) < (k : Int) := by omega
            have HF := Lib.hid (show fieldErr s (m : Int) = 8 by rw [fieldErr, if_neg (by omega), HZ.out, if_neg (by decide), if_pos (by rw [← HN.out]; omega)])
            go_wp2
            go_ret2
            rw [HF.out, field_bad HF.out (by decide)]
            exact ⟨_, rfl, hasText_nil _, Below.refl _ _⟩
          · obtain ⟨wo, rfl⟩ : ∃ wo, wo = wr := ⟨_, rfl⟩
            have q0 : ¬ (m : Int) < (k : Int) := by omega
            have HF := Lib.hid (show fieldErr s (m : Int) = 0 from (fieldErr_ok _ _).2 ⟨by omega, by omega, HZ.out, by rw [← HN.out]; omega⟩)
            go_wp2_with (first | (refine conv_owns_list rfl 9 25 5 (.tmp 28) rfl Tryd.underlying9 Tryd.underlying25 Tryd.underlying5 wo.heap.size s rfl (by rw [← HN.out]; unfold maxLen; omega) (Nat.le_refl _) ?_; intro v1 w1 ho1 hb1; have HO1 := Lib.hid ho1; have HB1 := Lib.hid hb1; clear ho1 hb1))
            go_loopw [7] (fun v w2 => ∃ j : Nat, k + j ≤ m ∧ (∃ g cap, v = .slice (some ⟨g, 0, none⟩) (k + j) cap) ∧ OwnsB w2 wo.heap.size 5 v (s ++ List.replicate j 0) ∧ Below wo.heap.size wo w2) (fun v _ => match v with | .slice _ l _ => m - l | _ => 0)
            case atStart =>
              obtain ⟨g, cap, e, _⟩ := ownsB_slice HO1.out
              exact ⟨0, by omega, ⟨g, cap, by rw [e, ← HN.out]; rfl⟩, by simpa using HO1.out, HB1.out⟩
            case round =>
              clear HO1 HB1
              obtain ⟨j, hj, ⟨g, cap, rfl⟩, ho, hb⟩ := hrel
              have HO := Lib.hid ho
              have HB := Lib.hid hb
              have hbs := hb.size
              clear ho hb
              by_cases hjm : k + j < m
              · obtain ⟨S, hS⟩ : ∃ S, S = s ++ List.replicate j (0 : UInt8) := ⟨_, rfl⟩
                rw [← hS] at HO
                have hSl : S.length = k + j := by rw [hS, List.length_append, List.length_replicate, HN.out]
                have HS := Lib.hid hS
                clear hS
                have q1 : (k : Int) + (j : Int) < (m : Int) := by omega
                have HT := Lib.hid (text_byte wr 5 0 0 rfl)
                go_wp2_with (first | (at_builtin; refine append_owns_list rfl (.tmp 34) (.tmp 35) 25 rfl wo.heap.size 5 i0 Tryd.underlying25 hi hz0 hz1 hz2 _ S [0] rfl (ownsB_alloc HO.out _) _ rfl HT.out (by simp; omega) (by simp; omega) ?_; intro v' w' ho' hg'; have hb' := below_grown (HB.out.alloc HB.out.size _) hg' (by simp; omega) (fun k hk => (ownsB_lt HO.out k hk).1); have HO' := Lib.hid ho'; have HB' := Lib.hid hb'; clear ho' hg' hb'))
                obtain ⟨g', cap', e, _⟩ := ownsB_slice HO'.out
                rw [List.length_append, hSl] at e
                subst e
                go_roundw
                case rel => exact ⟨j + 1, by omega, ⟨_, _, rfl⟩, by rw [List.replicate_succ', ← List.append_assoc, ← HS.out]; exact HO'.out, HB'.out⟩
                case measure => simp; omega
              · obtain rfl : m = k + j := by omega
                have q1 : ¬ (k : Int) + (j : Int) < ((k + j : Nat) : Int) := by omega
                have HT := Lib.hid (ownsB_has HO.out)
                have HE := Lib.hid (show fieldT s ((k + j : Nat) : Int) = s ++ List.replicate j 0 by rw [fieldT, if_pos HF.out, ← HN.out, show ((k + j : Nat) : Int).toNat - k = j from by omega])
                go_wp2
                go_ret2
                rw [← Int.natCast_add, HF.out, HE.out]
                exact ⟨_, rfl, HT.out, HB.out⟩
end Go.Proofs.YtocpplnnnflekaaDoor
namespace Go.Proofs.YtocpplnnnflekaaDoor
open Go.RowKit
theorem ownsB_one (w : World) (e : TypeId) (c : UInt8) (n : Nat) (hn : c.toNat = n) (base : Nat) (hb : base ≤ w.heap.size) : OwnsB (w.alloc (.cells #[.int .u8 (n : Int)] e (0, 0))) base e (.slice (some ⟨w.heap.size, 0, none⟩) 1 1) [c] := by
  subst hn
  exact ⟨w.heap.size, 1, _, (0, 0), rfl, hb, heap_last _ _, .inl rfl, Nat.le_refl 1, by decide, rfl, rfl⟩
theorem text_below {w w' : World} {v : Value} {l : List UInt8} (h : HasText w v l) (hb : Below w.heap.size w w') : HasText w' v l := has_below h hb
theorem put_bad {n w x : Int} (h : putErr n w = x) (hx : x ≠ 0) : putT n w = [] := by rw [putT, if_neg (by rw [h]; exact hx)]
set_option maxRecDepth 100000 in
set_option maxHeartbeats 4000000 in
theorem refPut_any (n width : Int) (hn1 : -9223372036854775808 ≤ n) (hn2 : n < 9223372036854775808) (w : World) :
    Calls Tryd.prog 50 #[.int .i64 n, .int .i64 width] w fun e w' => ∃ v, e = .returned (.tuple #[v, .int .i64 (putErr n width)]) ∧ HasText w' v (putT n width) ∧ Below w.heap.size w w' := by
  obtain ⟨i0, hi, hz0, hz1, hz2⟩ := info_parts infoByte
  by_cases h1 : width < 2
  · have HF := Lib.hid (show putErr n width = 1 from (putErr_width n width).2 (.inl h1))
    go_enter Tryd.func50, Tryd.ntmps50
    go_wp2
    go_ret2
    rw [HF.out, put_bad HF.out (by decide)]
    exact ⟨_, rfl, hasText_nil _, Below.refl _ _⟩
  · by_cases h12 : 12 < width
    · have HF := Lib.hid (show putErr n width = 1 from (putErr_width n width).2 (.inr h12))
      go_enter Tryd.func50, Tryd.ntmps50
      go_wp2
      go_ret2
      rw [HF.out, put_bad HF.out (by decide)]
      exact ⟨_, rfl, hasText_nil _, Below.refl _ _⟩
    · by_cases hneg : n < 0
      · have HF := Lib.hid (show putErr n width = 8 by rw [putErr, if_neg (by omega), if_pos hneg])
        go_enter Tryd.func50, Tryd.ntmps50
        go_wp2
        go_ret2
        rw [HF.out, put_bad HF.out (by decide)]
        exact ⟨_, rfl, hasText_nil _, Below.refl _ _⟩
      · obtain ⟨N, rfl⟩ : ∃ N : Nat, n = (N : Int) := ⟨n.toNat, by omega⟩
        obtain ⟨m, rfl⟩ : ∃ m : Nat, width = (m : Int) := ⟨width.toNat, by omega⟩
        have H0 := Lib.hid (ownsB_has (ownsB_one w 5 0 0 rfl w.heap.size (Nat.le_refl _)))
        have HB0 := Lib.hid ((Below.refl w.heap.size w).alloc (Nat.le_refl _) (.cells #[.int .u8 ((0 : Nat) : Int)] 5 (0, 0)))
        go_enter Tryd.func50, Tryd.ntmps50
        go_wp2
        go_loopw [0, 6, 7] (fun x v c wr => ∃ j : Nat, j + 1 ≤ m ∧ c = .int .i64 ((j + 1 : Nat) : Int) ∧ x = .int .i64 ((N / 8 ^ j : Nat) : Int) ∧ (∃ ao cap, v = .slice ao (j + 1) cap) ∧ HasText wr v (octs j N ++ [0]) ∧ Below w.heap.size w wr) (fun _ _ c _ => m - (intOf c).toNat)
        case atStart => exact ⟨0, by omega, rfl, by simp, ⟨_, _, rfl⟩, by rw [octs]; exact H0.out, HB0.out⟩
        case round =>
          clear H0 HB0
          obtain ⟨j, hj, rfl, rfl, ⟨ao, cap, rfl⟩, ho, hb⟩ := hrel
          have HO := Lib.hid ho
          have HB := Lib.hid hb
          have hbs := hb.size
          clear ho hb
          obtain ⟨y, hy⟩ : ∃ y, y = N / 8 ^ j := ⟨_, rfl⟩
          have hyN : y ≤ N := by rw [hy]; exact Nat.div_le_self _ _
          have HY := Lib.hid hy
          rw [← hy]
          have hy63 : (y : Int) < 9223372036854775808 := by omega
          clear hy hyN
          obtain ⟨i, hi1⟩ : ∃ i, i = j + 1 := ⟨_, rfl⟩
          have HI := Lib.hid hi1
          rw [← hi1] at hj HO ⊢
          clear hi1
          by_cases hlt : i < m
          · obtain ⟨S, hS⟩ : ∃ S, S = octs j N ++ [(0 : UInt8)] := ⟨_, rfl⟩
            rw [← hS] at HO
            have hSl : S.length = i := by rw [hS, List.length_append, octs_length, HI.out]; rfl
            have q0 : (i : Int) < (m : Int) := by omega
            obtain ⟨r, hr⟩ : ∃ r, r = 48 + y % 8 := ⟨_, rfl⟩
            obtain ⟨p, hp⟩ : ∃ p, p = y % 8 := ⟨_, rfl⟩
            have e0 : (y : Int) % 8 = (p : Int) := by omega
            have e0' : (y : Int).tmod 8 = (p : Int) := by rw [Int.tmod_eq_emod_of_nonneg (by omega)]; omega
            have e1 : (48 : Int) + (p : Int) = (r : Int) := by omega
            have e2 : IntKind.u8.wrap (r : Int) = (r : Int) := by rw [IntKind.wrap_u8]; omega
            have e7 : (r : Int) % 256 = (r : Int) := by omega
            have HC := Lib.hid (oct_toNat (y % 8) (by omega))
            rw [← hr] at HC
            have HS := Lib.hid (show octs (j + 1) N ++ [(0 : UInt8)] = [UInt8.ofNat r] ++ S by rw [octs_front, ← HY.out, ← hr, hS]; rfl)
            obtain ⟨q, hq⟩ : ∃ q, q = y / 8 := ⟨_, rfl⟩
            have e3 : (y : Int) / 8 = (q : Int) := by omega
            have e4 : IntKind.i64.wrap (q : Int) = (q : Int) := by rw [IntKind.wrap_i64]; omega
            have e5 : wrap64 (q : Int) = (q : Int) := by rw [wrap64]; omega
            have e6 : wrap64 (r : Int) = (r : Int) := by rw [wrap64]; omega
            have HQ := Lib.hid hq
            clear hS hr hq hp hy63 hn1 hn2
            have HT := Lib.hid (ownsB_one wr 5 (UInt8.ofNat r) r HC.out w.heap.size hbs)
            go_wp2_with (first | (at_builtin; refine append_owns_list rfl (.tmp 26) (.tmp 27) 25 rfl w.heap.size 5 i0 Tryd.underlying25 hi hz0 hz1 hz2 _ [UInt8.ofNat r] S rfl HT.out _ rfl (text_below HO.out ((Below.refl _ _).alloc (Nat.le_refl _) _)) (by simp; omega) (by simp; omega) ?_; intro v' w' ho' hg'; have hb' := below_grown (HB.out.alloc HB.out.size _) hg' (by simp; omega) (fun k hk => (ownsB_lt HT.out k hk).1); have HO' := Lib.hid ho'; have HB' := Lib.hid hb'; clear ho' hg' hb'))
            obtain ⟨g', cap', e, _⟩ := ownsB_slice HO'.out
            rw [List.length_append, hSl] at e
            subst e
            go_roundw
            case rel => exact ⟨i, by omega, by go_num, by rw [HI.out, Nat.pow_succ, ← Nat.div_div_eq_div_mul, ← HY.out, ← HQ.out], ⟨_, _, by rw [List.length_singleton, Nat.add_comm]⟩, by have h := ownsB_has HO'.out; rw [← HS.out, ← HI.out] at h; exact h, HB'.out⟩
            case measure => simp [intOf]; omega
          · obtain rfl : i = m := by omega
            by_cases hz : y = 0
            · subst hz
              have HF := Lib.hid (show putErr (N : Int) (i : Int) = 0 by rw [putErr, if_neg (by omega), if_neg (by omega), Int.toNat_natCast, Int.toNat_natCast, HI.out, Nat.add_sub_cancel, ← HY.out, if_neg (by omega)])
              have HE := Lib.hid (show putT (N : Int) (i : Int) = octs j N ++ [0] by rw [putT, if_pos HF.out, Int.toNat_natCast, Int.toNat_natCast, putL, HI.out, Nat.add_sub_cancel])
              go_wp2
              go_ret2
              rw [HF.out, HE.out]
              exact ⟨_, rfl, HO.out, HB.out⟩
            · have d1 : ((y : Int) == 0) = false := by simp; omega
              have HF := Lib.hid (show putErr (N : Int) (i : Int) = 8 by rw [putErr, if_neg (by omega), if_neg (by omega), Int.toNat_natCast, Int.toNat_natCast, HI.out, Nat.add_sub_cancel, ← HY.out, if_pos hz])
              clear hn1 hn2 hneg h1 h12 hy63
              go_wp2
              go_ret2
              rw [HF.out, put_bad HF.out (by decide)]
              exact ⟨_, rfl, hasText_nil _, HB.out⟩
end Go.Proofs.YtocpplnnnflekaaDoor
namespace Go.Proofs.YtocpplnnnflekaaDoor
open Go.RowKit
theorem val8_next (b : List UInt8) (k : Nat) (c : UInt8) (hc : b[k]? = some c) : val8 (b.take (k + 1)) = 8 * val8 (b.take k) + c.toNat % 8 := by
  obtain ⟨hk, rfl⟩ := List.getElem?_eq_some_iff.1 hc
  rw [List.take_succ_eq_append_getElem hk, val8_snoc]
theorem val8_take_lt (b : List UInt8) (k : Nat) (hk : k ≤ 12) : val8 (b.take k) < 68719476736 := by
  have h := val8_lt (b.take k)
  have h1 : 8 ^ (b.take k).length ≤ 8 ^ 12 := Nat.pow_le_pow_right (by decide) (by rw [List.length_take]; omega)
  have h2 : (8 : Nat) ^ 12 = 68719476736 := by decide
  omega
/-- What Get makes of the figures that it has added up. -/
theorem get_of (b : List UInt8) (k : Nat) (hk : k = 12 ∨ b.length ≤ k + 1) (hk3 : k = 0 ∨ k + 1 ≤ b.length) :
    (putErr (val8 (b.take k)) b.length ≠ 0 → getN b = 0 ∧ getErr b = 2) ∧
    (putErr (val8 (b.take k)) b.length = 0 → (putT (val8 (b.take k)) b.length = b → getN b = val8 (b.take k) ∧ getErr b = 0) ∧ (putT (val8 (b.take k)) b.length ≠ b → getN b = 0 ∧ getErr b = 2)) := by
  have bad : isOct b = false → getN b = 0 ∧ getErr b = 2 := fun h => by simp [getN, getErr, h]
  have good : isOct b = true → getN b = val8 b.dropLast ∧ getErr b = 0 := fun h => by simp [getN, getErr, h]
  have hd : 2 ≤ b.length → b.length ≤ 12 → b.take k = b.dropLast := fun h1 h2 => by
    rw [List.dropLast_eq_take]; congr 1; omega
  constructor
  · intro h
    refine bad ?_
    cases ho : isOct b with
    | false => rfl
    | true =>
      obtain ⟨h1, h2, h3, h4⟩ := isOct_of ho
      refine absurd ((putErr_ok _ _).2 ⟨by omega, by omega, by omega, ?_⟩) h
      rw [hd h1 h2, Int.toNat_natCast, Int.toNat_natCast]; exact h4
  · intro h
    obtain ⟨h1, h2, h3, h4⟩ := (putErr_ok _ _).1 h
    rw [hd (by omega) (by omega)] at h ⊢
    have hp : putT (val8 b.dropLast) b.length = putL (val8 b.dropLast) b.length := by rw [putT, if_pos h, Int.toNat_natCast, Int.toNat_natCast]
    rw [hp]
    refine ⟨fun e => good ?_, fun e => bad ?_⟩
    · simp only [isOct, Bool.and_eq_true, decide_eq_true_eq, beq_iff_eq]
      exact ⟨by omega, by omega, e⟩
    · cases ho : isOct b with
      | false => rfl
      | true => exact absurd (isOct_of ho).2.2.1 e
theorem wrap_small (p : Nat) (h : p < 9223372036854775808) : IntKind.i64.wrap (p : Int) = (p : Int) := by rw [IntKind.wrap_i64]; omega
theorem next64 (k : Nat) (h : k + 1 < 9223372036854775808) : wrap64 ((k : Int) + 1) = ((k + 1 : Nat) : Int) := by rw [wrap64]; omega
set_option maxHeartbeats 4000000 in
theorem refGet_any (b : List UInt8) (hb : b.length < 4611686018427387904) (v : Value) (w : World) (hv : HasText w v b) :
    Calls Tryd.prog 41 #[v] w fun e w' => e = .returned (.tuple #[.int .i64 (getN b), .int .i64 (getErr b)]) ∧ Below w.heap.size w w' := by
  have HV := Lib.hid hv
  obtain ⟨ao, cap, rfl, -⟩ := hv
  obtain ⟨n, hn⟩ : ∃ n, n = (b.map w8).length := ⟨_, rfl⟩
  rw [← hn] at HV ⊢
  have hnl : n = b.length := by rw [hn, List.length_map]
  have HN := Lib.hid hnl
  clear hn
  have hn : n < 4611686018427387904 := by omega
  clear hnl hb
  go_enter Tryd.func41, Tryd.ntmps41
  go_wp2
  go_loopw [4, 5] (fun x c wr => wr = w ∧ ∃ k : Nat, k ≤ 12 ∧ (k = 0 ∨ k + 1 ≤ n) ∧ c = .int .i64 k ∧ x = .int .i64 ((val8 (b.take k) : Nat) : Int)) (fun _ c _ => 12 - (intOf c).toNat)
  case atStart => exact ⟨rfl, 0, by omega, .inl rfl, rfl, by rw [List.take_zero, val8_nil]; rfl⟩
  case round =>
    obtain ⟨rfl, k, hk, hk0, rfl, rfl⟩ := hrel
    obtain ⟨V, hV⟩ : ∃ V, V = val8 (b.take k) := ⟨_, rfl⟩
    have hVlt := val8_take_lt b k hk
    rw [← hV] at hVlt ⊢
    have HVV := Lib.hid hV
    have HK := Lib.hid (And.intro hk hk0)
    have w1 := next64 k (by omega)
    clear hV
    by_cases hgo : k + 1 < n ∧ k < 12
    · obtain ⟨ad, c, rfl, hc, hcd, c0⟩ := text_at HV.out k (by rw [← HN.out]; omega)
      obtain ⟨x, hx⟩ : ∃ x : Nat, x = c.toNat := ⟨_, rfl⟩
      have hx2 := UInt8.toNat_lt c
      rw [← hx] at c0 hx2
      have q0 : ((k + 1 : Nat) : Int) < (n : Int) := by omega
      have q0' : (k : Int) < (n : Int) := by omega
      have q1 : decide ((k : Int) < 12) = true := decide_eq_true (by omega)
      obtain ⟨r, hr⟩ : ∃ r : Nat, r = x % 8 := ⟨_, rfl⟩
      obtain ⟨p, hp⟩ : ∃ p : Nat, p = 8 * V := ⟨_, rfl⟩
      obtain ⟨q, hq⟩ : ∃ q : Nat, q = p + r := ⟨_, rfl⟩
      have f0 : (8 : Int) * (V : Int) = (p : Int) := by omega
      have f1 := wrap_small p (by omega)
      have f2 : (x : Int) % 8 = (r : Int) := by omega
      have f2' : (x : Int).tmod 8 = (r : Int) := by rw [Int.tmod_eq_emod_of_nonneg (by omega)]; omega
      have f3 : (p : Int) + (r : Int) = (q : Int) := by omega
      have f4 := wrap_small q (by omega)
      have f5 := wrap_small r (by omega)
      have f6 : IntKind.u8.wrap (r : Int) = (r : Int) := by rw [IntKind.wrap_u8]; omega
      have HQ := Lib.hid (show q = val8 (b.take (k + 1)) by rw [val8_next b k c hc, ← HVV.out, ← hx, hq, hp, hr])
      clear hc hcd hx hx2 hr hp hq hVlt hn
      go_wp2
      clear f0 f1 f2 f2' f3 f4 f5 f6
      refine ⟨⟨trivial, k + 1, by omega, .inr (by omega), by go_num, by rw [← HQ.out]⟩, by simp [intOf]; omega⟩
    · obtain ⟨g1, g2⟩ := get_of b k (by rw [← HN.out]; omega) (by rw [← HN.out]; exact hk0)
      rw [← HVV.out, ← HN.out] at g1 g2
      have HP := Lib.hid (refPut_any (V : Int) (n : Int) (by omega) (by omega) wr)
      obtain ⟨E, hE⟩ : ∃ E, E = putErr (V : Int) (n : Int) := ⟨_, rfl⟩
      obtain ⟨T, hT⟩ : ∃ T, T = putT (V : Int) (n : Int) := ⟨_, rfl⟩
      rw [← hE, ← hT] at HP
      rw [← hE] at g1 g2
      rw [← hT] at g2
      have HG := Lib.hid (And.intro g1 g2)
      have hT1 : (str T).toList = T := str_toList T
      have hb1 : (str b).toList = b := str_toList b
      clear hE hT g1 g2 hVlt hn
      have part : (∀ Q : Prop, (((k + 1 : Nat) : Int) < (n : Int) → decide ((k : Int) < 12) = false → Q) → (¬ ((k + 1 : Nat) : Int) < (n : Int) → Q) → Q) := fun Q h1 h2 => by
        by_cases h : k + 1 < n
        · exact h1 (by omega) (decide_eq_false (by omega))
        · exact h2 (by omega)
      refine part _ (fun q0 q1 => ?_) (fun q0 => ?_) <;> clear part
      all_goals
        by_cases hz : E = 0
        · subst hz
          by_cases hTb : T = b
          · have HR := Lib.hid ((HG.out.2 rfl).1 hTb)
            have te : (T == b) = true := by rw [beq_iff_eq]; exact hTb
            clear hTb
            go_wp2_with (first | (go_at_call 50; refine HP.out.mono ?_; rintro e w2 ⟨v2, rfl, ht2, hb2⟩; have HB2 := Lib.hid hb2; have cv1 := conv_text Tryd.underlying25 Tryd.underlying5 Tryd.underlying9 ht2; have cv2 := conv_text Tryd.underlying25 Tryd.underlying5 Tryd.underlying9 (text_below HV.out hb2); clear ht2 hb2))
            go_ret2
            exact ⟨by rw [HR.out.1, HR.out.2]; try rfl, HB2.out⟩
          · have HR := Lib.hid ((HG.out.2 rfl).2 hTb)
            have te : (T == b) = false := by rw [beq_eq_false_iff_ne]; exact hTb
            clear hTb
            go_wp2_with (first | (go_at_call 50; refine HP.out.mono ?_; rintro e w2 ⟨v2, rfl, ht2, hb2⟩; have HB2 := Lib.hid hb2; have cv1 := conv_text Tryd.underlying25 Tryd.underlying5 Tryd.underlying9 ht2; have cv2 := conv_text Tryd.underlying25 Tryd.underlying5 Tryd.underlying9 (text_below HV.out hb2); clear ht2 hb2))
            go_ret2
            exact ⟨by rw [HR.out.1, HR.out.2]; try rfl, HB2.out⟩
        · have HR := Lib.hid (HG.out.1 hz)
          go_wp2_with (first | (go_at_call 50; refine HP.out.mono ?_; rintro e w2 ⟨v2, rfl, ht2, hb2⟩; have HB2 := Lib.hid hb2; clear ht2 hb2))
          go_ret2
          exact ⟨by rw [HR.out.1, HR.out.2]; try rfl, HB2.out⟩
end Go.Proofs.YtocpplnnnflekaaDoor
namespace Go.Proofs.YtocpplnnnflekaaDoor
open Go.RowKit
theorem isLet_of (c : UInt8) (x : Nat) (hx : x = c.toNat) : isLet c = ((decide (97 ≤ x) && decide (x ≤ 122)) || (decide (65 ≤ x) && decide (x ≤ 90)) || (decide (48 ≤ x) && decide (x ≤ 57)) || decide (x = 45) || decide (x = 46) || decide (x = 95) || decide (x = 43) || decide (x = 126)) := by
  have e : ∀ k : UInt8, (c == k) = decide (x = k.toNat) := fun k => by
    rw [Bool.eq_iff_iff, beq_iff_eq, decide_eq_true_eq, hx]
    exact ⟨fun h => by rw [h], fun h => UInt8.toNat_inj.1 h⟩
  unfold isLet
  rw [e, e, e, e, e, hx]; rfl
set_option maxHeartbeats 4000000 in
theorem refLetter_any (c : UInt8) (w : World) : Calls Tryd.prog 66 #[.int .u8 (c.toNat : Int)] w fun e w' => e = .returned (.bool (isLet c)) ∧ w = w' := by
  obtain ⟨x, hx⟩ : ∃ x : Nat, x = c.toNat := ⟨_, rfl⟩
  have HX := Lib.hid (isLet_of c x hx)
  rw [← hx]
  clear hx
  go_enter Tryd.func66, Tryd.ntmps66
  go_wp2
  all_goals
    go_ret
    refine ⟨congrArg Ending.returned (show Value.bool _ = Value.bool _ from congrArg Value.bool ?_), rfl⟩
    rw [HX.out, Bool.eq_iff_iff]
    simp
    try omega
set_option maxHeartbeats 4000000 in
theorem refPart_any (s : List UInt8) (hs : s.length < 4611686018427387904) (w : World) : Calls Tryd.prog 57 #[.string (str s)] w fun e w' => e = .returned (.bool (isPart s)) ∧ w = w' := by
  obtain ⟨n, hn⟩ : ∃ n, n = s.length := ⟨_, rfl⟩
  have HN := Lib.hid hn
  have hsz : (str s).size = n := by rw [str_size, hn]
  have hl : (str s).toList = s := str_toList s
  rw [← hn] at hs
  clear hn
  go_enter Tryd.func57, Tryd.ntmps57
  go_wp2
  go_loopw [3] (fun i wr => wr = w ∧ ∃ k : Nat, k ≤ n ∧ i = .int .i64 k ∧ ∀ j, j < k → ∀ c, s[j]? = some c → isLet c = true) (fun i _ => n - (intOf i).toNat)
  case atStart => exact ⟨rfl, 0, by omega, rfl, fun j hj => by omega⟩
  case round =>
    obtain ⟨rfl, k, hk, rfl, hall⟩ := hrel
    have HA := Lib.hid hall
    clear hall
    by_cases hlt : k < n
    · obtain ⟨c, hc⟩ : ∃ c, s[k]? = some c := ⟨s[k]'(by have := HN.out; omega), List.getElem?_eq_getElem _⟩
      have i1 := fun w => index_str (P := Tryd.prog) w s .i64 k c hc Tryd.underlying9
      have HC := Lib.hid hc
      have q0 : (k : Int) < (n : Int) := by omega
      clear hc
      cases hlet : isLet c with
      | true =>
        have HL := Lib.hid hlet
        have HW := Lib.hid (show ∀ w, Calls Tryd.prog 66 #[.int .u8 (c.toNat : Int)] w fun e w' => e = .returned (.bool true) ∧ w = w' from fun w => by have := refLetter_any c w; rwa [hlet] at this)
        clear hlet
        go_wp2_with (first | (go_at_call 66; refine (HW.out _).mono ?_; rintro e w' ⟨rfl, rfl⟩))
        go_roundw
        case rel => exact ⟨trivial, k + 1, by omega, by go_num, fun j hj c' hc' => by
          rcases Nat.lt_or_ge j k with h | h
          · exact HA.out j h c' hc'
          · obtain rfl : j = k := by omega
            rw [HC.out] at hc'; cases hc'; exact HL.out⟩
        case measure => simp [intOf]; omega
      | false =>
        have HP := Lib.hid (show isPart s = false by
          rw [isPart, Bool.and_eq_false_iff]; left
          rw [Bool.eq_false_iff, ne_eq, List.all_eq_true]
          intro h; have := h c (List.mem_of_getElem? HC.out); rw [hlet] at this; cases this)
        have HW := Lib.hid (show ∀ w, Calls Tryd.prog 66 #[.int .u8 (c.toNat : Int)] w fun e w' => e = .returned (.bool false) ∧ w = w' from fun w => by have := refLetter_any c w; rwa [hlet] at this)
        clear hlet
        go_wp2_with (first | (go_at_call 66; refine (HW.out _).mono ?_; rintro e w' ⟨rfl, rfl⟩))
        go_ret
        exact ⟨by rw [HP.out]; rfl, rfl⟩
    · obtain rfl : k = n := by omega
      have HP := Lib.hid (show isPart s = (decide (1 ≤ k) && (decide (k ≤ 100) && (s != [46] && s != [46, 46]))) by
        rw [isPart, ← HN.out, show s.all isLet = true from List.all_eq_true.2 fun c hc => by
          obtain ⟨j, hj, rfl⟩ := List.mem_iff_getElem.1 hc
          exact HA.out j (by rw [HN.out]; exact hj) _ (List.getElem?_eq_getElem hj)]
        rfl)
      go_wp2
      all_goals
        go_ret
        refine ⟨congrArg Ending.returned (show Value.bool _ = Value.bool _ from congrArg Value.bool ?_), rfl⟩
        rw [HP.out]
        first
          | (have h : ¬ 1 ≤ k := (by omega); simp [h]; done)
          | (have h : ¬ k ≤ 100 := (by omega); simp [h]; done)
          | (have h1 : 1 ≤ k := (by omega); have h2 : k ≤ 100 := (by omega); have h3 : s = [46] := (by assumption); simp [h1, h2, h3]; done)
          | (have h1 : 1 ≤ k := (by omega); have h2 : k ≤ 100 := (by omega); simp [h1, h2, bne]; done)
/-- A piece of a text. -/
theorem slice_mid {P : Program} (w : World) (t : TypeId) (s : List UInt8) (f k : Nat) (hf : f ≤ k) (hk : k ≤ s.length) (ht : P.underlying t = some .string) :
    (Instr.slice t (.string (str s)) (some (.int .i64 (f : Int))) (some (.int .i64 (k : Int))) none).run P w = .ok (.string (str ((s.take k).drop f))) w := by
  rw [run_slice_string_if w t (str s) .i64 .i64 f k ht, if_pos ⟨by omega, by rw [str_size]; omega⟩, if_pos ⟨by omega, by omega⟩, Int.toNat_natCast, Int.toNat_natCast]
  congr 2
  unfold str
  rw [ByteArray.extract_mk]
  simp [List.drop_take]
theorem piece_ok {s : List UInt8} {f i : Nat} (hi : i ≤ s.length) (hn : ∀ j, f ≤ j → j < i → s.getD j 0 ≠ 47) : ∀ c ∈ (s.take i).drop f, c ≠ 47 := fun c hc e => by
  obtain ⟨j, hj, rfl⟩ := List.mem_iff_getElem.1 hc
  rw [List.length_drop, List.length_take] at hj
  rw [List.getElem_drop, List.getElem_take] at e
  exact hn (f + j) (by omega) (by omega) (by rw [List.getD_eq_getElem?_getD, List.getElem?_eq_getElem (by omega), Option.getD_some, e])
/-- The rest of a text from a place on, parted at a byte /. -/
theorem rest_slash {s : List UInt8} {f i : Nat} (hf : f ≤ i) (hi : i < s.length) (hs : s.getD i 0 = 47) : s.drop f = (s.take i).drop f ++ 47 :: s.drop (i + 1) := by
  conv => lhs; rw [take_slash hi hs]
  rw [List.drop_append_of_le_length (by rw [List.length_take]; omega)]
set_option maxHeartbeats 4000000 in
theorem refParts_any (s : List UInt8) (hs : s.length < 4611686018427387904) (w : World) : Calls Tryd.prog 48 #[.string (str s)] w fun e w' => e = .returned (.bool (isParts s)) ∧ w = w' := by
  obtain ⟨n, hn⟩ : ∃ n, n = s.length := ⟨_, rfl⟩
  have HN := Lib.hid hn
  have hsz : (str s).size = n := by rw [str_size, hn]
  rw [← hn] at hs
  clear hn
  go_enter Tryd.func48, Tryd.ntmps48
  go_wp2
  go_loopw [3, 4] (fun x i wr => wr = w ∧ ∃ f k : Nat, f ≤ k ∧ k ≤ n + 1 ∧ (k = n + 1 → isParts s = true) ∧ (k ≤ n → (∀ j, f ≤ j → j < k → s.getD j 0 ≠ 47) ∧ isParts s = isParts (s.drop f)) ∧ i = .int .i64 k ∧ x = .int .i64 f) (fun _ i _ => n + 1 - (intOf i).toNat)
  case atStart => exact ⟨rfl, 0, 0, by omega, by omega, fun h => by omega, fun _ => ⟨fun j _ hj => by omega, by rw [List.drop_zero]⟩, rfl, rfl⟩
  case round =>
    obtain ⟨rfl, f, k, hfk, hk, hend, hmid, rfl, rfl⟩ := hrel
    by_cases hkn : k ≤ n
    · obtain ⟨h1, h2⟩ := hmid hkn
      have HM := Lib.hid (And.intro h1 h2)
      clear hend hmid h1 h2
      have q0 : ¬ (n : Int) < (k : Int) := by omega
      have sl : ∀ w, (Instr.slice 9 (.string (str s)) (some (.int .i64 (f : Int))) (some (.int .i64 (k : Int))) none).run Tryd.prog w = .ok (.string (str ((s.take k).drop f))) w := fun w => slice_mid w 9 s f k hfk (by rw [← HN.out]; exact hkn) Tryd.underlying9
      obtain ⟨p, hp⟩ : ∃ p, p = (s.take k).drop f := ⟨_, rfl⟩
      have hpl : p.length < 4611686018427387904 := by rw [hp, List.length_drop, List.length_take]; omega
      have hp47 := piece_ok (by rw [← HN.out]; exact hkn) HM.out.1
      rw [← hp] at sl hp47
      have HPP := Lib.hid (And.intro hp hp47)
      have HW := Lib.hid (fun w => refPart_any p hpl w)
      clear hp hp47 hpl
      by_cases hend : k = n
      · subst hend
        have HE := Lib.hid (show isParts s = isPart p by
          rw [HM.out.2, show s.drop f = p from by rw [HPP.out.1, HN.out, List.take_length], isParts_one HPP.out.2])
        cases hpt : isPart p with
        | true =>
          rw [hpt] at HW
          have HT := Lib.hid (show isParts s = true by rw [HE.out]; exact hpt)
          clear hpt
          go_wp2_with (first | (go_at_call 57; refine (HW.out _).mono ?_; rintro e w' ⟨rfl, rfl⟩))
          go_roundw
          case rel => exact ⟨trivial, k + 1, k + 1, by omega, by omega, fun _ => HT.out, fun h => by omega, by go_num, by go_num⟩
          case measure => simp [intOf]
        | false =>
          rw [hpt] at HW
          have HT := Lib.hid (show isParts s = false by rw [HE.out]; exact hpt)
          clear hpt
          go_wp2_with (first | (go_at_call 57; refine (HW.out _).mono ?_; rintro e w' ⟨rfl, rfl⟩))
          go_ret
          exact ⟨by rw [HT.out]; rfl, rfl⟩
      · obtain ⟨c, hc⟩ : ∃ c, s[k]? = some c := ⟨s[k]'(by have := HN.out; omega), List.getElem?_eq_getElem _⟩
        have i1 := fun w => index_str (P := Tryd.prog) w s .i64 k c hc Tryd.underlying9
        obtain ⟨x, hx⟩ : ∃ x, c.toNat = x := ⟨_, rfl⟩
        rw [hx] at i1
        have hcd : s.getD k 0 = c := by rw [List.getD_eq_getElem?_getD, hc]; rfl
        have HC := Lib.hid (And.intro hcd hx)
        have t1 : ((k : Int) == (n : Int)) = false := beq_eq_false_iff_ne.2 (by omega)
        have q1 : (k : Int) < (n : Int) := by omega
        clear hc hx hcd
        by_cases h47 : x = 47
        · subst h47
          have hs47 : s.getD k 0 = 47 := by rw [HC.out.1]; exact UInt8.toNat_inj.1 HC.out.2
          have HE := Lib.hid (show isParts s = (isPart p && isParts (s.drop (k + 1))) by
            rw [HM.out.2, rest_slash hfk (by rw [← HN.out]; omega) hs47, isParts_append, ← HPP.out.1, isParts_one HPP.out.2])
          clear hs47
          cases hpt : isPart p with
          | true =>
            rw [hpt] at HW
            have HT := Lib.hid (show isParts s = isParts (s.drop (k + 1)) by rw [HE.out, hpt, Bool.true_and])
            clear hpt
            go_wp2_with (first | (go_at_call 57; refine (HW.out _).mono ?_; rintro e w' ⟨rfl, rfl⟩))
            go_roundw
            case rel => exact ⟨trivial, k + 1, k + 1, by omega, by omega, fun h => by omega, fun _ => ⟨fun j h1 h2 => by omega, HT.out⟩, by go_num, by go_num⟩
            case measure => simp [intOf]; omega
          | false =>
            rw [hpt] at HW
            have HT := Lib.hid (show isParts s = false by rw [HE.out, hpt, Bool.false_and])
            clear hpt
            go_wp2_with (first | (go_at_call 57; refine (HW.out _).mono ?_; rintro e w' ⟨rfl, rfl⟩))
            go_ret
            exact ⟨by rw [HT.out]; rfl, rfl⟩
        · have t2 : ((x : Int) == 47) = false := beq_eq_false_iff_ne.2 (by omega)
          have HX := Lib.hid (show s.getD k 0 ≠ 47 from fun e => by rw [HC.out.1] at e; rw [e] at HC; exact h47 HC.out.2.symm)
          clear h47
          go_wp2_with (first | (go_at_call 57; refine (HW.out _).mono ?_; rintro e w' ⟨rfl, rfl⟩))
          go_roundw
          case rel => exact ⟨trivial, f, k + 1, by omega, by omega, fun h => by omega, fun _ => ⟨fun j h1 h2 => by
            rcases Nat.lt_or_ge j k with h | h
            · exact HM.out.1 j h1 h
            · obtain rfl : j = k := by omega
              exact HX.out, HM.out.2⟩, by go_num, rfl⟩
          case measure => simp [intOf]; omega
    · obtain rfl : k = n + 1 := by omega
      have HP := Lib.hid (hend rfl)
      clear hend hmid
      go_wp2
      go_ret
      exact ⟨by rw [HP.out]; rfl, rfl⟩
end Go.Proofs.YtocpplnnnflekaaDoor
namespace Go.Proofs.YtocpplnnnflekaaDoor
open Go.RowKit
theorem split_bad {s : List UInt8} (h : splitR s = none) : splitA s = [] ∧ splitB s = [] ∧ splitErr s = 9 := by simp [splitA, splitB, splitErr, h]
theorem split_good {s a b : List UInt8} (h : splitR s = some (a, b)) : splitA s = a ∧ splitB s = b ∧ splitErr s = 0 := by simp [splitA, splitB, splitErr, h]
theorem wrap_small6 (p : Nat) (h : p < 9223372036854775808) : IntKind.i64.wrap (p : Int) = (p : Int) := by rw [IntKind.wrap_i64]; omega
theorem splitR_cut {s : List UInt8} (hp : isParts s = true) (h1 : s.length ≤ 254) (h2 : 100 < s.length) : splitR s = match cutI s with
    | some i => if 155 < i then none else some (s.take i, s.drop (i + 1))
    | none => none := by
  unfold splitR
  rw [if_neg (by rw [hp]; simp; omega), if_neg (by omega)]
  rfl
theorem slice_to6 {P : Program} (w : World) (t : TypeId) (s : List UInt8) (k : Nat) (hk : k ≤ s.length) (ht : P.underlying t = some .string) :
    (Instr.slice t (.string (str s)) none (some (.int .i64 (k : Int))) none).run P w = .ok (.string (str (s.take k))) w := by
  rw [run_slice_string_h w t (str s) ht .i64 k (by omega) (by rw [str_size]; omega)]
  congr 2
  unfold str
  rw [ByteArray.extract_mk]; simp
theorem slice_from6 {P : Program} (w : World) (t : TypeId) (s : List UInt8) (k : Nat) (hk : k ≤ s.length) (ht : P.underlying t = some .string) :
    (Instr.slice t (.string (str s)) (some (.int .i64 (k : Int))) none none).run P w = .ok (.string (str (s.drop k))) w := by
  rw [run_slice_string_l w t (str s) ht .i64 k (by omega) (by rw [str_size]; omega)]
  congr 2
  rw [str_size]; unfold str
  rw [ByteArray.extract_mk, List.take_of_length_le (by simp)]; simp
set_option maxHeartbeats 4000000 in
theorem refSplit_any (s : List UInt8) (hs : s.length < 4611686018427387904) (w : World) : Calls Tryd.prog 32 #[.string (str s)] w fun e w' => e = .returned (.tuple #[.string (str (splitA s)), .string (str (splitB s)), .int .i64 (splitErr s)]) ∧ Below w.heap.size w w' := by
  obtain ⟨n, hn⟩ : ∃ n, n = s.length := ⟨_, rfl⟩
  have HN := Lib.hid hn
  have hsz : (str s).size = n := by rw [str_size, hn]
  have HPA := Lib.hid (refParts_any s hs)
  rw [← hn] at hs
  clear hn
  cases hp : isParts s with
  | false =>
    rw [hp] at HPA
    have HR := Lib.hid (split_bad (show splitR s = none by unfold splitR; rw [if_pos (.inl hp)]))
    clear hp hs
    go_enter Tryd.func32, Tryd.ntmps32
    go_wp2_with (first | (go_at_call 48; refine (HPA.out _).mono ?_; rintro e w' ⟨rfl, rfl⟩))
    go_ret3
    exact ⟨by rw [HR.out.1, HR.out.2.1, HR.out.2.2]; try rfl, Below.refl _ _⟩
  | true =>
    rw [hp] at HPA
    have HT := Lib.hid hp
    clear hp
    by_cases h254 : 254 < n
    · have HR := Lib.hid (split_bad (show splitR s = none by unfold splitR; rw [if_pos (.inr (by rw [← HN.out]; exact h254))]))
      have d1 : decide ((254 : Int) < (n : Int)) = true := decide_eq_true (by omega)
      clear hs h254
      go_enter Tryd.func32, Tryd.ntmps32
      go_wp2_with (first | (go_at_call 48; refine (HPA.out _).mono ?_; rintro e w' ⟨rfl, rfl⟩))
      go_ret3
      exact ⟨by rw [HR.out.1, HR.out.2.1, HR.out.2.2]; try rfl, Below.refl _ _⟩
    · have d1 : decide ((254 : Int) < (n : Int)) = false := decide_eq_false (by omega)
      by_cases h100 : n ≤ 100
      · have HR := Lib.hid (split_good (show splitR s = some ([], s) by unfold splitR; rw [if_neg (by rw [HT.out, ← HN.out]; simp; omega), if_pos (by rw [← HN.out]; exact h100)]))
        have d2 : decide ((n : Int) ≤ 100) = true := decide_eq_true (by omega)
        clear hs h254 h100
        go_enter Tryd.func32, Tryd.ntmps32
        go_wp2_with (first | (go_at_call 48; refine (HPA.out _).mono ?_; rintro e w' ⟨rfl, rfl⟩))
        go_ret3
        exact ⟨by rw [HR.out.1, HR.out.2.1, HR.out.2.2]; try rfl, Below.refl _ _⟩
      · have d2 : decide ((n : Int) ≤ 100) = false := decide_eq_false (by omega)
        have HC := Lib.hid (splitR_cut HT.out (by rw [← HN.out]; omega) (by rw [← HN.out]; omega))
        have hn254 : n ≤ 254 := by omega
        clear hs h254 h100
        go_enter Tryd.func32, Tryd.ntmps32
        go_wp2_with (first | (go_at_call 48; refine (HPA.out _).mono ?_; rintro e w' ⟨rfl, rfl⟩))
        go_loopw [5] (fun i wr => wr = w ∧ ∃ k : Nat, k ≤ n ∧ i = .int .i64 k ∧ ∀ j, j < k → s.getD j 0 = 47 → 100 < n - j - 1) (fun i _ => n - (intOf i).toNat)
        case atStart => exact ⟨rfl, 0, by omega, rfl, fun j hj => by omega⟩
        case round =>
          obtain ⟨rfl, k, hk, rfl, hall⟩ := hrel
          have HA := Lib.hid hall
          clear hall
          by_cases hkn : k < n
          · obtain ⟨c, hc⟩ : ∃ c, s[k]? = some c := ⟨s[k]'(by have := HN.out; omega), List.getElem?_eq_getElem _⟩
            have i1 := fun w => index_str (P := Tryd.prog) w s .i64 k c hc Tryd.underlying9
            obtain ⟨x, hx⟩ : ∃ x, c.toNat = x := ⟨_, rfl⟩
            rw [hx] at i1
            have HX := Lib.hid (And.intro (show s.getD k 0 = c by rw [List.getD_eq_getElem?_getD, hc]; rfl) hx)
            have q1 : (k : Int) < (n : Int) := by omega
            clear hc hx
            by_cases h47 : x = 47
            · subst h47
              have hs47 : s.getD k 0 = 47 := by rw [HX.out.1]; exact UInt8.toNat_inj.1 HX.out.2
              obtain ⟨d, hd⟩ : ∃ d : Nat, n = k + (d + 1) := ⟨n - k - 1, by omega⟩
              have e1 : (n : Int) - (k : Int) = ((d + 1 : Nat) : Int) := by omega
              have e2 : ((d + 1 : Nat) : Int) - 1 = (d : Int) := by omega
              have e3 := wrap_small6 (d + 1) (by omega)
              have e4 := wrap_small6 d (by omega)
              by_cases h1 : d ≤ 100
              · have t1 : decide ((d : Int) ≤ 100) = true := decide_eq_true (by omega)
                have hcut : cutI s = some k := cut_of (by rw [← HN.out]; exact hkn) hs47 (by rw [← HN.out]; omega) (fun j h2 h3 => by rw [← HN.out]; exact HA.out j h2 h3)
                have HCC := Lib.hid HC.out
                rw [hcut] at HCC
                by_cases h155 : 155 < k
                · have HR := Lib.hid (split_bad (show splitR s = none by have := HCC.out; simp only at this; rw [if_pos h155] at this; exact this))
                  have t2 : decide ((155 : Int) < (k : Int)) = true := decide_eq_true (by omega)
                  clear hs47 hcut h1 hd h155
                  go_wp2
                  go_ret3
                  exact ⟨by rw [HR.out.1, HR.out.2.1, HR.out.2.2]; try rfl, Below.refl _ _⟩
                · have HR := Lib.hid (split_good (show splitR s = some (s.take k, s.drop (k + 1)) by have := HCC.out; simp only at this; rw [if_neg h155] at this; exact this))
                  have t2 : decide ((155 : Int) < (k : Int)) = false := decide_eq_false (by omega)
                  have s1 := fun w => slice_to6 (P := Tryd.prog) w 9 s k (by rw [← HN.out]; exact hk) Tryd.underlying9
                  obtain ⟨k1, hk1⟩ : ∃ k1, k1 = k + 1 := ⟨_, rfl⟩
                  have s2 := fun w => slice_from6 (P := Tryd.prog) w 9 s k1 (by rw [← HN.out]; omega) Tryd.underlying9
                  have e5 : (k : Int) + 1 = (k1 : Int) := by omega
                  have e6 := wrap_small6 k1 (by omega)
                  rw [← hk1] at HR
                  clear hs47 hcut h1 hd h155 hk1
                  go_wp2
                  go_quiet (fail)
                  go_wp2
                  go_ret3
                  exact ⟨by rw [HR.out.1, HR.out.2.1, HR.out.2.2]; try rfl, below_draws (Below.refl _ _) nq⟩
              · have t1 : decide ((d : Int) ≤ 100) = false := decide_eq_false (by omega)
                have HD := Lib.hid (show 100 < n - k - 1 by omega)
                clear hs47 hd
                go_wp2
                go_roundw
                case rel => exact ⟨trivial, k + 1, by omega, by go_num, fun j h2 h3 => by
                  rcases Nat.lt_or_ge j k with h | h
                  · exact HA.out j h h3
                  · obtain rfl : j = k := by omega
                    exact HD.out⟩
                case measure => simp [intOf]; omega
            · have t2 : ((x : Int) == 47) = false := beq_eq_false_iff_ne.2 (by omega)
              have HD := Lib.hid (show s.getD k 0 ≠ 47 from fun e => by rw [HX.out.1] at e; rw [e] at HX; exact h47 HX.out.2.symm)
              clear h47
              go_wp2
              go_roundw
              case rel => exact ⟨trivial, k + 1, by omega, by go_num, fun j h2 h3 => by
                rcases Nat.lt_or_ge j k with h | h
                · exact HA.out j h h3
                · obtain rfl : j = k := by omega
                  exact absurd h3 HD.out⟩
              case measure => simp [intOf]; omega
          · obtain rfl : k = n := by omega
            have hcut : cutI s = none := cut_no (fun j h2 h3 => by rw [← HN.out] at h2 ⊢; exact HA.out j h2 h3)
            have HCC := Lib.hid HC.out
            rw [hcut] at HCC
            have HR := Lib.hid (split_bad (show splitR s = none from HCC.out))
            clear hcut
            go_wp2
            go_ret3
            exact ⟨by rw [HR.out.1, HR.out.2.1, HR.out.2.2]; try rfl, Below.refl _ _⟩
end Go.Proofs.YtocpplnnnflekaaDoor
namespace Go.Proofs.YtocpplnnnflekaaDoor
open Go.RowKit
set_option maxHeartbeats 4000000 in
theorem refJoin_any (p n : List UInt8) (hp : p.length < 1152921504606846976) (hn : n.length < 1152921504606846976) (w : World) : Calls Tryd.prog 42 #[.string (str p), .string (str n)] w fun e w' => e = .returned (.tuple #[.string (str (joinT p n)), .int .i64 (joinErr p n)]) ∧ Below w.heap.size w w' := by
  have hlp : (str p).toList = p := str_toList p
  have hln : (str n).toList = n := str_toList n
  obtain ⟨s, hs⟩ : ∃ s, s = joinS p n := ⟨_, rfl⟩
  have hsl : s.length < 4611686018427387904 := by
    rw [hs, joinS]; split
    · omega
    · rw [List.length_append, List.length_cons]; omega
  have HS := Lib.hid (refSplit_any s hsl)
  have hla : (str (splitA s)).toList = splitA s := str_toList _
  have hlb : (str (splitB s)).toList = splitB s := str_toList _
  have HJ : joinOk p n = ((splitErr s == 0) && (splitA s == p && splitB s == n)) := by
    rw [joinOk, ← hs]
    cases hr : splitR s with
    | none => simp [splitErr, hr]
    | some x => obtain ⟨a, b⟩ := x; rw [Bool.eq_iff_iff]; simp [splitErr, splitA, splitB, hr]
  have HJT := Lib.hid (show joinOk p n = true → joinT p n = s ∧ joinErr p n = 0 from fun h => by rw [joinT, joinErr, if_pos h, if_pos h, hs]; exact ⟨rfl, rfl⟩)
  have HJF := Lib.hid (show joinOk p n = false → joinT p n = [] ∧ joinErr p n = 9 from fun h => by rw [joinT, joinErr, h]; exact ⟨rfl, rfl⟩)
  have HJJ := Lib.hid HJ
  clear HJ hsl
  generalize splitErr s = E at *
  generalize splitA s = A at *
  generalize splitB s = B at *
  have HSS := Lib.hid hs
  have part : ∀ Q : Prop, ((A == p) = true → (B == n) = true → E = 0 → joinOk p n = true → Q) → (E = 0 → (A == p) = true → (B == n) = false → joinOk p n = false → Q) → (E = 0 → (A == p) = false → joinOk p n = false → Q) → (¬ E = 0 → joinOk p n = false → Q) → Q := fun Q c1 c2 c3 c4 => by
    have hj := HJJ.out
    by_cases h0 : E = 0
    · subst h0
      cases h1 : (A == p) with
      | true =>
        cases h2 : (B == n) with
        | true => exact c1 h1 h2 rfl (by rw [hj, h1, h2]; rfl)
        | false => exact c2 rfl h1 h2 (by rw [hj, h1, h2]; rfl)
      | false => exact c3 rfl h1 (by rw [hj, h1]; rfl)
    · exact c4 h0 (by rw [hj, show (E == 0) = false from beq_eq_false_iff_ne.2 h0]; rfl)
  have HPT := Lib.hid part
  clear part
  by_cases hp0 : p = []
  · have e1 : (p == []) = true := by rw [beq_iff_eq]; exact hp0
    have e2 : s = n := by rw [HSS.out, joinS, if_pos hp0]
    have HE := Lib.hid e2
    clear hs hp hn e2
    have HS' := Lib.hid (fun w => by have := HS.out w; rwa [HE.out] at this)
    clear hp0
    refine HPT.out _ (fun t1 t2 t3 t4 => ?_) (fun t1 t2 t3 t4 => ?_) (fun t1 t2 t4 => ?_) (fun t1 t4 => ?_)
    · have HR := Lib.hid (HJT.out t4)
      subst t3
      clear t4
      go_enter Tryd.func42, Tryd.ntmps42
      go_wp2_with (first | (go_at_call 32; refine (HS'.out _).mono ?_; rintro e w1 ⟨rfl, hb⟩; have H1 := Lib.hid hb; clear hb))
      go_ret2
      exact ⟨by rw [HR.out.1, HR.out.2, HE.out]; try rfl, H1.out⟩
    all_goals
      have HR := Lib.hid (HJF.out t4)
      clear t4
      try subst t1
      go_enter Tryd.func42, Tryd.ntmps42
      go_wp2_with (first | (go_at_call 32; refine (HS'.out _).mono ?_; rintro e w1 ⟨rfl, hb⟩; have H1 := Lib.hid hb; clear hb))
      go_ret2
      exact ⟨by rw [HR.out.1, HR.out.2]; try rfl, H1.out⟩
  · have e1 : (p == []) = false := by rw [beq_eq_false_iff_ne]; exact hp0
    obtain ⟨q, hq⟩ : ∃ q, q = p ++ [47] := ⟨_, rfl⟩
    have a1 : ∀ w, (Op.stringOp .add (str p) ⟨#[47]⟩).run Tryd.prog w = .ok (.string (str q)) w := fun w => by rw [hq]; exact add_str p [47] (by simp; omega) w
    have a2 : ∀ w, (Op.stringOp .add (str q) (str n)).run Tryd.prog w = .ok (.string (str s)) w := fun w => by
      have := add_str (P := Tryd.prog) q n (by rw [hq]; simp; omega) w
      rw [this, HSS.out, joinS, if_neg hp0, hq]; simp
    clear hs hp hn hq hp0
    refine HPT.out _ (fun t1 t2 t3 t4 => ?_) (fun t1 t2 t3 t4 => ?_) (fun t1 t2 t4 => ?_) (fun t1 t4 => ?_)
    · have HR := Lib.hid (HJT.out t4)
      subst t3
      clear t4
      go_enter Tryd.func42, Tryd.ntmps42
      go_wp2_with (first | (go_at_call 32; refine (HS.out _).mono ?_; rintro e w1 ⟨rfl, hb⟩; have H1 := Lib.hid hb; clear hb))
      go_ret2
      exact ⟨by rw [HR.out.1, HR.out.2]; try rfl, H1.out⟩
    all_goals
      have HR := Lib.hid (HJF.out t4)
      clear t4
      try subst t1
      go_enter Tryd.func42, Tryd.ntmps42
      go_wp2_with (first | (go_at_call 32; refine (HS.out _).mono ?_; rintro e w1 ⟨rfl, hb⟩; have H1 := Lib.hid hb; clear hb))
      go_ret2
      exact ⟨by rw [HR.out.1, HR.out.2]; try rfl, H1.out⟩
end Go.Proofs.YtocpplnnnflekaaDoor
namespace Go.Proofs.YtocpplnnnflekaaDoor
open Go.RowKit
structure OctalFace : Prop where
  put : ∀ w (n width : Int), -9223372036854775808 ≤ n → n < 9223372036854775808 → -9223372036854775808 ≤ width → width < 9223372036854775808 → Calls Tryd.prog 46 #[.int .i64 n, .int .i64 width] w fun e w' => ∃ v, e = .returned (.tuple #[v, .int .i64 (putErr n width)]) ∧ HasText w' v (putT n width) ∧ Below w.heap.size w w'
  get : ∀ w v (b : List UInt8), b.length < 4611686018427387904 → HasText w v b → Calls Tryd.prog 37 #[v] w fun e w' => e = .returned (.tuple #[.int .i64 (getN b), .int .i64 (getErr b)]) ∧ Below w.heap.size w w'
  text : ∀ w (s : List UInt8) (width : Int), s.length < 4611686018427387904 → -9223372036854775808 ≤ width → width < 9223372036854775808 → Calls Tryd.prog 45 #[.string (str s), .int .i64 width] w fun e w' => ∃ v, e = .returned (.tuple #[v, .int .i64 (fieldErr s width)]) ∧ HasText w' v (fieldT s width) ∧ Below w.heap.size w w'
  check : ∀ w v (b : List UInt8), b.length < 4611686018427387904 → HasText w v b → Calls Tryd.prog 47 #[v] w fun e w' => e = .returned (.int .i64 (IntKind.i64.wrap (sumL b))) ∧ Below w.heap.size w w'
structure NameFace : Prop where
  name : ∀ w v (b : List UInt8), b.length < 4611686018427387904 → HasText w v b → Calls Tryd.prog 36 #[v] w fun e w' => e = .returned (.tuple #[.string (str (nameT b)), .int .i64 (nameErr b)]) ∧ Below w.heap.size w w'
theorem text_keep {w w' : World} {v : Value} {l : List UInt8} (h : HasText w v l) (hb : Below w.heap.size w w') : HasText w' v l := has_below h hb
/-- A slice that has bytes, as a text. -/
theorem text_of_bytes {w : World} {v : Value} {bs : List (BitVec 32)} (h : HasBytes w v bs) (hb : ∀ x ∈ bs, u32 x < 256) : ∃ l : List UInt8, HasText w v l ∧ l.length = bs.length := by
  have e : bs = (bs.map fun x => UInt8.ofNat x.toNat).map w8 := by
    rw [List.map_map]
    conv => lhs; rw [← List.map_id bs]
    apply List.map_congr_left
    intro x hx
    have h1 := hb x hx
    unfold u32 at h1
    apply BitVec.eq_of_toNat_eq
    simp only [Function.comp, w8, BitVec.toNat_ofNat, UInt8.toNat_ofNat', id]
    omega
  exact ⟨_, by unfold HasText; rw [← e]; exact h, by simp⟩
theorem text_shape {w : World} {v : Value} {l : List UInt8} (h : HasText w v l) (n : Nat) (hn : l.length = n) : ∃ ao cap, v = .slice ao n cap := by
  obtain ⟨ao, cap, rfl, -⟩ := h
  exact ⟨ao, cap, by rw [List.length_map, hn]⟩
theorem text_pos {w : World} {v : Value} {l : List UInt8} (h : HasText w v l) (n k : Nat) (hn : l.length = n) (hk : k < n) (c : UInt8) (hc : l.getD k 0 = c) : ∃ ad cap, v = .slice (some ad) n cap ∧ w.cell? (ad.add k) = some (.int .u8 (c.toNat : Int)) := by
  obtain ⟨ao, cap, rfl, hnil, hcs⟩ := h
  subst hn; subst hc
  rw [List.length_map]
  cases ao with
  | none => obtain ⟨hl, _⟩ := hnil rfl; simp at hl; subst hl; simp at hk
  | some ad =>
    refine ⟨ad, cap, rfl, (hcs ad rfl).2 k _ ?_⟩
    rw [bytesL_map]; simp [hk]
end Go.Proofs.YtocpplnnnflekaaDoor
