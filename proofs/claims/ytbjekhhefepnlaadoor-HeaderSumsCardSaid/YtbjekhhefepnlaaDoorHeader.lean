/-
Plain mathematics of archive headers: their fields, their sum, there and back; no program is named here.
-/
import Derived.Test.YtbjekhhefepnlaaDoorOctal
import Derived.Test.YtbjekhhefepnlaaDoorPath
namespace Go.Proofs.YtbjekhhefepnlaaDoor
open Go.RowKit
/-- What stands ahead of the sum, and behind it. -/
def hdrA (name : List UInt8) (size : Int) : List UInt8 := fieldT name 100 ++ (putT 420 8 ++ (putT 0 8 ++ (putT 0 8 ++ (putT size 12 ++ putT 0 12))))
def hdrC (pre : List UInt8) : List UInt8 := fieldT [48] 1 ++ (fieldT [] 100 ++ (fieldT [117, 115, 116, 97, 114] 6 ++ (fieldT [48, 48] 2 ++ (fieldT [] 32 ++ (fieldT [] 32 ++ (putT 0 8 ++ (putT 0 8 ++ (fieldT pre 155 ++ fieldT [] 12))))))))
def blank8 : List UInt8 := fieldT [32, 32, 32, 32, 32, 32, 32, 32] 8
/-- A header whose sum is not known yet. -/
def hdr0 (pre name : List UInt8) (size : Int) : List UInt8 := hdrA name size ++ (blank8 ++ hdrC pre)
def hdrS (pre name : List UInt8) (size : Int) : Nat := sumL (hdr0 pre name size)
def sumB (n : Nat) : List UInt8 := putT n 7 ++ [32]
def hdrL (pre name : List UInt8) (size : Int) : List UInt8 := hdrA name size ++ (sumB (hdrS pre name size) ++ hdrC pre)
/-- Fields that fit. -/
def Fit (pre name : List UInt8) (size : Int) : Prop := fieldErr name 100 = 0 ∧ fieldErr pre 155 = 0 ∧ putErr size 12 = 0
theorem hdrA_len {pre name : List UInt8} {size : Int} (h : Fit pre name size) : (hdrA name size).length = 148 := by
  have a := fieldT_length name 100 h.1
  have b := (get_put size 12 h.2.2).2.2
  have c : (putT 420 8).length = 8 := by decide +kernel
  have d : (putT 0 8).length = 8 := by decide +kernel
  have e : (putT 0 12).length = 12 := by decide +kernel
  simp only [hdrA, List.length_append, a, b, c, d, e]; rfl
theorem hdrC_len {pre name : List UInt8} {size : Int} (h : Fit pre name size) : (hdrC pre).length = 356 := by
  have a := fieldT_length pre 155 h.2.1
  have b : (fieldT [48] 1).length = 1 := by decide +kernel
  have c : (fieldT [] 100).length = 100 := by decide +kernel
  have d : (fieldT [117, 115, 116, 97, 114] 6).length = 6 := by decide +kernel
  have e : (fieldT [48, 48] 2).length = 2 := by decide +kernel
  have f : (fieldT [] 32).length = 32 := by decide +kernel
  have g : (putT 0 8).length = 8 := by decide +kernel
  have i : (fieldT [] 12).length = 12 := by decide +kernel
  simp only [hdrC, List.length_append, a, b, c, d, e, f, g, i]; rfl
theorem blank8_eq : blank8 = [32, 32, 32, 32, 32, 32, 32, 32] := by decide +kernel
theorem sumL_le (b : List UInt8) : sumL b ≤ 255 * b.length := sumTo_le b b.length
theorem hdrS_lt {pre name : List UInt8} {size : Int} (h : Fit pre name size) : hdrS pre name size ≤ 130560 := by
  have h1 := sumL_le (hdr0 pre name size)
  rw [hdr0, List.length_append, List.length_append, hdrA_len h, hdrC_len h, blank8_eq] at h1
  exact h1
theorem put7 {n : Nat} (h : n ≤ 130560) : putErr n 7 = 0 := by
  have h8 : (8 : Nat) ^ 6 = 262144 := by decide
  rw [putErr_ok, show (7 : Int).toNat - 1 = 6 from rfl, h8]; omega
theorem sumB_len {n : Nat} (h : n ≤ 130560) : (sumB n).length = 8 := by
  rw [sumB, List.length_append, (get_put n 7 (put7 h)).2.2]; rfl
theorem sumB_inj {n m : Nat} (hn : n ≤ 130560) (hm : m ≤ 130560) (h : sumB n = sumB m) : n = m := by
  have h1 : putT n 7 = putT m 7 := (List.append_inj h (by rw [(get_put n 7 (put7 hn)).2.2, (get_put m 7 (put7 hm)).2.2])).1
  have h2 := (get_put n 7 (put7 hn)).1
  rw [h1, (get_put m 7 (put7 hm)).1] at h2
  omega
theorem hdrL_len {pre name : List UInt8} {size : Int} (h : Fit pre name size) : (hdrL pre name size).length = 512 := by
  rw [hdrL, List.length_append, List.length_append, hdrA_len h, sumB_len (hdrS_lt h), hdrC_len h]
theorem hdr0_len {pre name : List UInt8} {size : Int} (h : Fit pre name size) : (hdr0 pre name size).length = 512 := by
  rw [hdr0, List.length_append, List.length_append, hdrA_len h, hdrC_len h, blank8_eq]; rfl
/-- The sum hangs on no byte of its own field. -/
theorem sum_mid (a x y c : List UInt8) (ha : a.length = 148) (hx : x.length = 8) (hy : y.length = 8) : sumL (a ++ (x ++ c)) = sumL (a ++ (y ++ c)) := by
  have hl : (a ++ (x ++ c)).length = (a ++ (y ++ c)).length := by simp [hx, hy]
  rw [sumL, sumL, hl]
  refine sumTo_congr _ _ _ fun i _ => ?_
  unfold sumAt
  by_cases h : 148 ≤ i ∧ i ≤ 155
  · rw [if_pos h, if_pos h]
  · rw [if_neg h, if_neg h]
    congr 1
    rw [List.getD_eq_getElem?_getD, List.getD_eq_getElem?_getD]
    congr 1
    rcases Nat.lt_or_ge i 148 with h1 | h1
    · rw [List.getElem?_append_left (by omega), List.getElem?_append_left (by omega)]
    · rw [List.getElem?_append_right (by omega), List.getElem?_append_right (by omega), List.getElem?_append_right (by omega), List.getElem?_append_right (by omega), hx, hy]
theorem hdrL_sum {pre name : List UInt8} {size : Int} (h : Fit pre name size) : sumL (hdrL pre name size) = hdrS pre name size := by
  rw [hdrS, hdr0, hdrL]
  exact sum_mid _ _ _ _ (hdrA_len h) (sumB_len (hdrS_lt h)) (by rw [blank8_eq]; rfl)
/-- The fields, where they stand. -/
theorem hdr_name {pre name : List UInt8} {size : Int} (h : Fit pre name size) : (hdrL pre name size).take 100 = fieldT name 100 := by
  have a : (fieldT name 100).length = 100 := fieldT_length name 100 h.1
  rw [hdrL, hdrA, List.append_assoc, List.take_left' a]
theorem hdr_sum {pre name : List UInt8} {size : Int} (h : Fit pre name size) : ((hdrL pre name size).drop 148).take 8 = sumB (hdrS pre name size) := by
  rw [hdrL, List.drop_left' (hdrA_len h), List.take_left' (sumB_len (hdrS_lt h))]
theorem hdr_size {pre name : List UInt8} {size : Int} (h : Fit pre name size) : ((hdrL pre name size).take 136).drop 124 = putT size 12 := by
  have a : (fieldT name 100).length = 100 := fieldT_length name 100 h.1
  have b : (putT size 12).length = 12 := (get_put size 12 h.2.2).2.2
  have c : (putT 420 8).length = 8 := by decide +kernel
  have d : (putT 0 8).length = 8 := by decide +kernel
  obtain ⟨R, hR⟩ : ∃ R, hdrL pre name size = (fieldT name 100 ++ (putT 420 8 ++ (putT 0 8 ++ putT 0 8))) ++ (putT size 12 ++ R) := ⟨putT 0 12 ++ (sumB (hdrS pre name size) ++ hdrC pre), by rw [hdrL, hdrA]; simp only [List.append_assoc]⟩
  rw [hR, List.drop_take, List.drop_left' (by simp only [List.length_append, a, c, d]), List.take_left' b]
theorem hdr_pre {pre name : List UInt8} {size : Int} (h : Fit pre name size) : ((hdrL pre name size).take 500).drop 345 = fieldT pre 155 := by
  have a : (fieldT pre 155).length = 155 := fieldT_length pre 155 h.2.1
  have b : (fieldT [48] 1).length = 1 := by decide +kernel
  have c : (fieldT [] 100).length = 100 := by decide +kernel
  have d : (fieldT [117, 115, 116, 97, 114] 6).length = 6 := by decide +kernel
  have e : (fieldT [48, 48] 2).length = 2 := by decide +kernel
  have f : (fieldT [] 32).length = 32 := by decide +kernel
  have g : (putT 0 8).length = 8 := by decide +kernel
  obtain ⟨R, hR⟩ : ∃ R, hdrL pre name size = (hdrA name size ++ (sumB (hdrS pre name size) ++ (fieldT [48] 1 ++ (fieldT [] 100 ++ (fieldT [117, 115, 116, 97, 114] 6 ++ (fieldT [48, 48] 2 ++ (fieldT [] 32 ++ (fieldT [] 32 ++ (putT 0 8 ++ putT 0 8))))))))) ++ (fieldT pre 155 ++ R) := ⟨fieldT [] 12, by rw [hdrL, hdrC]; simp only [List.append_assoc]⟩
  rw [hR, List.drop_take, List.drop_left' (by simp only [List.length_append, hdrA_len h, sumB_len (hdrS_lt h), b, c, d, e, f, g]), List.take_left' a]
/-- Headers of unlike fields are unlike. -/
theorem hdr_inj {pre name pre' name' : List UInt8} {size size' : Int} (h : Fit pre name size) (h' : Fit pre' name' size') (e : hdrL pre name size = hdrL pre' name' size') : pre = pre' ∧ name = name' ∧ size = size' := by
  have e1 := hdr_name h
  have e2 := hdr_size h
  have e3 := hdr_pre h
  rw [e] at e1 e2 e3
  rw [hdr_name h'] at e1
  rw [hdr_size h'] at e2
  rw [hdr_pre h'] at e3
  refine ⟨?_, ?_, ?_⟩
  · rw [← (name_field pre 155 h.2.1).1, ← e3, (name_field pre' 155 h'.2.1).1]
  · rw [← (name_field name 100 h.1).1, ← e1, (name_field name' 100 h'.1).1]
  · rw [← (get_put size 12 h.2.2).1, ← e2, (get_put size' 12 h'.2.2).1]
/-- A path has no byte 0. -/
theorem let_nonzero {c : UInt8} (h : isLet c = true) : c ≠ 0 := fun e => by subst e; revert h; decide
theorem parts_nonzero : ∀ (n : Nat) (s : List UInt8), s.length ≤ n → isParts s = true → ∀ c ∈ s, c ≠ 0 := by
  intro n
  induction n with
  | zero => intro s hs _ c hc; obtain rfl : s = [] := List.eq_nil_of_length_eq_zero (by omega); cases hc
  | succ n ih =>
    intro s hs h c hc
    rcases last_piece s with hno | ⟨a, l, rfl, hl⟩
    · rw [isParts_one hno] at h
      exact let_nonzero (isPart_let h c hc)
    · rw [isParts_append, Bool.and_eq_true] at h
      rcases List.mem_append.1 hc with h1 | h1
      · exact ih a (by simp at hs; omega) h.1 c h1
      · rcases List.mem_cons.1 h1 with h2 | h2
        · rw [h2]; decide
        · have := h.2
          rw [isParts_one hl] at this
          exact let_nonzero (isPart_let this c h2)
/-- What Put answers. -/
def putHErr (p : List UInt8) (n : Int) : Int := if splitErr p ≠ 0 then splitErr p else if n < 0 ∨ 4194304 < n then 8 else 0
def putH (p : List UInt8) (n : Int) : List UInt8 := if putHErr p n = 0 then hdrL (splitA p) (splitB p) n else []
theorem splitErr_cases (p : List UInt8) : (splitErr p = 0 ∧ splitR p = some (splitA p, splitB p)) ∨ (splitErr p = 9 ∧ splitR p = none) := by
  unfold splitErr splitA splitB
  cases splitR p with
  | none => exact .inr ⟨rfl, rfl⟩
  | some x => exact .inl ⟨rfl, rfl⟩
theorem putHErr_ok (p : List UInt8) (n : Int) : putHErr p n = 0 ↔ splitR p = some (splitA p, splitB p) ∧ 0 ≤ n ∧ n ≤ 4194304 := by
  unfold putHErr
  rcases splitErr_cases p with ⟨h, hr⟩ | ⟨h, hr⟩
  · rw [if_neg (by omega)]
    by_cases hn : n < 0 ∨ 4194304 < n
    · rw [if_pos hn]; constructor
      · intro e; cases e
      · intro e; omega
    · rw [if_neg hn]; exact ⟨fun _ => ⟨hr, by omega, by omega⟩, fun _ => rfl⟩
  · rw [if_pos (by omega), h, hr]; constructor
    · intro e; cases e
    · intro e; cases e.1
theorem putHErr_cases (p : List UInt8) (n : Int) : putHErr p n = 0 ∨ putHErr p n = 9 ∨ putHErr p n = 8 := by
  unfold putHErr
  rcases splitErr_cases p with ⟨h, _⟩ | ⟨h, _⟩
  · rw [if_neg (by omega)]; split
    · exact .inr (.inr rfl)
    · exact .inl rfl
  · rw [if_pos (by omega), h]; exact .inr (.inl rfl)
theorem no_zero {s : List UInt8} (h : ∀ c ∈ s, c ≠ 0) : s.contains 0 = false := by
  rw [Bool.eq_false_iff]; intro h1; exact h 0 (List.contains_iff_mem.1 h1) rfl
theorem fit_of {p : List UInt8} {n : Int} (h : putHErr p n = 0) : Fit (splitA p) (splitB p) n := by
  obtain ⟨hr, h0, h1⟩ := (putHErr_ok p n).1 h
  have hs := split_some hr
  have hz := parts_nonzero p.length p (Nat.le_refl _) hs.1
  have hj : joinS (splitA p) (splitB p) = p := hs.2.2.2.2.2
  have hA : ∀ c ∈ splitA p, c ≠ 0 := fun c hc => hz c (by
    rw [← hj, joinS, if_neg (List.ne_nil_of_mem hc)]; simp [hc])
  have hB : ∀ c ∈ splitB p, c ≠ 0 := fun c hc => hz c (by
    rw [← hj, joinS]; split
    · exact hc
    · simp [hc])
  refine ⟨(fieldErr_ok _ _).2 ⟨by omega, by omega, no_zero hB, by have := hs.2.2.2.1; omega⟩, (fieldErr_ok _ _).2 ⟨by omega, by omega, no_zero hA, by have := hs.2.2.1; omega⟩, ?_⟩
  have h8 : (8 : Nat) ^ 11 = 8589934592 := by decide
  rw [putErr_ok, show (12 : Int).toNat - 1 = 11 from rfl, h8]; omega
/-- What Get answers. -/
def rawPath (b : List UInt8) : List UInt8 := joinT (nameT ((b.take 500).drop 345)) (nameT (b.take 100))
def rawErr (b : List UInt8) : Int := joinErr (nameT ((b.take 500).drop 345)) (nameT (b.take 100))
def rawSize (b : List UInt8) : Int := getN ((b.take 136).drop 124)
def isHdr (b : List UInt8) : Bool := rawErr b == 0 && (putHErr (rawPath b) (rawSize b) == 0 && putH (rawPath b) (rawSize b) == b)
def getHErr (b : List UInt8) : Int := if b.length < 512 then 3 else if isHdr b then 0 else 2
def getHPath (b : List UInt8) : List UInt8 := if getHErr b = 0 then rawPath b else []
def getHSize (b : List UInt8) : Int := if getHErr b = 0 then rawSize b else 0
theorem putH_len {p : List UInt8} {n : Int} (h : putHErr p n = 0) : (putH p n).length = 512 := by rw [putH, if_pos h, hdrL_len (fit_of h)]
theorem isHdr_of {b : List UInt8} (h : isHdr b = true) : rawErr b = 0 ∧ putHErr (rawPath b) (rawSize b) = 0 ∧ putH (rawPath b) (rawSize b) = b := by
  simp only [isHdr, Bool.and_eq_true, beq_iff_eq] at h; exact h
theorem getHErr_zero {b : List UInt8} : getHErr b = 0 ↔ isHdr b = true := by
  unfold getHErr
  by_cases h : b.length < 512
  · rw [if_pos h]
    refine ⟨fun e => (by cases e), fun e => ?_⟩
    obtain ⟨_, h2, h3⟩ := isHdr_of e
    rw [← h3, putH_len h2] at h; omega
  · rw [if_neg h]; split
    · rename_i h1; exact ⟨fun _ => h1, fun _ => rfl⟩
    · rename_i h1; exact ⟨fun e => (by cases e), fun e => absurd e h1⟩
theorem getHErr_cases (b : List UInt8) : getHErr b = 0 ∨ getHErr b = 2 ∨ getHErr b = 3 := by
  unfold getHErr; split
  · exact .inr (.inr rfl)
  · split
    · exact .inl rfl
    · exact .inr (.inl rfl)
theorem raw_put {p : List UInt8} {n : Int} (h : putHErr p n = 0) : rawPath (putH p n) = p ∧ rawErr (putH p n) = 0 ∧ rawSize (putH p n) = n := by
  have hf := fit_of h
  obtain ⟨hr, -, -⟩ := (putHErr_ok p n).1 h
  obtain ⟨j1, j2⟩ := join_split hr
  rw [putH, if_pos h]
  refine ⟨?_, ?_, ?_⟩
  · rw [rawPath, hdr_pre hf, hdr_name hf, (name_field _ 155 hf.2.1).1, (name_field _ 100 hf.1).1]; exact j1
  · rw [rawErr, hdr_pre hf, hdr_name hf, (name_field _ 155 hf.2.1).1, (name_field _ 100 hf.1).1]; exact j2
  · rw [rawSize, hdr_size hf, (get_put n 12 hf.2.2).1]
/-- What was put is got. -/
theorem get_putH {p : List UInt8} {n : Int} (h : putHErr p n = 0) : getHErr (putH p n) = 0 ∧ getHPath (putH p n) = p ∧ getHSize (putH p n) = n := by
  obtain ⟨r1, r2, r3⟩ := raw_put h
  have hi : isHdr (putH p n) = true := by
    simp only [isHdr, Bool.and_eq_true, beq_iff_eq, r1, r2, r3]
    exact ⟨trivial, h, trivial⟩
  have h0 := getHErr_zero.2 hi
  rw [getHPath, getHSize, if_pos h0, if_pos h0, r1, r3]
  exact ⟨h0, rfl, rfl⟩
/-- What is got is put as it stood. -/
theorem put_getH {b : List UInt8} (h : getHErr b = 0) : putHErr (getHPath b) (getHSize b) = 0 ∧ putH (getHPath b) (getHSize b) = b := by
  obtain ⟨-, h2, h3⟩ := isHdr_of (getHErr_zero.1 h)
  rw [getHPath, getHSize, if_pos h, if_pos h]
  exact ⟨h2, h3⟩
theorem getH_bad {b : List UInt8} (h : getHErr b ≠ 0) : getHPath b = [] ∧ getHSize b = 0 := by
  rw [getHPath, getHSize, if_neg h, if_neg h]; exact ⟨rfl, rfl⟩
theorem getH_len {b : List UInt8} (h : getHErr b = 0) : b.length = 512 := by
  obtain ⟨h1, h2⟩ := put_getH h
  rw [← h2, putH_len h1]
/-- No byte of a header may be another one. -/
theorem turned {p : List UInt8} {n : Int} {x : List UInt8} (hl : x.length = 512) (hx : x ≠ putH p n) : getHErr x = 2 ∨ (getHErr x = 0 ∧ (getHPath x ≠ p ∨ getHSize x ≠ n)) := by
  rcases getHErr_cases x with h0 | h2 | h3
  · refine .inr ⟨h0, ?_⟩
    by_cases h1 : getHPath x = p
    · refine .inr fun h2 => hx ?_
      rw [← (put_getH h0).2, h1, h2]
    · exact .inl h1
  · exact .inl h2
  · unfold getHErr at h3; rw [if_neg (by omega)] at h3; split at h3 <;> cases h3
theorem longer {x : List UInt8} (h : 512 < x.length) : getHErr x = 2 := by
  rcases getHErr_cases x with h0 | h2 | h3
  · have := getH_len h0; omega
  · exact h2
  · unfold getHErr at h3; rw [if_neg (by omega)] at h3; split at h3 <;> cases h3
theorem shorter {x : List UInt8} (h : x.length < 512) : getHErr x = 3 := by unfold getHErr; rw [if_pos h]
/-- One byte alone that is one more breaks a header. -/
theorem one_more {p : List UInt8} {n : Int} (h : putHErr p n = 0) {k : Nat} (hk : k < 512) {d : UInt8} (hd : d ≠ (putH p n).getD k 0) : getHErr ((putH p n).set k d) = 2 := by
  have hl := putH_len h
  have hl' : ((putH p n).set k d).length = 512 := by rw [List.length_set, hl]
  rcases getHErr_cases ((putH p n).set k d) with h0 | h2 | h3
  · exfalso
    obtain ⟨q1, q2⟩ := put_getH h0
    generalize getHPath ((putH p n).set k d) = p' at q1 q2
    generalize getHSize ((putH p n).set k d) = n' at q1 q2
    have f := fit_of h
    have f' := fit_of q1
    have e : putH p n = hdrL (splitA p) (splitB p) n := by rw [putH, if_pos h]
    have e' : (putH p n).set k d = hdrL (splitA p') (splitB p') n' := by rw [← q2, putH, if_pos q1]
    have s := hdr_sum f
    have s' := hdr_sum f'
    have t := hdrL_sum f
    have t' := hdrL_sum f'
    have b := hdrS_lt f
    have b' := hdrS_lt f'
    rw [← e] at s t
    rw [← e'] at s' t'
    have hs := sum_set (putH p n) k d (by omega)
    by_cases hm : 148 ≤ k ∧ k ≤ 155
    · rw [if_pos hm, t, t'] at hs
      have e2 : hdrS (splitA p') (splitB p') n' = hdrS (splitA p) (splitB p) n := by omega
      rw [e2, ← s] at s'
      have g := congrArg (fun l : List UInt8 => l[k - 148]?) s'
      rw [List.getElem?_take, if_pos (by omega), List.getElem?_take, if_pos (by omega), List.getElem?_drop, List.getElem?_drop, show 148 + (k - 148) = k from by omega, List.getElem?_set_self (by omega)] at g
      exact hd (by rw [List.getD_eq_getElem?_getD, ← g]; rfl)
    · rw [if_neg hm, t, t'] at hs
      have e3 : ((((putH p n).set k d).drop 148).take 8) = (((putH p n).drop 148).take 8) := by
        apply List.ext_getElem?
        intro i
        rw [List.getElem?_take, List.getElem?_take]
        split
        · rw [List.getElem?_drop, List.getElem?_drop, List.getElem?_set_ne (by omega)]
        · rfl
      rw [e3, s] at s'
      have := sumB_inj b b' s'
      have h1 : (d.toNat : Int) = ((putH p n).getD k 0).toNat := by omega
      exact hd (UInt8.toNat_inj.1 (by omega))
  · exact h2
  · unfold getHErr at h3; rw [if_neg (by omega)] at h3; split at h3 <;> cases h3
/-- Headers are alike just if their paths and sizes are. -/
theorem putH_inj {p q : List UInt8} {n m : Int} (h : putHErr p n = 0) (h' : putHErr q m = 0) : (putH p n = putH q m) ↔ (p = q ∧ n = m) := by
  constructor
  · intro e
    have a := get_putH h
    have b := get_putH h'
    rw [e] at a
    exact ⟨a.2.1.symm.trans b.2.1, a.2.2.symm.trans b.2.2⟩
  · rintro ⟨rfl, rfl⟩; rfl
/-- A size up to whole blocks. -/
def roundZ (z : Int) : Int := if z ≤ 0 then 0 else (z + 511) / 512 * 512
end Go.Proofs.YtbjekhhefepnlaaDoor
