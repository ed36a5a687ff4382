/-
What the document's own answers for layer 5 return: Check and Name.
-/
import Derived.Test.YtpgimgfoifgkfaaOctal
import Derived.Test.YtpgimgfoifgkfaaProg
import Derived.StillTailTactics
import Derived.WalkKit
import Derived.Lib.Hide
import Derived.Deep.RegionWith
import Derived.WalkLawsBesides
namespace Go.Proofs.Ytpgimgfoifgkfaa
open Go.RowKit
/-- A byte of a text in memory. -/
theorem text_at {w : World} {ao : Option Addr} {n cap : Nat} {l : List UInt8} (h : HasText w (.slice ao n cap) l) (k : Nat) (hk : k < l.length) : ∃ ad c, ao = some ad ∧ l[k]? = some c ∧ l.getD k 0 = c ∧ w.cell? (ad.add k) = some (.int .u8 (c.toNat : Int)) := by
  obtain ⟨ao', cap', e, hnil, hc⟩ := h
  cases e
  cases ao with
  | none => obtain ⟨hl, _⟩ := hnil rfl; simp at hl; subst hl; simp at hk
  | some ad =>
    refine ⟨ad, l[k], rfl, by simp [hk], by simp [hk], (hc ad rfl).2 k _ ?_⟩
    rw [bytesL_map]; simp [hk]
theorem wrap_sum (a b : Int) : IntKind.i64.wrap (IntKind.i64.wrap a + b) = IntKind.i64.wrap (a + b) := by
  rw [IntKind.wrap_i64, IntKind.wrap_i64, IntKind.wrap_i64]
  generalize (18446744073709551616 : Int) = M
  generalize (9223372036854775808 : Int) = H
  rw [show (a + H) % M - H + b + H = (a + H) % M + b from by omega, Int.emod_add_emod]
  congr 2
  omega
/-- What stands ahead of the first byte 0. -/
theorem head_split (b : List UInt8) (k : Nat) (hk : k ≤ b.length) (h1 : ∀ j, j < k → b.getD j 0 ≠ 0) (h2 : k < b.length → b.getD k 0 = 0) : headL b = b.take k ∧ b.dropWhile (· != 0) = b.drop k := by
  induction k generalizing b with
  | zero =>
    cases b with
    | nil => exact ⟨rfl, rfl⟩
    | cons a b =>
      have : a = 0 := h2 (by simp)
      subst this
      exact ⟨rfl, rfl⟩
  | succ k ih =>
    cases b with
    | nil => simp at hk
    | cons a b =>
      have ha : (a != 0) = true := by have := h1 0 (by omega); simpa using this
      obtain ⟨i1, i2⟩ := ih b (by simpa using hk) (fun j hj => by have := h1 (j + 1) (by omega); simpa using this) (fun h => by have := h2 (by simpa using h); simpa using this)
      unfold headL at i1 ⊢
      rw [List.takeWhile_cons, if_pos ha, List.dropWhile_cons, if_pos ha, i1, i2]
      exact ⟨rfl, rfl⟩
theorem isName_of (b : List UInt8) (k : Nat) (hk : k ≤ b.length) (h1 : ∀ j, j < k → b.getD j 0 ≠ 0) (h2 : k < b.length → b.getD k 0 = 0) (h3 : ∀ j, k ≤ j → j < b.length → b.getD j 0 = 0) : nameT b = b.take k ∧ nameErr b = 0 := by
  obtain ⟨e1, e2⟩ := head_split b k hk h1 h2
  have : isName b = true := by
    rw [isName, e2, List.all_eq_true]
    intro c hc
    obtain ⟨j, hj, rfl⟩ := List.mem_iff_getElem.1 hc
    rw [List.length_drop] at hj
    have := h3 (k + j) (by omega) (by omega)
    rw [List.getD_eq_getElem?_getD, List.getElem?_eq_getElem (by omega), Option.getD_some] at this
    simp [List.getElem_drop, this]
  rw [nameT, nameErr, if_pos this, if_pos this, e1]
  exact ⟨rfl, rfl⟩
theorem isName_bad (b : List UInt8) (k i : Nat) (hk : k ≤ i) (hi : i < b.length) (h1 : ∀ j, j < k → b.getD j 0 ≠ 0) (h2 : k < b.length → b.getD k 0 = 0) (h3 : b.getD i 0 ≠ 0) : nameT b = [] ∧ nameErr b = 2 := by
  obtain ⟨e1, e2⟩ := head_split b k (by omega) h1 h2
  have : isName b = false := by
    rw [isName, e2, Bool.eq_false_iff, ne_eq, List.all_eq_true]
    intro h
    rw [List.getD_eq_getElem?_getD, List.getElem?_eq_getElem hi, Option.getD_some] at h3
    have hm : b[i] ∈ b.drop k := List.mem_iff_getElem.2 ⟨i - k, by rw [List.length_drop]; omega, by rw [List.getElem_drop]; congr 1; omega⟩
    have := h _ hm
    simp at this
    exact h3 this
  rw [nameT, nameErr, this]
  exact ⟨rfl, rfl⟩
theorem text_take {w : World} {ao : Option Addr} {n cap : Nat} {l : List UInt8} (h : HasText w (.slice ao n cap) l) (k : Nat) (hk : k ≤ l.length) : HasText w (.slice ao k cap) (l.take k) := by
  obtain ⟨ao', cap', e, hnil, hc⟩ := h
  cases e
  have hl : ((l.take k).map w8).length = k := by rw [List.length_map, List.length_take]; omega
  refine ⟨ao, cap, by rw [hl], fun h => ?_, fun ad had => ⟨?_, fun j u hu => (hc ad had).2 j u ?_⟩⟩
  · obtain ⟨h1, h2⟩ := hnil h
    simp at h1; subst h1; exact ⟨by simp, h2⟩
  · have := (hc ad had).1
    rw [List.length_map] at this; omega
  · rw [bytesL_map] at hu ⊢
    rw [List.getElem?_map, List.getElem?_take] at hu
    rw [List.getElem?_map]
    split at hu
    · exact hu
    · cases hu
theorem text_cap {w : World} {ao : Option Addr} {n cap : Nat} {l : List UInt8} (h : HasText w (.slice ao n cap) l) : n = l.length ∧ n ≤ cap := by
  obtain ⟨ao', cap', e, hnil, hc⟩ := h
  cases e
  cases ao with
  | none => obtain ⟨h1, h2⟩ := hnil rfl; simp at h1; subst h1; exact ⟨rfl, by simp⟩
  | some ad => exact ⟨by rw [List.length_map], (hc ad rfl).1⟩
end Go.Proofs.Ytpgimgfoifgkfaa
