/-
Texts that all claims of this seat share, part 12: SortSym, SortAll, PathSplit, PathCode, ViewAlive, ViewSearch, ViewIsDir, ViewCode, Deeds.
-/
import Derived.BigQuiet
import Derived.Deep.QuietTactic
import Derived.Lib.IndexLaws
import Derived.Test.YtppmbdpfledejaaGreatDoorShelf
import Derived.RangeFuncNested
import Derived.RangeFuncBound
import Derived.RangeFuncCalls
import Derived.RangeFuncLeaves
import Derived.RangeFuncFrom
import Derived.Shelf.Abstract
import Derived.Shelf.RegionOpen
import Derived.WalkKit
import Derived.OwnWalkIn
import Derived.TacticsInMore
import Derived.LoopNIn
import Derived.LoopIn
import Derived.Maps.AppendAt
import Derived.WideMake
import Derived.Test.YtppmbdpfledejaaGreatDoorIter
import Derived.Test.YtppmbdpfledejaaGreatDoorPk11
namespace Go.Proofs.YtppmbdpfledejaaGreatDoor
open Go.RowKit
set_option maxRecDepth 100000 in
set_option maxHeartbeats 16000000 in
theorem symSh_any (F : FuncId) (hF : CmpF F) (n cap g B : Nat) (hn5 : n ≤ 50000) : ∀ (k : Nat) (P X Y Q : List Sh) (a m b : Nat), X.length + Y.length ≤ k → 0 < X.length → 0 < Y.length → SortedK Sh.path X → SortedK Sh.path Y → a = P.length → m = P.length + X.length → b = P.length + X.length + Y.length → ∀ w, w.ownsRow B 33 36 (.slice (some ⟨g, 0, none⟩) n cap) n (shsC (P ++ (X ++ (Y ++ Q)))) →
    Calls Tryz.prog 105 #[(.slice (some ⟨g, 0, none⟩) n cap), .int .i64 (a : Int), .int .i64 (m : Int), .int .i64 (b : Int), .func (.func F) #[] #[]] w fun x w' => x = .returned (.tuple #[]) ∧ ∃ S, StableK Sh.path (X ++ Y) S ∧ w'.ownsRow B 33 36 (.slice (some ⟨g, 0, none⟩) n cap) n (shsC (P ++ S ++ Q)) ∧ Below B w w'
  | 0, P, X, Y, Q, a, m, b, hk, hX, hY, sX, sY, ha, hm, hb, w, hw => by omega
  | k + 1, P, X, Y, Q, a, m, b, hk, hX, hY, sX, sY, ha, hm, hb, w, hw => by
    by_cases h1 : X.length = 1
    · obtain ⟨z, rfl⟩ := List.length_eq_one_iff.1 h1
      exact symA_any F hF P z Y Q a m b n cap g B hY sY ha hm hb hn5 w hw
    · by_cases h2 : Y.length = 1
      · obtain ⟨z, rfl⟩ := List.length_eq_one_iff.1 h2
        exact symB_any F hF P X z Q a m b n cap g B (by omega) sX ha hm hb hn5 w hw
      · have IH : ∀ (P' X' Y' Q' : List Sh) (a' m' b' : Nat), X'.length + Y'.length < X.length + Y.length → 0 < X'.length → 0 < Y'.length → SortedK Sh.path X' → SortedK Sh.path Y' → a' = P'.length → m' = P'.length + X'.length → b' = P'.length + X'.length + Y'.length → ∀ w, w.ownsRow B 33 36 (.slice (some ⟨g, 0, none⟩) n cap) n (shsC (P' ++ (X' ++ (Y' ++ Q')))) →
            Calls Tryz.prog 105 #[(.slice (some ⟨g, 0, none⟩) n cap), .int .i64 (a' : Int), .int .i64 (m' : Int), .int .i64 (b' : Int), .func (.func F) #[] #[]] w fun x w' => x = .returned (.tuple #[]) ∧ ∃ S, StableK Sh.path (X' ++ Y') S ∧ w'.ownsRow B 33 36 (.slice (some ⟨g, 0, none⟩) n cap) n (shsC (P' ++ S ++ Q')) ∧ Below B w w' := (fun P' X' Y' Q' a' m' b' hlt h1 h2 h3 h4 h5 h6 h7 w hw => symSh_any F hF n cap g B hn5 k P' X' Y' Q' a' m' b' (by omega) h1 h2 h3 h4 h5 h6 h7 w hw)
        by_cases hmid : (a + b) / 2 < m
        · exact symC1_any F hF P X Y Q a m b n cap g B (by omega) (by omega) sX sY ha hm hb hn5 IH hmid w hw
        · exact symC2_any F hF P X Y Q a m b n cap g B (by omega) (by omega) sX sY ha hm hb hn5 IH hmid w hw
end Go.Proofs.YtppmbdpfledejaaGreatDoor
namespace Go.Proofs.YtppmbdpfledejaaGreatDoor
open Go.RowKit
/-- Sorted block by block of k, alike in turn. -/
def BlockK (k : Nat) (l S : List Sh) : Prop := S.length = l.length ∧ (∀ p, fltK Sh.path S p = fltK Sh.path l p) ∧ ∀ j, SortedK Sh.path ((S.drop (j * k)).take k)
theorem block_all {k : Nat} {l S : List Sh} (h : BlockK k l S) (hk : l.length ≤ k) : StableK Sh.path l S := by
  refine ⟨?_, h.2.1, h.1⟩
  have := h.2.2 0
  rwa [Nat.zero_mul, List.drop_zero, List.take_of_length_le (by rw [h.1]; exact hk)] at this
/-- Of blocks of k the first ones, up to a, are merged to blocks of twice that. -/
structure MergeK (k a : Nat) (l S : List Sh) : Prop where
  len : S.length = l.length
  flt : ∀ p, fltK Sh.path S p = fltK Sh.path l p
  lo : ∀ j, (j + 1) * (2 * k) ≤ a → SortedK Sh.path ((S.drop (j * (2 * k))).take (2 * k))
  hi : ∀ j, a ≤ j * k → SortedK Sh.path ((S.drop (j * k)).take k)
theorem merge_start {k : Nat} {l S : List Sh} (h : BlockK k l S) (hk : 0 < k) : MergeK k 0 l S where
  len := h.1
  flt := h.2.1
  lo := fun j hj => by
    exfalso
    have : 0 < (j + 1) * (2 * k) := Nat.mul_pos (by omega) (by omega)
    omega
  hi := fun j _ => h.2.2 j
/-- One merge: a part between A and C, of two sorted halves. -/
theorem merge_part {k t : Nat} {l S X Y M A C : List Sh} (h : MergeK k (t * (2 * k)) l S) (hk : 0 < k) (eS : S = A ++ (X ++ (Y ++ C))) (hA : A.length = t * (2 * k)) (hXY : X.length + Y.length = 2 * k ∨ (X.length + Y.length ≤ 2 * k ∧ C = [])) (hM : StableK Sh.path (X ++ Y) M) : MergeK k ((t + 1) * (2 * k)) l (A ++ M ++ C) where
  len := by
    rw [← h.len, eS]
    have := hM.2.2
    simp only [List.length_append] at this ⊢; omega
  flt := fun p => by
    rw [← h.flt p, eS]
    simp only [fltK_append]
    have := hM.2.1 p
    rw [fltK_append] at this
    rw [this]; simp only [List.append_assoc]
  lo := fun j hj => by
    have hl := hM.2.2
    rw [List.length_append] at hl
    rcases Nat.lt_or_ge j t with hjt | hjt
    · have hle : (j + 1) * (2 * k) ≤ t * (2 * k) := Nat.mul_le_mul_right _ hjt
      have h0 := h.lo j hle
      have e1 : ∀ D : List Sh, ((A ++ D).drop (j * (2 * k))).take (2 * k) = (A.drop (j * (2 * k))).take (2 * k) := fun D => by
        rw [Nat.add_mul, Nat.one_mul] at hle
        rw [List.drop_append_of_le_length (by omega), List.take_append_of_le_length (by rw [List.length_drop]; omega)]
      rw [eS, e1] at h0
      rw [List.append_assoc, e1]; exact h0
    · have hjt2 : j = t := by
        rcases Nat.lt_or_ge t j with h1 | h1
        · have : (t + 2) * (2 * k) ≤ (j + 1) * (2 * k) := Nat.mul_le_mul_right _ (by omega)
          have h2 : (t + 2) * (2 * k) = (t + 1) * (2 * k) + 2 * k := by rw [show t + 2 = (t + 1) + 1 from rfl, Nat.add_mul (t + 1) 1, Nat.one_mul]
          omega
        · omega
      subst hjt2
      rw [← hA, List.append_assoc, List.drop_left]
      rcases hXY with hXY | ⟨hXY, rfl⟩
      · rw [List.take_append_of_le_length (by omega), List.take_of_length_le (by omega)]; exact hM.1
      · rw [List.append_nil, List.take_of_length_le (by omega)]; exact hM.1
  hi := fun j hj => by
    have hl := hM.2.2
    rw [List.length_append] at hl
    have hj2 : t * (2 * k) ≤ j * k := Nat.le_trans (Nat.mul_le_mul_right _ (by omega)) hj
    have h0 := h.hi j hj2
    rcases hXY with hXY | ⟨hXY, rfl⟩
    · have e1 : ∀ D : List Sh, D.length = 2 * k → (A ++ (D ++ C)).drop (j * k) = C.drop (j * k - (t + 1) * (2 * k)) := fun D hD => by
        have : (t + 1) * (2 * k) = t * (2 * k) + 2 * k := by rw [Nat.add_mul, Nat.one_mul]
        rw [← List.append_assoc, List.drop_append, List.drop_of_length_le (by rw [List.length_append]; omega), List.nil_append, List.length_append, hA, hD, this]
      rw [eS, ← List.append_assoc X, e1 (X ++ Y) (by rw [List.length_append]; exact hXY)] at h0
      rw [List.append_assoc, e1 M (by omega)]; exact h0
    · rw [List.append_nil, List.drop_of_length_le (by
        have : (t + 1) * (2 * k) = t * (2 * k) + 2 * k := by rw [Nat.add_mul, Nat.one_mul]
        rw [List.length_append]; omega), List.take_nil]
      exact List.Pairwise.nil
/-- Nothing is left to merge. -/
theorem merge_end {k t : Nat} {l S : List Sh} (h : MergeK k (t * (2 * k)) l S) (hn : l.length ≤ t * (2 * k) + k) : BlockK (2 * k) l S := by
  refine ⟨h.len, h.flt, fun j => ?_⟩
  rcases Nat.lt_or_ge j t with hj | hj
  · exact h.lo j (Nat.mul_le_mul_right _ hj)
  · rcases Nat.lt_or_ge t j with h1 | h1
    · have : (t + 1) * (2 * k) ≤ j * (2 * k) := Nat.mul_le_mul_right _ h1
      rw [Nat.add_mul, Nat.one_mul] at this
      rw [List.drop_of_length_le (by rw [h.len]; omega), List.take_nil]; exact List.Pairwise.nil
    · obtain rfl : j = t := by omega
      have h0 := h.hi (j * 2) (by rw [Nat.mul_assoc]; exact Nat.le_refl _)
      rw [Nat.mul_assoc] at h0
      have hl : (S.drop (j * (2 * k))).length ≤ k := by rw [List.length_drop, h.len]; omega
      rw [List.take_of_length_le hl] at h0
      rw [List.take_of_length_le (by omega)]; exact h0
/-- Blocks of twenty, sorted one behind the other. -/
structure FrontK (k a : Nat) (l S : List Sh) : Prop where
  len : S.length = l.length
  flt : ∀ p, fltK Sh.path S p = fltK Sh.path l p
  lo : ∀ j, (j + 1) * k ≤ a → SortedK Sh.path ((S.drop (j * k)).take k)
theorem front_start (k : Nat) (hk : 0 < k) (l : List Sh) : FrontK k 0 l l := ⟨rfl, fun _ => rfl, fun j hj => by
  exfalso
  have : 0 < (j + 1) * k := Nat.mul_pos (by omega) hk
  omega⟩
theorem front_step {k t b : Nat} {l S M : List Sh} (h : FrontK k (t * k) l S) (hk : 0 < k) (htb : t * k ≤ b) (hb : b ≤ S.length) (hbk : b = (t + 1) * k ∨ (b < (t + 1) * k ∧ b = S.length)) (hM : StableK Sh.path ((S.take b).drop (t * k)) M) : FrontK k ((t + 1) * k) l (S.take (t * k) ++ M ++ S.drop b) := by
  have e0 : (t + 1) * k = t * k + k := by rw [Nat.add_mul, Nat.one_mul]
  have hl := hM.2.2
  rw [List.length_drop, List.length_take, Nat.min_eq_left hb] at hl
  have eS : S = S.take (t * k) ++ ((S.take b).drop (t * k) ++ S.drop b) := by
    rw [← List.append_assoc]
    have : S.take (t * k) = (S.take b).take (t * k) := by rw [List.take_take, Nat.min_eq_left htb]
    rw [this, List.take_append_drop, List.take_append_drop]
  have hA : (S.take (t * k)).length = t * k := by rw [List.length_take]; omega
  refine ⟨?_, fun p => ?_, fun j hj => ?_⟩
  · rw [← h.len]; simp only [List.length_append, hA, List.length_drop]; omega
  · rw [← h.flt p]
    conv => rhs; rw [eS]
    simp only [fltK_append]
    rw [hM.2.1 p]; simp only [List.append_assoc]
  · rcases Nat.lt_or_ge j t with hjt | hjt
    · have hle : (j + 1) * k ≤ t * k := Nat.mul_le_mul_right _ hjt
      have h0 := h.lo j hle
      have e1 : ∀ D : List Sh, ((S.take (t * k) ++ D).drop (j * k)).take k = ((S.take (t * k)).drop (j * k)).take k := fun D => by
        rw [Nat.add_mul, Nat.one_mul] at hle
        rw [List.drop_append_of_le_length (by omega), List.take_append_of_le_length (by rw [List.length_drop]; omega)]
      rw [eS, e1] at h0
      rw [List.append_assoc, e1]; exact h0
    · have hjt2 : j = t := by
        rcases Nat.lt_or_ge t j with h1 | h1
        · have : (t + 2) * k ≤ (j + 1) * k := Nat.mul_le_mul_right _ (by omega)
          have h2 : (t + 2) * k = (t + 1) * k + k := by rw [show t + 2 = (t + 1) + 1 from rfl, Nat.add_mul (t + 1) 1, Nat.one_mul]
          omega
        · omega
      subst hjt2
      have e3 : (S.take (j * k) ++ M ++ S.drop b).drop (j * k) = M ++ S.drop b := by
        conv => lhs; rw [List.append_assoc]; arg 1; rw [← hA]
        rw [List.drop_left]
      rw [e3]
      rcases hbk with hbk | ⟨hbk, hbs⟩
      · rw [List.take_append_of_le_length (by omega), List.take_of_length_le (by omega)]; exact hM.1
      · rw [hbs, List.drop_length, List.append_nil, List.take_of_length_le (by omega)]; exact hM.1
theorem front_end {k t : Nat} {l S : List Sh} (h : FrontK k (t * k) l S) (hn : l.length ≤ t * k) : BlockK k l S := by
  refine ⟨h.len, h.flt, fun j => ?_⟩
  rcases Nat.lt_or_ge j t with hj | hj
  · exact h.lo j (Nat.mul_le_mul_right _ hj)
  · have : t * k ≤ j * k := Nat.mul_le_mul_right _ hj
    rw [List.drop_of_length_le (by rw [h.len]; omega), List.take_nil]; exact List.Pairwise.nil
theorem split2 (S : List Sh) (a k : Nat) : S.drop a = (S.drop a).take k ++ S.drop (a + k) := by
  have h := (List.take_append_drop k (S.drop a)).symm
  rwa [List.drop_drop] at h
theorem split4 (S : List Sh) (a k : Nat) : S = S.take a ++ ((S.drop a).take k ++ ((S.drop (a + k)).take k ++ S.drop (a + k + k))) := by
  rw [← split2 S (a + k) k, ← split2 S a k, List.take_append_drop]
theorem split5 (S : List Sh) (a k : Nat) : S = S.take a ++ ((S.drop a).take k ++ (S.drop (a + k) ++ [])) := by
  rw [List.append_nil, ← split2 S a k, List.take_append_drop]
theorem big_nums (k n : Nat) (hk : k < n) (hn : n ≤ 20000) : ∃ e : Nat, e = 2 * k ∧ 2 * (k : Int) = (e : Int) ∧ (k : Int) * 2 = (e : Int) ∧ IntKind.i64.wrap (e : Int) = (e : Int) := ⟨2 * k, rfl, by omega, by omega, by rw [IntKind.wrap_i64]; omega⟩
theorem add_nums (a k : Nat) (h : a + k ≤ 200000) : ∃ m : Nat, m = a + k ∧ (a : Int) + (k : Int) = (m : Int) ∧ IntKind.i64.wrap (m : Int) = (m : Int) := ⟨a + k, rfl, by omega, by rw [IntKind.wrap_i64]; omega⟩
set_option linter.unusedSimpArgs false in
set_option maxRecDepth 100000 in
set_option maxHeartbeats 16000000 in
theorem stableSh_any (F : FuncId) (hF : CmpF F) (l : List Sh) (n cap g B : Nat) (hn : n = l.length) (hn5 : n ≤ 20000) (w : World) (hw : w.ownsRow B 33 36 (.slice (some ⟨g, 0, none⟩) n cap) n (shsC l)) :
    Calls Tryz.prog 73 #[(.slice (some ⟨g, 0, none⟩) n cap), .int .i64 (n : Int), .func (.func F) #[] #[]] w fun x w' => x = .returned (.tuple #[]) ∧ ∃ S, StableK Sh.path l S ∧ w'.ownsRow B 33 36 (.slice (some ⟨g, 0, none⟩) n cap) n (shsC S) ∧ Below B w w' := by
  have HN := Lib.hid hn
  have HW := Lib.hid hw
  have INS := Lib.hid (fun l' a b hn' hab hbn w hw => insertSh_any F hF l' a b n cap g B hn' (by omega) hab hbn w hw)
  have SYMA := Lib.hid (fun P X Y Q a m b => symSh_any F hF n cap g B (by omega) (X.length + Y.length) P X Y Q a m b (Nat.le_refl _))
  clear hn hw hF
  go_enter Tryz.func73, Tryz.ntmps73
  go_wp2
  go_loopw [7, 8] (fun c d wr => ∃ (t : Nat) (S : List Sh), c = .int .i64 ((t * 20 : Nat) : Int) ∧ d = .int .i64 ((t * 20 + 20 : Nat) : Int) ∧ t * 20 ≤ n ∧ FrontK 20 (t * 20) l S ∧ wr.ownsRow B 33 36 (.slice (some ⟨g, 0, none⟩) n cap) n (shsC S) ∧ Below B w wr) (fun c _ _ => n - (intOf c).toNat)
  case atStart => exact ⟨0, l, rfl, rfl, by omega, by have h := front_start 20 (by omega) l; simpa using h, HW.out, Below.refl _ _⟩
  case round =>
    obtain ⟨t, S, rfl, rfl, htn, hfr, ho, hb⟩ := hrel
    have HFR := Lib.hid hfr
    have HO := Lib.hid ho
    have HB := Lib.hid hb
    have HSL := Lib.hid (show n = S.length by rw [hfr.len]; exact HN.out)
    clear hfr ho hb
    obtain ⟨a, ha⟩ : ∃ a, a = t * 20 := ⟨_, rfl⟩
    obtain ⟨b, hb⟩ : ∃ b, b = t * 20 + 20 := ⟨_, rfl⟩
    rw [← hb, ← ha]
    rw [← ha] at htn hb HFR
    have HA := Lib.hid ha
    have HBB := Lib.hid hb
    have HTN := Lib.hid htn
    generalize wr = w1 at *
    by_cases hbn : b ≤ n
    · have q1 : (b : Int) ≤ (n : Int) := by omega
      have q2 : IntKind.i64.wrap ((b : Int) + 20) = ((b + 20 : Nat) : Int) := by rw [IntKind.wrap_i64]; omega
      have IN := Lib.hid (INS.out S a b HSL.out (by omega) (by omega) _ HO.out)
      have hb5 : b ≤ 20000 := by omega
      have HBN := Lib.hid hbn
      clear ha hb hbn htn
      go_wp2_with (first
        | (go_at_call 104; refine IN.out.mono ?_; rintro x w2 ⟨rfl, M, h1, h2, h3⟩; have HM := Lib.hid h1; have HO2 := Lib.hid h2; have HB2 := Lib.hid (HB.out.trans h3); clear h1 h2 h3))
      go_roundw
      case rel =>
        have e1 : (t + 1) * 20 = b := by have := HA.out; have := HBB.out; omega
        have FS := front_step (k := 20) (t := t) (b := b) (l := l) (S := S) (M := M) (by rw [← HA.out]; exact HFR.out) (by omega) (by rw [← HA.out]; have := HBB.out; omega) (by rw [← HSL.out]; exact HBN.out) (.inl e1.symm) (by rw [← HA.out]; exact HM.out)
        rw [← HA.out] at FS
        exact ⟨t + 1, _, by rw [e1], by rw [e1]; go_num, by rw [e1]; exact HBN.out, FS, HO2.out, HB2.out⟩
      case measure => have := HBB.out; have := HBN.out; simp [intOf] <;> omega
    · have q1 : ¬ (b : Int) ≤ (n : Int) := by omega
      have IN := Lib.hid (INS.out S a n HSL.out htn (Nat.le_refl _) _ HO.out)
      have HBN := Lib.hid hbn
      clear ha hb hbn htn
      go_wp2_with (first
        | (go_at_call 104; refine IN.out.mono ?_; rintro x w2 ⟨rfl, M, h1, h2, h3⟩; have HM := Lib.hid h1; have HO2 := Lib.hid h2; have HB2 := Lib.hid (HB.out.trans h3); clear h1 h2 h3))
      have HBK := Lib.hid (show BlockK 20 l (S.take a ++ M ++ S.drop n) by
        have FS := front_step (k := 20) (t := t) (b := n) (l := l) (S := S) (M := M) (by rw [← HA.out]; exact HFR.out) (by omega) (by rw [← HA.out]; exact HTN.out) (Nat.le_of_eq HSL.out) (.inr ⟨by have := HA.out; have := HBB.out; have := HBN.out; omega, HSL.out⟩) (by rw [← HA.out]; exact HM.out)
        rw [← HA.out] at FS
        exact front_end FS (by have := HA.out; have := HBB.out; have := HBN.out; have := HN.out; omega))
      generalize S.take a ++ M ++ S.drop n = S2 at *
      clear HFR HO HSL HA HBB HTN HBN HM IN HB q1
      rename_i w2
      go_loopw [6] (fun c wr => ∃ (k : Nat) (S : List Sh), c = .int .i64 (k : Int) ∧ 20 ≤ k ∧ k ≤ 40000 ∧ BlockK k l S ∧ wr.ownsRow B 33 36 (.slice (some ⟨g, 0, none⟩) n cap) n (shsC S) ∧ Below B w wr) (fun c _ => 40000 - (intOf c).toNat)
      case atStart => exact ⟨20, S2, rfl, Nat.le_refl _, by omega, HBK.out, HO2.out, HB2.out⟩
      case round =>
        clear HBK HO2 HB2
        obtain ⟨k, S, rfl, hk20, hk4, hbk, ho, hb⟩ := hrel
        have HK := Lib.hid hbk
        have HO := Lib.hid ho
        have HB := Lib.hid hb
        clear hbk ho hb
        by_cases hkn : k < n
        · have q1 : (k : Int) < (n : Int) := by omega
          obtain ⟨e, he, u1, u2, u3⟩ := big_nums k n hkn hn5
          have HE := Lib.hid he
          have MS := Lib.hid (merge_start HK.out (by omega))
          clear he
          generalize wr = w3 at *
          go_wp2
          go_loopw [7, 8] (fun c d wr => ∃ (t : Nat) (S : List Sh), c = .int .i64 ((t * e : Nat) : Int) ∧ d = .int .i64 ((t * e + e : Nat) : Int) ∧ t * e ≤ n ∧ MergeK k (t * (2 * k)) l S ∧ wr.ownsRow B 33 36 (.slice (some ⟨g, 0, none⟩) n cap) n (shsC S) ∧ Below B w wr) (fun c _ _ => n - (intOf c).toNat)
          case atStart => exact ⟨0, S, by simp, by simp, by omega, by rw [Nat.zero_mul]; exact MS.out, HO.out, HB.out⟩
          case round =>
            clear MS HO HB HK S
            obtain ⟨t, S, rfl, rfl, htn, hmk, ho, hb⟩ := hrel
            have HMK := Lib.hid hmk
            have HO := Lib.hid ho
            have HB := Lib.hid hb
            have HSL := Lib.hid (show n = S.length by rw [hmk.len]; exact HN.out)
            clear hmk ho hb
            obtain ⟨a, ha⟩ : ∃ a, a = t * e := ⟨_, rfl⟩
            obtain ⟨b, hb⟩ : ∃ b, b = t * e + e := ⟨_, rfl⟩
            rw [← hb, ← ha]
            rw [← ha] at htn hb
            have he := HE.out
            have HA := Lib.hid (show a = t * (2 * k) by rw [ha, he])
            have HT2 := Lib.hid (show (2 * t) * k = a ∧ (2 * t + 1) * k = a + k by
              have h1 : (2 * t) * k = t * (2 * k) := by rw [Nat.mul_comm 2 t, Nat.mul_assoc]
              rw [Nat.add_mul, Nat.one_mul, h1, HA.out]; exact ⟨rfl, rfl⟩)
            have HE1 := Lib.hid (show (t + 1) * e = b by rw [Nat.add_mul, Nat.one_mul]; omega)
            have HBB := Lib.hid hb
            obtain ⟨m, hm, v1, v2⟩ := add_nums a k (by omega)
            obtain ⟨b2, hb2, v3, v4⟩ := add_nums b e (by omega)
            have HM := Lib.hid hm
            have HB22 := Lib.hid hb2
            have sX := HMK.out.hi (2 * t) (by rw [HT2.out.1, HA.out]; exact Nat.le_refl _)
            have sY := HMK.out.hi (2 * t + 1) (by rw [HT2.out.2, ← HA.out]; omega)
            rw [HT2.out.1] at sX
            rw [HT2.out.2] at sY
            generalize wr = w4 at *
            by_cases hbn : b ≤ n
            · have q2 : (b : Int) ≤ (n : Int) := by omega
              have hbe : a + k + k = b := by omega
              have hSl := HSL.out
              have eS := split4 S a k
              rw [hbe] at eS
              have SY := Lib.hid (SYMA.out (S.take a) ((S.drop a).take k) ((S.drop (a + k)).take k) (S.drop b) a m b (by rw [List.length_take, List.length_drop]; omega) (by rw [List.length_take, List.length_drop]; omega) sX sY (by rw [List.length_take]; omega) (by rw [List.length_take, List.length_take, List.length_drop]; omega) (by rw [List.length_take, List.length_take, List.length_take, List.length_drop, List.length_drop]; omega) w4 (by rw [← eS]; exact HO.out))
              have MP := Lib.hid (fun M h => merge_part (A := S.take a) (C := S.drop b) (M := M) HMK.out (by omega) eS (by rw [List.length_take, ← HA.out]; omega) (.inl (by rw [List.length_take, List.length_take, List.length_drop, List.length_drop]; omega)) h)
              have HBN := Lib.hid hbn
              clear ha hb hm hb2 hbn htn he hbe hSl eS sX sY
              go_wp2_with (first
                | (go_at_call 105; refine SY.out.mono ?_; rintro x w5 ⟨rfl, M, h1, h2, h3⟩; have HMM := Lib.hid h1; have HO2 := Lib.hid h2; have HB2 := Lib.hid (HB.out.trans h3); clear h1 h2 h3))
              go_roundw
              case rel => exact ⟨t + 1, _, by rw [HE1.out], by rw [HE1.out, ← HB22.out], by rw [HE1.out]; exact HBN.out, MP.out M HMM.out, HO2.out, HB2.out⟩
              case measure => have := HBB.out; have := HBN.out; have := HE.out; simp [intOf] <;> omega
            · have q2 : ¬ (b : Int) ≤ (n : Int) := by omega
              by_cases hmn : m < n
              · have q3 : (m : Int) < (n : Int) := by omega
                have hSl := HSL.out
                have eS := split5 S a k
                have sY2 : SortedK Sh.path (S.drop (a + k)) := by rwa [List.take_of_length_le (by rw [List.length_drop]; omega)] at sY
                have SY := Lib.hid (SYMA.out (S.take a) ((S.drop a).take k) (S.drop (a + k)) [] a m n (by rw [List.length_take, List.length_drop]; omega) (by rw [List.length_drop]; omega) sX sY2 (by rw [List.length_take]; omega) (by rw [List.length_take, List.length_take, List.length_drop]; omega) (by rw [List.length_take, List.length_take, List.length_drop, List.length_drop]; omega) w4 (by rw [← eS]; exact HO.out))
                have MP := Lib.hid (fun M h => merge_end (merge_part (A := S.take a) (C := []) (M := M) HMK.out (by omega) eS (by rw [List.length_take, ← HA.out]; omega) (.inr ⟨by rw [List.length_take, List.length_drop, List.length_drop]; omega, rfl⟩) h) (by have := HE1.out; have := HN.out; have h9 : (t + 1) * (2 * k) = (t + 1) * e := (by rw [he]); rw [h9]; omega))
                clear ha hb hm hb2 hmn htn he hSl eS sX sY sY2
                go_wp2_with (first
                  | (go_at_call 105; refine SY.out.mono ?_; rintro x w5 ⟨rfl, M, h1, h2, h3⟩; have HMM := Lib.hid h1; have HO2 := Lib.hid h2; have HB2 := Lib.hid (HB.out.trans h3); clear h1 h2 h3))
                go_roundw
                case rel => exact ⟨e, _, rfl, by have := HE.out; omega, by have := HE.out; omega, by have h := MP.out M HMM.out; rw [← HE.out] at h; exact h, HO2.out, HB2.out⟩
                case measure => have := HE.out; simp [intOf] <;> omega
              · have q3 : ¬ (m : Int) < (n : Int) := by omega
                have MP := Lib.hid (show BlockK (2 * k) l S from merge_end HMK.out (by rw [← HA.out]; have := HN.out; omega))
                clear ha hb hm hb2 hmn htn he sX sY
                go_wp2
                go_roundw
                case rel => exact ⟨e, _, rfl, by have := HE.out; omega, by have := HE.out; omega, by have h := MP.out; rw [← HE.out] at h; exact h, HO.out, HB.out⟩
                case measure => have := HE.out; simp [intOf] <;> omega
        · have q1 : ¬ (k : Int) < (n : Int) := by omega
          have HST := Lib.hid (block_all HK.out (by have := HN.out; omega))
          go_wp2
          refine bodyPost_end (results_none rfl _ _ _) rfl ?_
          exact ⟨rfl, S, HST.out, HO.out, HB.out⟩
set_option maxRecDepth 100000 in
set_option maxHeartbeats 16000000 in
theorem insNil_any (F : FuncId) (w : World) : Calls Tryz.prog 104 #[.slice none 0 0, .int .i64 0, .int .i64 0, .func (.func F) #[] #[]] w fun x w' => x = .returned (.tuple #[]) ∧ w' = w := by
  go_enter Tryz.func104, Tryz.ntmps104
  go_wp2
  go_loopw [8] (fun c wr => c = .int .i64 1 ∧ wr = w) (fun _ _ => 0)
  case atStart => exact ⟨rfl, rfl⟩
  case round =>
    obtain ⟨rfl, rfl⟩ := hrel
    go_wp2
    refine bodyPost_end (results_none rfl _ _ _) rfl ?_
    exact ⟨rfl, rfl⟩
set_option maxRecDepth 100000 in
set_option maxHeartbeats 16000000 in
theorem stableNil_any (F : FuncId) (w : World) : Calls Tryz.prog 73 #[.slice none 0 0, .int .i64 0, .func (.func F) #[] #[]] w fun x w' => x = .returned (.tuple #[]) ∧ w' = w := by
  have IN := Lib.hid (insNil_any F w)
  go_enter Tryz.func73, Tryz.ntmps73
  go_wp2
  go_loopw [7, 8] (fun c d wr => c = .int .i64 0 ∧ d = .int .i64 20 ∧ wr = w) (fun _ _ _ => 0)
  case atStart => exact ⟨rfl, rfl, rfl⟩
  case round =>
    obtain ⟨rfl, rfl, rfl⟩ := hrel
    go_wp2_with (first
      | (go_at_call 104; refine IN.out.mono ?_; rintro x w2 ⟨rfl, rfl⟩))
    go_loopw [6] (fun c wr => c = .int .i64 20 ∧ wr = w2) (fun _ _ => 0)
    case atStart => exact ⟨rfl, rfl⟩
    case round =>
      obtain ⟨rfl, rfl⟩ := hrel
      go_wp2
      refine bodyPost_end (results_none rfl _ _ _) rfl ?_
      exact ⟨rfl, rfl⟩
set_option maxRecDepth 100000 in
set_option maxHeartbeats 16000000 in
theorem sortSh_any (F : FuncId) (hF : CmpF F) (l : List Sh) (B : Nat) (hn5 : l.length ≤ 20000) (v : Value) (w : World) (hw : w.ownsRow B 33 36 v l.length (shsC l)) :
    Calls Tryz.prog 41 #[v, .func (.func F) #[] #[]] w fun x w' => x = .returned (.tuple #[]) ∧ ∃ S, StableK Sh.path l S ∧ w'.ownsRow B 33 36 v S.length (shsC S) ∧ Below B w w' := by
  obtain ⟨n, hn⟩ : ∃ n, n = l.length := ⟨_, rfl⟩
  rw [← hn] at hw hn5
  rcases hw.2 with ⟨rfl, h0⟩ | ⟨g, cap, cur, rfl, rest⟩
  · obtain rfl : l = [] := List.eq_nil_of_length_eq_zero (by omega)
    have SN := Lib.hid (stableNil_any F w)
    clear hw h0 hF hn hn5
    go_enter Tryz.func41, Tryz.ntmps41
    go_wp2_with (first
      | (go_at_call 73; refine SN.out.mono ?_; rintro x w2 ⟨rfl, rfl⟩))
    refine bodyPost_end (results_none rfl _ _ _) rfl ?_
    exact ⟨rfl, [], stable_nil, World.ownsRow_nil _ _ _ _, Below.refl _ _⟩
  · have ST := Lib.hid (stableSh_any F hF l n cap g B hn hn5 w hw)
    have HN := Lib.hid hn
    clear hw rest hF hn
    go_enter Tryz.func41, Tryz.ntmps41
    go_wp2_with (first
      | (go_at_call 73; refine ST.out.mono ?_; rintro x w2 ⟨rfl, S, h1, h2, h3⟩; have HS := Lib.hid h1; have HO := Lib.hid h2; have HB := Lib.hid h3; clear h1 h2 h3))
    refine bodyPost_end (results_none rfl _ _ _) rfl ?_
    exact ⟨rfl, S, HS.out, by rw [HS.out.2.2, ← HN.out]; exact HO.out, HB.out⟩
end Go.Proofs.YtppmbdpfledejaaGreatDoor
namespace Go.Proofs.YtppmbdpfledejaaGreatDoor
open Go.RowKit Go.Shelf
attribute [local go_sem] Oper.semAt_some
theorem wrap_i64 (x : Int) : IntKind.i64.wrap x = wrap64 x := by rw [IntKind.wrap_i64, wrap64]
end Go.Proofs.YtppmbdpfledejaaGreatDoor
namespace Go.Proofs.YtppmbdpfledejaaGreatDoor
open Go.RowKit
set_option maxHeartbeats 4000000 in
theorem copy_any (s : List UInt8) (r q : Int) (hs : s.length < 1152921504606846976) (hr : -9223372036854775808 ≤ r ∧ r < 9223372036854775808) (hq : -9223372036854775808 ≤ q ∧ q < 9223372036854775808) (w : World) (hT : PowTab w) :
    Calls Tryz.prog 40 #[.string (str s), .agg #[.int .i64 r, .int .i64 q]] w fun e w' => e = .returned (.string (str (copyL s r q))) ∧ Below w.heap.size w w' := by
  have HT := Lib.hid hT
  have N1 := Lib.hid (fun w => number_any w r hr.1 hr.2)
  have N2 := Lib.hid (fun w => number_any w q hq.1 hq.2)
  have HL := Lib.hid (And.intro hs (And.intro (numL_length r hr.1 hr.2) (numL_length q hq.1 hq.2)))
  obtain ⟨R, hR⟩ : ∃ R, numL r = R := ⟨_, rfl⟩
  obtain ⟨Q, hQ⟩ : ∃ Q, numL q = Q := ⟨_, rfl⟩
  obtain ⟨A1, hA1⟩ : ∃ A1, s ++ [126] = A1 := ⟨_, rfl⟩
  obtain ⟨A2, hA2⟩ : ∃ A2, A1 ++ R = A2 := ⟨_, rfl⟩
  obtain ⟨A3, hA3⟩ : ∃ A3, A2 ++ [45] = A3 := ⟨_, rfl⟩
  obtain ⟨A4, hA4⟩ : ∃ A4, A3 ++ Q = A4 := ⟨_, rfl⟩
  have HE := Lib.hid (show A4 = copyL s r q by rw [← hA4, ← hA3, ← hA2, ← hA1, ← hR, ← hQ]; simp [copyL])
  have hA := Lib.hid (And.intro hA1 (And.intro hA2 (And.intro hA3 hA4)))
  rw [hR] at N1 HL
  rw [hQ] at N2 HL
  have c0 : (w.alloc (.cells #[.int .i64 r, .int .i64 q] 29 (0, 0))).cell? ⟨w.heap.size, 0, none⟩ = some (.int .i64 r) := by rw [cell_of_row _ _ 0 _ _ _ (heap_last w _)]; rfl
  have c1 : (w.alloc (.cells #[.int .i64 r, .int .i64 q] 29 (0, 0))).cell? ⟨w.heap.size, 1, none⟩ = some (.int .i64 q) := by rw [cell_of_row _ _ 1 _ _ _ (heap_last w _)]; rfl
  have B0 := Lib.hid ((Below.refl w.heap.size w).alloc (Nat.le_refl _) (.cells #[.int .i64 r, .int .i64 q] 29 (0, 0)))
  clear hT hs hr hq hR hQ hA1 hA2 hA3 hA4
  go_enter Tryz.func40, Tryz.ntmps40
  go_wp2
  refine wp_region_held_drew (S := fun w' => Below (w.alloc (.cells #[.int .i64 r, .int .i64 q] 29 (0, 0))).heap.size (w.alloc (.cells #[.int .i64 r, .int .i64 q] 29 (0, 0))) w') (by kernel_rfl) (below_draws (Below.refl _ _) 1) (fun hHeld => ?_)
  generalize (w.alloc (.cells #[.int .i64 r, .int .i64 q] 29 (0, 0))).drew = wd at hHeld ⊢
  refine take_at (i := 0) 5 rfl rfl (by kernel_rfl) (by kernel_rfl) (by kernel_rfl) (fun _ _ _ h => h) (sure_yes (by rfl) (fun w => by go_simp; try with_reducible rfl)) hHeld ?_
  simp only [List.setIfInBounds_toArray, List.set_cons_zero, List.set_cons_succ]
  refine take_at (i := 1) 6 rfl rfl (by kernel_rfl) (by kernel_rfl) (by kernel_rfl) (fun _ _ _ h => h) (sure_yes (by rfl) (add_as (l := s) (m := [126]) rfl rfl rfl (by have h1 := HL.out.1; have h2 := HL.out.2.1; have h3 := HL.out.2.2; have e1 := congrArg List.length hA.out.1; have e2 := congrArg List.length hA.out.2.1; have e3 := congrArg List.length hA.out.2.2.1; simp at e1 e2 e3 ⊢; omega) hA.out.1)) hHeld ?_
  simp only [List.setIfInBounds_toArray, List.set_cons_zero, List.set_cons_succ]
  refine take_at (i := 2) 7 rfl rfl (by kernel_rfl) (by kernel_rfl) (by kernel_rfl) (fun _ _ _ h => h) (sure_yes (by rfl) (fun w => by go_simp; try with_reducible rfl)) hHeld ?_
  simp only [List.setIfInBounds_toArray, List.set_cons_zero, List.set_cons_succ]
  refine take_at (i := 7) 12 rfl rfl (by kernel_rfl) (by kernel_rfl) (by kernel_rfl) (fun _ _ _ h => h) (sure_yes (by rfl) (fun w => by go_simp; try with_reducible rfl)) hHeld ?_
  simp only [List.setIfInBounds_toArray, List.set_cons_zero, List.set_cons_succ]
  refine take_at (i := 3) 8 rfl rfl (by kernel_rfl) (by kernel_rfl) (by kernel_rfl) (fun _ _ _ h => h) (cell_yields (by rfl) 3 (.tmp 7) rfl w.heap.size 0 rfl .i64 r Tryz.underlying3 (fun w' h => (cell_same (h.block w.heap.size (by simp)) 0).trans c0)) hHeld ?_
  simp only [List.setIfInBounds_toArray, List.set_cons_zero, List.set_cons_succ]
  refine take_at (i := 8) 13 rfl rfl (by kernel_rfl) (by kernel_rfl) (by kernel_rfl) (fun _ _ _ h => h) (cell_yields (by rfl) 2 (.tmp 12) rfl w.heap.size 1 rfl .i64 q Tryz.underlying2 (fun w' h => (cell_same (h.block w.heap.size (by simp)) 1).trans c1)) hHeld ?_
  simp only [List.setIfInBounds_toArray, List.set_cons_zero, List.set_cons_succ]
  refine wpAnyH_ready (rs := [4]) (by kernel_rfl) (by simp) ?_
  refine AllReadyH.cons rfl (fun K hK => ?_) AllReadyH.nil
  go_simp
  go_at_call 72
  refine (N1.out _ (powTab_below HT.out (below_next B0.out hHeld))).mono ?_
  rintro e w2 ⟨rfl, hb⟩
  dsimp only
  refine hK.out _ _ (below_next hHeld hb) (fun hHeld => ?_)
  clear hK K hb
  refine take_at (i := 5) 10 rfl rfl (by kernel_rfl) (by kernel_rfl) (by kernel_rfl) (fun _ _ _ h => h) (sure_yes (by rfl) (add_as (l := A1) (m := R) rfl rfl rfl (by have h1 := HL.out.1; have h2 := HL.out.2.1; have h3 := HL.out.2.2; have e1 := congrArg List.length hA.out.1; have e2 := congrArg List.length hA.out.2.1; have e3 := congrArg List.length hA.out.2.2.1; simp at e1 e2 e3 ⊢; omega) hA.out.2.1)) hHeld ?_
  simp only [List.setIfInBounds_toArray, List.set_cons_zero, List.set_cons_succ]
  refine take_at (i := 6) 11 rfl rfl (by kernel_rfl) (by kernel_rfl) (by kernel_rfl) (fun _ _ _ h => h) (sure_yes (by rfl) (add_as (l := A2) (m := [45]) rfl rfl rfl (by have h1 := HL.out.1; have h2 := HL.out.2.1; have h3 := HL.out.2.2; have e1 := congrArg List.length hA.out.1; have e2 := congrArg List.length hA.out.2.1; have e3 := congrArg List.length hA.out.2.2.1; simp at e1 e2 e3 ⊢; omega) hA.out.2.2.1)) hHeld ?_
  simp only [List.setIfInBounds_toArray, List.set_cons_zero, List.set_cons_succ]
  refine wpAnyH_ready (rs := [9]) (by kernel_rfl) (by simp) ?_
  refine AllReadyH.cons rfl (fun K hK => ?_) AllReadyH.nil
  go_simp
  go_at_call 72
  refine (N2.out _ (powTab_below HT.out (below_next B0.out hHeld))).mono ?_
  rintro e w2 ⟨rfl, hb⟩
  dsimp only
  refine hK.out _ _ (below_next hHeld hb) (fun hHeld => ?_)
  clear hK K hb
  refine take_at (i := 10) 15 rfl rfl (by kernel_rfl) (by kernel_rfl) (by kernel_rfl) (fun _ _ _ h => h) (sure_yes (by rfl) (add_as (l := A3) (m := Q) rfl rfl rfl (by have h1 := HL.out.1; have h2 := HL.out.2.1; have h3 := HL.out.2.2; have e1 := congrArg List.length hA.out.1; have e2 := congrArg List.length hA.out.2.1; have e3 := congrArg List.length hA.out.2.2.1; simp at e1 e2 e3 ⊢; omega) hA.out.2.2.2)) hHeld ?_
  simp only [List.setIfInBounds_toArray, List.set_cons_zero, List.set_cons_succ]
  refine take_at (i := 11) 4 rfl rfl (by kernel_rfl) (by kernel_rfl) (by kernel_rfl) (fun _ _ _ h => h) (sure_yes (by rfl) (fun w => by go_simp; try with_reducible rfl)) hHeld ?_
  simp only [List.setIfInBounds_toArray, List.set_cons_zero, List.set_cons_succ]
  refine wpAnyH_done (by kernel_rfl) ?_ _
  go_wp2
  go_ret
  exact ⟨by rw [← HE.out]; rfl, below_next B0.out hHeld⟩
theorem prefix_of (s d : List UInt8) : Lib.hasPrefix s d = (s.take d.length == d) := by
  rw [Lib.hasPrefix, Bool.eq_iff_iff, List.isPrefixOf_iff_prefix, beq_iff_eq, List.prefix_iff_eq_take]
  exact eq_comm
set_option maxHeartbeats 4000000 in
theorem under_any (s d : List UInt8) (w : World) : Calls Tryz.prog 71 #[.string (str s), .string (str d)] w fun e w' => e = .returned (.bool (underP s d)) ∧ Below w.heap.size w w' := by
  obtain ⟨r, hr⟩ : ∃ r, r = Lib.trimPrefix s d := ⟨_, rfl⟩
  have HC := Lib.hid (show ∀ w, Calls Tryz.prog 102 #[.string (str s), .string (str d)] w fun e w' => e = .returned (.tuple #[.string (str r), .bool (Lib.hasPrefix s d)]) ∧ w = w' from fun w => by
    refine (Tryz.strings_CutPrefix (str s) (str d) w).mono fun e w' h => ?_
    rw [show (str s).data.toList = s from by simp [str], show (str d).data.toList = d from by simp [str], ← hr] at h
    exact ⟨h.1, h.2.symm⟩)
  rw [prefix_of] at HC
  have hr' : r = if (s.take d.length == d) = true then s.drop d.length else s := by rw [hr, Lib.trimPrefix, prefix_of]
  obtain ⟨m, hm⟩ : ∃ m, m = r.length := ⟨_, rfl⟩
  have hsz : (str r).size = m := by rw [str_size, hm]
  cases hp : (s.take d.length == d) with
  | false =>
    have HU := Lib.hid (show underP s d = false by rw [underP, hp]; simp)
    rw [hp] at HC
    clear hr' hr hm hp
    go_enter Tryz.func71, Tryz.ntmps71
    go_wp2_with (first | (go_at_call 102; refine (HC.out _).mono ?_; rintro e w1 ⟨rfl, rfl⟩))
    go_ret
    exact ⟨by rw [HU.out]; rfl, Below.refl _ _⟩
  | true =>
    rw [hp] at HC hr'
    rw [if_pos rfl] at hr'
    have hml : m = s.length - d.length := by rw [hm, hr', List.length_drop]
    have HU := Lib.hid (show underP s d = (decide (1 < m) && s.getD d.length 0 == 47) by
      rw [underP, hp, Bool.true_and]
      congr 1
      rw [Bool.eq_iff_iff, decide_eq_true_eq, decide_eq_true_eq]; omega)
    by_cases h1 : 1 < m
    · obtain ⟨c, hc⟩ : ∃ c, r[0]? = some c := ⟨r[0]'(by omega), List.getElem?_eq_getElem _⟩
      have i1 : ∀ w, (Instr.index 9 (.string (str r)) (.int .i64 0)).run Tryz.prog w = .ok (.int .u8 (c.toNat : Int)) w := fun w => index_str (P := Tryz.prog) w r .i64 0 c hc Tryz.underlying9
      obtain ⟨x, hx⟩ : ∃ x : Nat, x = c.toNat := ⟨_, rfl⟩
      have HU2 := Lib.hid (show underP s d = ((x : Int) == 47) by
        rw [HU.out, decide_eq_true h1, Bool.true_and]
        rw [hr', List.getElem?_drop, Nat.add_zero] at hc
        rw [List.getD_eq_getElem?_getD, hc, hx, Bool.eq_iff_iff, beq_iff_eq, beq_iff_eq]
        simp only [Option.getD_some]
        constructor
        · intro e; rw [e]; rfl
        · intro e; exact UInt8.toNat_inj.1 (show c.toNat = 47 by omega))
      rw [← hx] at i1
      have d1 : decide ((m : Int) > 1) = true := decide_eq_true (by omega)
      clear hr' hr hm hp hml h1 hc hx
      go_enter Tryz.func71, Tryz.ntmps71
      go_wp2_with (first | (go_at_call 102; refine (HC.out _).mono ?_; rintro e w1 ⟨rfl, rfl⟩))
      go_ret
      exact ⟨by rw [HU2.out]; rfl, Below.refl _ _⟩
    · have HU2 := Lib.hid (show underP s d = false by rw [HU.out, decide_eq_false h1]; rfl)
      have d1 : decide ((m : Int) > 1) = false := decide_eq_false (by omega)
      clear hr' hr hm hp hml h1
      go_enter Tryz.func71, Tryz.ntmps71
      go_wp2_with (first | (go_at_call 102; refine (HC.out _).mono ?_; rintro e w1 ⟨rfl, rfl⟩))
      go_ret
      exact ⟨by rw [HU2.out]; rfl, Below.refl _ _⟩
end Go.Proofs.YtppmbdpfledejaaGreatDoor
namespace Go.Proofs.YtppmbdpfledejaaGreatDoor
open Go.RowKit
attribute [local go_sem] run_makeMap_plain
def dotV (t : Int × Int) : Value := .agg #[.int .i64 t.1, .int .i64 t.2]
def rawT (m : List UInt8 → Option (Int × Int)) : List UInt8 → Option Value := fun p => (m p).map dotV
theorem rawT_put (m : List UInt8 → Option (Int × Int)) (e : Ev) : rawT (putT m e) = putM (rawT m) e.path (dotV (e.r, e.q)) := by
  funext p
  unfold rawT putT putM
  by_cases h : p = e.path
  · rw [if_pos h, if_pos h]; rfl
  · rw [if_neg h, if_neg h]
theorem dot_zero (w : World) : (zeroValue 29).run Tryz.prog w = .ok (dotV (0, 0)) w := by kernel_rfl
/-- Block b is a map that tells of each path the dot of the Put there that none is above. -/
def TopsAt (w : World) (b : Nat) (us : List (Ev × Value)) : Prop := ∃ (k : Nat) (m : List UInt8 → Option (Int × Int)), k ≤ us.length ∧ RawM Tryz.prog 9 w b k (rawT m) ∧ TopsOf (us.map (·.1)) m
/-- Events whose numbers are of 64 bits, and whose paths a memory can hold: all that a view asks of them. -/
def FitV (us : List (Ev × Value)) : Prop := ∀ x ∈ us, I64 x.1.r ∧ I64 x.1.q ∧ x.1.path.length < 1152921504606846976
theorem fitV_of {us : List (Ev × Value)} (h : FitU us) : FitV us := fun x hx => ⟨(h x hx).1, (h x hx).2.1, (h x hx).2.2.2⟩
theorem box_dot {w : World} {B : Nat} {T : TypeId} {r q : Int} (h : w.heap[B]? = some (.cells #[.int .i64 r, .int .i64 q] T (0, 0))) : w.cell? ⟨B, 0, none⟩ = some (.int .i64 r) ∧ w.cell? ⟨(⟨B, 0, none⟩ : Addr).block, (⟨B, 0, none⟩ : Addr).off + 1, none⟩ = some (.int .i64 q) := by
  constructor <;> (simp only [World.cell?, h]; rfl)
set_option maxRecDepth 100000 in
set_option maxHeartbeats 16000000 in
theorem alive_any (us : List (Ev × Value)) (hl : us.length ≤ 20000) (hf : FitV us) (v : Value) (w : World) (hv : HoldsU w v us) (hd : DepsU w us) : Calls Tryz.prog 36 #[v] w fun x w' => ∃ b : Nat, x = .returned (.map (some b)) ∧ w.heap.size ≤ b ∧ TopsAt w' b us ∧ Below w.heap.size w w' := by
  obtain ⟨n, hn⟩ : ∃ n, n = us.length := ⟨_, rfl⟩
  have HN := Lib.hid hn
  have HL := Lib.hid (show n ≤ 20000 by omega)
  obtain ⟨ao, cap, hvs⟩ := holdsU_shape hv n hn
  subst hvs
  have HV := Lib.hid hv
  have HD := Lib.hid hd
  have HF := Lib.hid hf
  have BM := Lib.hid ((Below.refl w.heap.size w).alloc (Nat.le_refl _) (.map #[] 0))
  have RM0 := Lib.hid (rawM_made Tryz.prog 9 w)
  clear hl hf hv hd hn
  go_enter Tryz.func36, Tryz.ntmps36
  go_upto_region 2 with fail
  generalize w.alloc (.map #[] 0) = WM at *
  obtain ⟨b, hb0⟩ : ∃ b, b = w.heap.size := ⟨_, rfl⟩
  rw [← hb0] at RM0 ⊢
  have HEQ := Lib.hid hb0
  clear hb0
  go_wp2
  go_loopw [11] (fun c wr => ∃ (i k : Nat) (m : List UInt8 → Option (Int × Int)), i ≤ n ∧ k ≤ i ∧ c = .int .i64 (i : Int) ∧ RawM Tryz.prog 9 wr b k (rawT m) ∧ TopsOf ((us.map (·.1)).take i) m ∧ Below w.heap.size w wr) (fun c _ => n - (intOf c).toNat)
  case atStart => exact ⟨0, 0, fun _ => none, Nat.zero_le _, Nat.le_refl _, rfl, RM0.out, tops_nil, BM.out⟩
  case round =>
    obtain ⟨i, k, m, hi, hk, rfl, hrm, htp, hb⟩ := hrel
    have HRM := Lib.hid hrm
    have HTP := Lib.hid htp
    have HB := Lib.hid hb
    clear hrm htp hb
    by_cases hin : i < n
    · have q0 : (i : Int) < (n : Int) := by omega
      have q1 : (i : Int) < 50000 := by have := HL.out; omega
      have hi1 : i + 1 ≤ n := hin
      have hi5 : i < 50000 := by have := HL.out; omega
      obtain ⟨x, hx⟩ : ∃ x, us[i]? = some x := ⟨_, List.getElem?_eq_getElem (by have := HN.out; omega)⟩
      obtain ⟨ad, cap', e1, hcx⟩ := holdsU_at (holdsU_below HV.out HB.out) n i HN.out.symm x hx
      cases e1
      have hux := HD.out x (List.mem_of_getElem? hx)
      have hfx := HF.out x (List.mem_of_getElem? hx)
      have hex := fst_atM hx
      obtain ⟨ye, yv⟩ := x
      dsimp only at hcx hux hfx hex
      obtain ⟨yo, yc, rfl⟩ := dots_shape hux ye.deps.length rfl
      obtain ⟨yn, hyn⟩ : ∃ m, m = ye.deps.length := ⟨_, rfl⟩
      rw [← hyn] at hcx hux
      have HC := Lib.hid hcx
      have HFX := Lib.hid hfx
      have HEX := Lib.hid hex
      have HPL := Lib.hid (show ye.path.length ≤ maxLen by have := hfx.2.2; unfold maxLen; omega)
      clear hx hcx hux hfx hex hyn hi
      go_upto_region 4 with fail
      go_upto_region 5 with (first
        | (refine load_evA_on (by rfl) 92 (.tmp 13) rfl (ad.add (i * 38)) rfl Tryz.underlying92 evSize HC.out ?_)
        | (refine store_new rfl 92 (.tmp 5) (.tmp 14) rfl rfl wr _ (evC ye (.slice yo yn yc)) 92 rfl rfl rfl (by rw [evSize, evC_size]) (by rw [evC_size]; rfl) (evC_one _ _ rfl) ?_; rintro W2 hg hb hlt; have E2 := Lib.hid (show EvAt W2 wr.heap.size 92 ye (.slice yo yn yc) from hg); have C2 := Lib.hid hb; have HB2 := Lib.hid (below_next HB.out hb); clear hg hb hlt))
      have HR2 := Lib.hid (rawM_block HRM.out (C2.out.block b (rawM_lt HRM.out)))
      obtain ⟨-, -, -, c3, c4, -⟩ := evAt_cells E2.out
      obtain ⟨kd, hkd⟩ : ∃ kd, ye.kind = kd := ⟨_, rfl⟩
      rw [hkd] at c3
      by_cases hk1 : kd = 1
      · subst hk1
        have hp : putE ye = true := (putE_iff ye).2 hkd
        clear hkd
        cases hmt : m ye.path with
        | none =>
          have HMT := Lib.hid hmt
          clear hmt
          have L9 := Lib.hid (show (Instr.lookup 84 (.map (some b)) (.string (str ye.path)) true).run Tryz.prog W2 = .ok (.tuple #[.agg #[.int .i64 0, .int .i64 0], .bool false]) W2 from by have h := rawM_look_ok HR2.out Tryz.underlying9 Tryz.underlying84 (dot_zero _) ye.path HPL.out; rw [show rawT m ye.path = none from by unfold rawT; rw [HMT.out]; rfl] at h; exact h)
          have TS := Lib.hid (show TopsOf ((us.map (·.1)).take (i + 1)) (putT m ye) by rw [List.take_add_one, HEX.out]; exact tops_put HTP.out hp (.inl HMT.out))
          clear hp
          have D3 := Lib.hid (heap_last W2 (.cells #[.int .i64 0, .int .i64 0] 29 (0, 0)))
          have C3 := Lib.hid ((Below.refl W2.heap.size W2).alloc (Nat.le_refl _) (.cells #[.int .i64 0, .int .i64 0] 29 (0, 0)))
          have HB3 := Lib.hid (below_next HB2.out C3.out)
          go_upto_region 7 with (first
            | (at_lookup; refine wpList_lookup_raw rfl (.tmp 19) (.tmp 21) 84 true rfl b rfl _ _ rfl L9.out ?_))
          generalize W2.alloc (.cells #[.int .i64 0, .int .i64 0] 29 (0, 0)) = W3 at *
          have E3 := Lib.hid (evAt_kept E2.out C3.out)
          have HR8 := Lib.hid (rawM_block HR2.out (C3.out.block b (rawM_lt HR2.out)))
          obtain ⟨-, -, -, -, c4, -⟩ := evAt_cells E3.out
          go_upto_region 9 with (first
            | (refine load_dot10 (by rfl) 29 (.tmp 37) rfl ⟨wr.heap.size, 0, none⟩ rfl ye.r ye.q Tryz.underlying29 (by kernel_rfl) (evAt_dot E3.out) ?_)
            | (refine wpList_put_raw rfl (.tmp 34) (.tmp 36) (.tmp 38) 84 9 29 rfl b k (rawT m) HR8.out Tryz.underlying9 Tryz.underlying84 (by have := HL.out; unfold maxLen; omega) rfl ye.path HPL.out rfl (dotV (ye.r, ye.q)) rfl ?_; rintro W9 hr hg; have HR9 := Lib.hid hr; have HB9 := Lib.hid (below_grown HB3.out hg HB3.out.size (fun k hk => by cases hk; exact Nat.le_of_eq HEQ.out.symm)); clear hr hg))
          go_wp2
          go_roundw
          case rel => exact ⟨i + 1, k + 1, putT m ye, hi1, by omega, by go_num, by rw [rawT_put]; exact HR9.out, TS.out, HB9.out⟩
          case measure => simp [intOf] <;> omega
        | some t =>
          have HMT := Lib.hid hmt
          have HFT := Lib.hid (show I64 t.1 ∧ I64 t.2 by
            obtain ⟨f, hf1, -, -, hf2, hf3⟩ := ((HTP.out ye.path).2 t hmt).1
            obtain ⟨y, hy, rfl⟩ := List.mem_map.1 (List.mem_of_mem_take hf1)
            have h9 := HF.out y hy
            rw [← hf2, ← hf3]; exact ⟨h9.1, h9.2.1⟩)
          clear hmt
          by_cases hgt : 0 < cmpD ye.r ye.q t.1 t.2
          · have L9 := Lib.hid (show (Instr.lookup 84 (.map (some b)) (.string (str ye.path)) true).run Tryz.prog W2 = .ok (.tuple #[.agg #[.int .i64 t.1, .int .i64 t.2], .bool true]) W2 from by have h := rawM_look_ok HR2.out Tryz.underlying9 Tryz.underlying84 (dot_zero _) ye.path HPL.out; rw [show rawT m ye.path = some (dotV t) from by unfold rawT; rw [HMT.out]; rfl] at h; exact h)
            obtain ⟨c, hc⟩ : ∃ c, cmpD ye.r ye.q t.1 t.2 = c := ⟨_, rfl⟩
            have CM := Lib.hid (fun w => compare_any ye.r ye.q t.1 t.2 HFX.out.1 HFX.out.2.1 HFT.out.1 HFT.out.2 w)
            rw [hc] at CM
            have TS := Lib.hid (show TopsOf ((us.map (·.1)).take (i + 1)) (putT m ye) by rw [List.take_add_one, HEX.out]; exact tops_put HTP.out hp (.inr ⟨t, HMT.out, hgt⟩))
            have q9 : 0 < c := by omega
            clear hp hgt hc
            obtain ⟨t1, t2⟩ := t
            dsimp only at *
            have D3 := Lib.hid (heap_last W2 (.cells #[.int .i64 t1, .int .i64 t2] 29 (0, 0)))
            have C3 := Lib.hid ((Below.refl W2.heap.size W2).alloc (Nat.le_refl _) (.cells #[.int .i64 t1, .int .i64 t2] 29 (0, 0)))
            have HB3 := Lib.hid (below_next HB2.out C3.out)
            go_upto_region 7 with (first
              | (at_lookup; refine wpList_lookup_raw rfl (.tmp 19) (.tmp 21) 84 true rfl b rfl _ _ rfl L9.out ?_))
            generalize W2.alloc (.cells #[.int .i64 t1, .int .i64 t2] 29 (0, 0)) = W3 at *
            have E3 := Lib.hid (evAt_kept E2.out C3.out)
            go_upto_region 8 with (first
              | (refine load_dot10 (by rfl) 29 (.tmp 28) rfl ⟨wr.heap.size, 0, none⟩ rfl ye.r ye.q Tryz.underlying29 (by kernel_rfl) (evAt_dot E3.out) ?_)
              | (refine load_dot10 (by rfl) 29 (.tmp 6) rfl ⟨W2.heap.size, 0, none⟩ rfl t1 t2 Tryz.underlying29 (by kernel_rfl) (box_dot D3.out) ?_)
              | (go_at_call 66; refine (CM.out _).mono ?_; rintro x W4 ⟨rfl, hb⟩; have HB4 := Lib.hid (below_next HB3.out hb); have C4 := Lib.hid hb; clear hb))
            have E4 := Lib.hid (evAt_kept E3.out C4.out)
            have HR8 := Lib.hid (rawM_block HR2.out ((below_next C3.out C4.out).block b (rawM_lt HR2.out)))
            obtain ⟨-, -, -, -, c4, -⟩ := evAt_cells E4.out
            go_upto_region 9 with (first
              | (refine load_dot10 (by rfl) 29 (.tmp 37) rfl ⟨wr.heap.size, 0, none⟩ rfl ye.r ye.q Tryz.underlying29 (by kernel_rfl) (evAt_dot E4.out) ?_)
              | (refine wpList_put_raw rfl (.tmp 34) (.tmp 36) (.tmp 38) 84 9 29 rfl b k (rawT m) HR8.out Tryz.underlying9 Tryz.underlying84 (by have := HL.out; unfold maxLen; omega) rfl ye.path HPL.out rfl (dotV (ye.r, ye.q)) rfl ?_; rintro W9 hr hg; have HR9 := Lib.hid hr; have HB9 := Lib.hid (below_grown HB4.out hg HB4.out.size (fun k hk => by cases hk; exact Nat.le_of_eq HEQ.out.symm)); clear hr hg))
            go_wp2
            go_roundw
            case rel => exact ⟨i + 1, k + 1, putT m ye, hi1, by omega, by go_num, by rw [rawT_put]; exact HR9.out, TS.out, HB9.out⟩
            case measure => simp [intOf] <;> omega
          · have L9 := Lib.hid (show (Instr.lookup 84 (.map (some b)) (.string (str ye.path)) true).run Tryz.prog W2 = .ok (.tuple #[.agg #[.int .i64 t.1, .int .i64 t.2], .bool true]) W2 from by have h := rawM_look_ok HR2.out Tryz.underlying9 Tryz.underlying84 (dot_zero _) ye.path HPL.out; rw [show rawT m ye.path = some (dotV t) from by unfold rawT; rw [HMT.out]; rfl] at h; exact h)
            obtain ⟨c, hc⟩ : ∃ c, cmpD ye.r ye.q t.1 t.2 = c := ⟨_, rfl⟩
            have CM := Lib.hid (fun w => compare_any ye.r ye.q t.1 t.2 HFX.out.1 HFX.out.2.1 HFT.out.1 HFT.out.2 w)
            rw [hc] at CM
            have TS := Lib.hid (show TopsOf ((us.map (·.1)).take (i + 1)) m by rw [List.take_add_one, HEX.out]; exact tops_keep HTP.out (.inr ⟨t, HMT.out, hgt⟩))
            have q9 : ¬ 0 < c := by omega
            have q9b : decide (c > 0) = false := decide_eq_false q9
            clear hp hgt hc
            obtain ⟨t1, t2⟩ := t
            dsimp only at *
            have D3 := Lib.hid (heap_last W2 (.cells #[.int .i64 t1, .int .i64 t2] 29 (0, 0)))
            have C3 := Lib.hid ((Below.refl W2.heap.size W2).alloc (Nat.le_refl _) (.cells #[.int .i64 t1, .int .i64 t2] 29 (0, 0)))
            have HB3 := Lib.hid (below_next HB2.out C3.out)
            go_upto_region 7 with (first
              | (at_lookup; refine wpList_lookup_raw rfl (.tmp 19) (.tmp 21) 84 true rfl b rfl _ _ rfl L9.out ?_))
            generalize W2.alloc (.cells #[.int .i64 t1, .int .i64 t2] 29 (0, 0)) = W3 at *
            have E3 := Lib.hid (evAt_kept E2.out C3.out)
            go_upto_region 9 with (first
              | (refine load_dot10 (by rfl) 29 (.tmp 28) rfl ⟨wr.heap.size, 0, none⟩ rfl ye.r ye.q Tryz.underlying29 (by kernel_rfl) (evAt_dot E3.out) ?_)
              | (refine load_dot10 (by rfl) 29 (.tmp 6) rfl ⟨W2.heap.size, 0, none⟩ rfl t1 t2 Tryz.underlying29 (by kernel_rfl) (box_dot D3.out) ?_)
              | (go_at_call 66; refine (CM.out _).mono ?_; rintro x W4 ⟨rfl, hb⟩; have HB4 := Lib.hid (below_next HB3.out hb); have C4 := Lib.hid hb; clear hb))
            have HR8 := Lib.hid (rawM_block HR2.out ((below_next C3.out C4.out).block b (rawM_lt HR2.out)))
            go_wp2
            go_roundw
            case rel => exact ⟨i + 1, k, m, hi1, by omega, by go_num, HR8.out, TS.out, HB4.out⟩
            case measure => simp [intOf] <;> omega
      · have q2 : (kd != 1) = true := by rw [bne, beq_eq_false_iff_ne.2 hk1]; rfl
        have TS := Lib.hid (show TopsOf ((us.map (·.1)).take (i + 1)) m by rw [List.take_add_one, HEX.out]; exact tops_keep HTP.out (.inl (by cases hp : putE ye with | false => rfl | true => exact absurd (hkd.symm.trans ((putE_iff ye).1 hp)) hk1)))
        clear hkd hk1
        go_upto_region 9 with fail
        clear c3 c4 q2
        go_wp2
        go_roundw
        case rel => exact ⟨i + 1, k, m, hi1, by omega, by go_num, HR2.out, TS.out, HB2.out⟩
        case measure => simp [intOf] <;> omega
    · obtain rfl : i = n := by omega
      have q0 : ¬ (i : Int) < (i : Int) := by omega
      have HTE := Lib.hid (show TopsOf (us.map (·.1)) m by have h := HTP.out; rwa [List.take_of_length_le (by rw [List.length_map]; exact Nat.le_of_eq HN.out.symm)] at h)
      have HKN := Lib.hid (show k ≤ us.length by have := HN.out; omega)
      clear hi hk
      go_wp2
      go_ret
      exact ⟨b, rfl, Nat.le_of_eq HEQ.out.symm, ⟨k, m, HKN.out, HRM.out, HTE.out⟩, HB.out⟩
end Go.Proofs.YtppmbdpfledejaaGreatDoor
namespace Go.Proofs.YtppmbdpfledejaaGreatDoor
open Go.RowKit
set_option maxRecDepth 100000 in
set_option maxHeartbeats 16000000 in
theorem isNaN_sl (s : List UInt8) (w : World) : Calls Tryz.prog 101 #[.string (str s)] w fun e w' => e = .returned (.bool false) ∧ w = w' := by
  go_enter Tryz.func101, Tryz.ntmps101
  go_wp2
  go_ret
  exact ⟨by simp, rfl⟩
set_option maxRecDepth 100000 in
set_option maxHeartbeats 16000000 in
theorem less_any (a b : List UInt8) (w : World) : Calls Tryz.prog 100 #[.string (str a), .string (str b)] w fun e w' => e = .returned (.bool (Op.bytesLess a b)) ∧ w = w' := by
  have N1 := Lib.hid (isNaN_str a)
  have s1 : (str a).toList = a := str_toList a
  have s2 : (str b).toList = b := str_toList b
  obtain ⟨c, hc⟩ : ∃ c, Op.bytesLess a b = c := ⟨_, rfl⟩
  rw [hc]
  go_enter Tryz.func100, Tryz.ntmps100
  go_wp2_with (first | (go_at_call 74; refine (N1.out _).mono ?_; rintro e w1 ⟨rfl, rfl⟩))
  go_ret
  first | exact ⟨rfl, rfl⟩ | (simp [hc])
theorem half2 (i j : Nat) (hij : i < j) (hj : j ≤ 50000) : ∃ s h : Nat, (i : Int) + (j : Int) = (s : Int) ∧ IntKind.i64.wrap (s : Int) = (s : Int) ∧ IntKind.u64.wrap (s : Int) = (s : Int) ∧ (s : Int) / 2 = (h : Int) ∧ IntKind.u64.wrap (h : Int) = (h : Int) ∧ IntKind.i64.wrap (h : Int) = (h : Int) ∧ i ≤ h ∧ h < j ∧ IntKind.i64.wrap ((h : Int) + 1) = ((h + 1 : Nat) : Int) :=
  ⟨i + j, (i + j) / 2, by omega, by rw [IntKind.wrap_i64]; omega, by rw [show IntKind.u64.wrap ((i + j : Nat) : Int) = ((i + j : Nat) : Int) % 18446744073709551616 from rfl]; omega, by omega, by rw [show IntKind.u64.wrap (((i + j) / 2 : Nat) : Int) = (((i + j) / 2 : Nat) : Int) % 18446744073709551616 from rfl]; omega, by rw [IntKind.wrap_i64]; omega, by omega, by omega, by rw [IntKind.wrap_i64]; omega⟩
/-- The place of the first text that isn't below t. -/
def FirstAt (ps : List (List UInt8)) (t : List UInt8) (i : Nat) : Prop := i ≤ ps.length ∧ (∀ k p, k < i → ps[k]? = some p → Op.bytesLess p t = true) ∧ (∀ p, ps[i]? = some p → Op.bytesLess p t = false)
def SearchEnd (ps : List (List UInt8)) (t : List UInt8) (x : Ending) : Prop := ∃ (i : Nat) (fb : Bool), x = .returned (.tuple #[.int .i64 (i : Int), .bool fb]) ∧ FirstAt ps t i
theorem rise_less {ps : List (List UInt8)} {t : List UInt8} (hr : ps.Pairwise fun a b => Op.bytesLess a b = true) {i j : Nat} {p q : List UInt8} (hi : ps[i]? = some p) (hj : ps[j]? = some q) (hij : i ≤ j) (h : Op.bytesLess q t = true) : Op.bytesLess p t = true := by
  rcases Nat.lt_or_ge i j with hlt | hge
  · obtain ⟨h1, rfl⟩ := List.getElem?_eq_some_iff.1 hi
    obtain ⟨h2, rfl⟩ := List.getElem?_eq_some_iff.1 hj
    exact bl_trans _ _ _ (List.pairwise_iff_getElem.1 hr i j h1 h2 hlt) h
  · obtain rfl : i = j := by omega
    rw [hi] at hj; cases hj; exact h
set_option linter.unusedSimpArgs false in
set_option maxRecDepth 100000 in
set_option maxHeartbeats 16000000 in
theorem search_any (ps : List (List UInt8)) (hn5 : ps.length ≤ 50000) (hr : ps.Pairwise fun a b => Op.bytesLess a b = true) (t : List UInt8) (v : Value) (w : World) (hv : HasTexts w v ps) : Calls Tryz.prog 70 #[v, .string (str t)] w fun x w' => SearchEnd ps t x ∧ Below w.heap.size w w' := by
  obtain ⟨n, hn⟩ : ∃ n, ps.length = n := ⟨_, rfl⟩
  have HN := Lib.hid hn
  have HR := Lib.hid hr
  obtain ⟨ao, cap, rfl⟩ := texts_shape hv n hn
  have HV := Lib.hid hv
  have hn9 : n ≤ 50000 := by omega
  clear hr hv hn hn5
  go_enter Tryz.func70, Tryz.ntmps70
  go_wp2
  go_loopw [7, 8] (fun c d wr => ∃ i j : Nat, c = .int .i64 (i : Int) ∧ d = .int .i64 (j : Int) ∧ i ≤ j ∧ j ≤ n ∧ (∀ k p, k < i → ps[k]? = some p → Op.bytesLess p t = true) ∧ (∀ k p, j ≤ k → ps[k]? = some p → Op.bytesLess p t = false) ∧ Below w.heap.size w wr) (fun c d _ => (intOf d).toNat - (intOf c).toNat)
  case atStart => exact ⟨0, n, rfl, rfl, Nat.zero_le _, Nat.le_refl _, fun k p h => by omega, fun k p h hp => by have := (List.getElem?_eq_some_iff.1 hp).1; have := HN.out; omega, Below.refl _ _⟩
  case round =>
    obtain ⟨i, j, rfl, rfl, hij, hjn, hlo, hhi, hb⟩ := hrel
    have HLO := Lib.hid hlo
    have HHI := Lib.hid hhi
    have HB := Lib.hid hb
    clear hlo hhi hb
    by_cases hlt : i < j
    · have q1 : (i : Int) < (j : Int) := by omega
      obtain ⟨s, h, t1, t2, t3, t4, t5, t6, hih, hhj, t7⟩ := half2 i j hlt (by omega)
      obtain ⟨p, hp⟩ : ∃ p, ps[h]? = some p := ⟨_, List.getElem?_eq_getElem (by have := HN.out; omega)⟩
      obtain ⟨ad, cap', e1, c0⟩ := texts_at (texts_below HV.out HB.out) n h HN.out (by omega) p hp
      cases e1
      have HP := Lib.hid hp
      have q2 : (h : Int) < (n : Int) := by omega
      have q3 : h < n := by omega
      have LS := Lib.hid (less_any p t)
      have HM := Lib.hid (And.intro hij (And.intro hjn (And.intro hih hhj)))
      clear hp hlt hij hjn hih hhj
      cases hc : Op.bytesLess p t with
      | true =>
        rw [hc] at LS
        have HC := Lib.hid hc
        clear hc
        go_wp2_with (first
          | (go_at_call 100; refine (LS.out _).mono ?_; rintro x w1 ⟨rfl, rfl⟩))
        go_roundw
        case rel => exact ⟨h + 1, j, by go_num, rfl, by have := HM.out; omega, HM.out.2.1, fun k q hk hq => rise_less HR.out hq HP.out (by omega) HC.out, HHI.out, HB.out⟩
        case measure => have := HM.out; simp [intOf] <;> omega
      | false =>
        rw [hc] at LS
        have HC := Lib.hid hc
        clear hc
        go_wp2_with (first
          | (go_at_call 100; refine (LS.out _).mono ?_; rintro x w1 ⟨rfl, rfl⟩))
        go_roundw
        case rel => exact ⟨i, h, rfl, rfl, HM.out.2.2.1, by have := HM.out; omega, HLO.out, (fun k q hk hq => by
          cases hx : Op.bytesLess q t with
          | false => rfl
          | true => have := rise_less HR.out HP.out hq hk hx; rw [HC.out] at this; cases this), HB.out⟩
        case measure => have := HM.out; simp [intOf] <;> omega
    · obtain rfl : i = j := by omega
      have q1 : ¬ (i : Int) < (i : Int) := by omega
      have HIN := Lib.hid (show i ≤ ps.length by have := HN.out; omega)
      by_cases hlt2 : i < n
      · obtain ⟨p, hp⟩ : ∃ p, ps[i]? = some p := ⟨_, List.getElem?_eq_getElem (by have := HN.out; omega)⟩
        obtain ⟨ad, cap', e1, c0⟩ := texts_at (texts_below HV.out HB.out) n i HN.out hlt2 p hp
        cases e1
        have q2 : (i : Int) < (n : Int) := by omega
        have N1 := Lib.hid (isNaN_sl p)
        have s1 : (str p).toList = p := str_toList p
        have s2 : (str t).toList = t := str_toList t
        clear hp hij hjn hlt
        cases hc : (p == t) with
        | true =>
          go_wp2_with (first
            | (go_at_call 101; refine (N1.out _).mono ?_; rintro x w1 ⟨rfl, rfl⟩))
          go_ret2
          exact ⟨⟨i, _, rfl, ⟨HIN.out, HLO.out, fun q hq => HHI.out i q (Nat.le_refl _) hq⟩⟩, HB.out⟩
        | false =>
          go_wp2_with (first
            | (go_at_call 101; refine (N1.out _).mono ?_; rintro x w1 ⟨rfl, rfl⟩))
          go_ret2
          exact ⟨⟨i, _, rfl, ⟨HIN.out, HLO.out, fun q hq => HHI.out i q (Nat.le_refl _) hq⟩⟩, HB.out⟩
      · have q2 : ¬ (i : Int) < (n : Int) := by omega
        clear hij hjn hlt
        go_wp2
        go_ret2
        exact ⟨⟨i, _, rfl, ⟨HIN.out, HLO.out, fun q hq => HHI.out i q (Nat.le_refl _) hq⟩⟩, HB.out⟩
end Go.Proofs.YtppmbdpfledejaaGreatDoor
namespace Go.Proofs.YtppmbdpfledejaaGreatDoor
open Go.RowKit
set_option linter.unusedSimpArgs false in
set_option maxRecDepth 100000 in
set_option maxHeartbeats 16000000 in
theorem isDir_any (ps : List (List UInt8)) (hn5 : ps.length ≤ 50000) (hr : ps.Pairwise fun a b => Op.bytesLess a b = true) (d : List UInt8) (hd : d.length < 1152921504606846976) (v : Value) (w : World) (hv : HasTexts w v ps) : Calls Tryz.prog 39 #[v, .string (str d)] w fun x w' => x = .returned (.bool (ps.any fun p => underP p d)) ∧ Below w.heap.size w w' := by
  obtain ⟨n, hn⟩ : ∃ n, ps.length = n := ⟨_, rfl⟩
  have HN := Lib.hid hn
  have HR := Lib.hid hr
  obtain ⟨ao, cap, rfl⟩ := texts_shape hv n hn
  have HV := Lib.hid hv
  have hn9 : n ≤ 50000 := by omega
  obtain ⟨u, hu⟩ : ∃ u, u = d ++ [47, 0] := ⟨_, rfl⟩
  have HU := Lib.hid hu
  have HDL := Lib.hid hd
  have SR := Lib.hid (fun w hv => search_any ps hn5 hr u (.slice ao n cap) w hv)
  have a1 : ∀ w, (Op.stringOp .add (str d) ⟨#[47, 0]⟩).run Tryz.prog w = .ok (.string (str u)) w := fun w => by rw [hu]; exact add_str d [47, 0] (by simp; omega) w
  clear hr hv hn hn5 hu hd
  go_enter Tryz.func39, Tryz.ntmps39
  go_upto_region 2 with (first
    | (go_at_call 70; refine (SR.out _ HV.out).mono ?_; rintro x w1 ⟨⟨i, fb, rfl, h1⟩, hb⟩; have H1 := Lib.hid h1; have HB := Lib.hid hb; clear h1 hb))
  have HALL := Lib.hid (search_under HR.out d H1.out.1 (by have h := H1.out.2.1; rw [HU.out] at h; exact h) (by have h := H1.out.2.2; rw [HU.out] at h; exact h))
  clear a1
  by_cases hin : i < n
  · obtain ⟨p, hp⟩ : ∃ p, ps[i]? = some p := ⟨_, List.getElem?_eq_getElem (by have := HN.out; omega)⟩
    obtain ⟨ad, cap', e1, c0⟩ := texts_at (texts_below HV.out HB.out) n i HN.out hin p hp
    cases e1
    rw [hp] at HALL
    have q2 : (i : Int) < (n : Int) := by omega
    have UN := Lib.hid (under_any p d)
    obtain ⟨r, hr⟩ : ∃ r, underP p d = r := ⟨_, rfl⟩
    have HALL := Lib.hid (show (ps.any fun p => underP p d) = r by rw [← hr]; exact HALL.out)
    rw [hr] at UN
    clear hp hr
    go_wp2_with (first
      | (go_at_call 71; refine (UN.out _).mono ?_; rintro x w2 ⟨rfl, hb⟩; have HB2 := Lib.hid (below_next HB.out hb); clear hb))
    go_ret
    exact ⟨by rw [HALL.out]; rfl, HB2.out⟩
  · have q2 : ¬ (i : Int) < (n : Int) := by omega
    have hnone : ps[i]? = none := List.getElem?_eq_none (by have := HN.out; omega)
    rw [hnone] at HALL
    clear hnone
    go_wp2
    go_ret
    exact ⟨by rw [HALL.out]; rfl, HB.out⟩
end Go.Proofs.YtppmbdpfledejaaGreatDoor
namespace Go.Proofs.YtppmbdpfledejaaGreatDoor
open Go.RowKit
/-- A slice of what these events show. -/
def HasView (w : World) (v : Value) (l : List Ev) : Prop := ∃ S, StableK Sh.path (showsE l) S ∧ HoldsS w v S
theorem infoSh : ∃ i, Tryz.prog.info? 33 = some i ∧ (i.zero.map (·.cells.size), i.size, i.bytes) = (some 36, 36, 72) := by
  have h : (Tryz.prog.info? 33).map (fun i => (i.zero.map (·.cells.size), i.size, i.bytes)) = some (some 36, 36, 72) := by kernel_rfl
  cases hi : Tryz.prog.info? 33 with
  | none => rw [hi] at h; cases h
  | some i => rw [hi] at h; exact ⟨i, rfl, Option.some.inj h⟩
set_option maxRecDepth 100000 in
theorem sh_built (s : Sh) : Tryz.prog.built 33 [(0, .string (str s.path)), (1, .agg #[.int .i64 s.r, .int .i64 s.q]), (2, rowV .u8 32 s.sum), (3, .int .i64 s.size)] = some (shC s) := by kernel_rfl
set_option maxRecDepth 100000 in
theorem sh_slice1 (s : Sh) : Tryz.prog.builtSlice 33 1 [(0, .agg (shC s))] = some (shC s) := by kernel_rfl
/-- A slice of one, made. -/
theorem build_shM {ops : Array Oper} {rest : List Oper} {o : Oper} {a : Act} {w : World} {Q : Exit → Act → World → Prop} (hg : o.guard = none) (d : Nat) (hd : o.dst = some d) (x : Operand) (ho : o.op = .buildSlice 24 1 #[(0, x)])
    (N : Nat) (hN : w.heap.size = N) (s : Sh) (hx : a.eval x = .agg (shC s))
    (h : ∀ w', ShAt w' N 33 s → Below w.heap.size w w' → w'.heap.size = N + 1 → wpList Tryz.prog ops Q rest (a.put (some d) (.slice (some ⟨N, 0, none⟩) 1 1)) w') : wpList Tryz.prog ops Q (o :: rest) a w := by
  refine Go.Great.wpList_buildSliceTo hg 24 33 1 #[(0, x)] ho N hN (some d) hd Tryz.underlying24 (shC s) ?_ (h _ ?_ ((Below.refl _ _).alloc (Nat.le_refl _) _) ?_)
  · have hp : ((#[(0, x)] : Array (Nat × Operand)).map fun (i, x) => (i, a.eval x)).toList = [(0, .agg (shC s))] := by simp [hx]
    rw [hp]; exact sh_slice1 s
  · rw [← hN]; exact heap_last _ _
  · rw [size_of_alloc, hN]
theorem texts_enc {w : World} {B : Nat} {T : TypeId} {v : Value} {ps : List (List UInt8)} (h : w.ownsRow B T 1 v ps.length (ps.map Go.Proofs.encStr)) : HasTexts w v ps := texts_of_own (base := B) (e := T) h
theorem shows_snoc {h : List Ev} {i : Nat} {e : Ev} (he : h[i]? = some e) : ((h.take (i + 1)).filter putE).map (shE h) = ((h.take i).filter putE).map (shE h) ++ (if putE e then [shE h e] else []) := by
  rw [List.take_add_one, he, List.filter_append, List.map_append]
  congr 1
  by_cases hp : putE e = true <;> simp [hp]
theorem shows_le (h : List Ev) (i : Nat) : (((h.take i).filter putE).map (shE h)).length ≤ i := by
  rw [List.length_map]
  exact Nat.le_trans (List.length_filter_le _ _) (by rw [List.length_take]; exact Nat.min_le_left _ _)
set_option linter.unusedSimpArgs false in
set_option maxRecDepth 100000 in
set_option maxHeartbeats 16000000 in
theorem view_wide (us : List (Ev × Value)) (hl : us.length ≤ 20000) (hf : FitV us) (v : Value) (w : World) (hv : HoldsU w v us) (hd : DepsU w us) (hT : PowTab w) : Calls Tryz.prog 8 #[v] w fun x w' => ∃ y, x = .returned y ∧ HasView w' y (us.map (·.1)) ∧ Below w.heap.size w w' := by
  obtain ⟨n, hn⟩ : ∃ n, n = us.length := ⟨_, rfl⟩
  have HN := Lib.hid hn
  have HL := Lib.hid (show n ≤ 20000 by omega)
  obtain ⟨ao, cap, hvs⟩ := holdsU_shape hv n hn
  subst hvs
  have HV := Lib.hid hv
  have HD := Lib.hid hd
  have HF := Lib.hid hf
  have HT := Lib.hid hT
  have AV := Lib.hid (alive_any us hl hf _ w hv hd)
  obtain ⟨ie, hie, hiz⟩ := infoSh
  have HIZ := Lib.hid hiz
  clear hl hf hv hd hn hT hiz
  go_enter Tryz.func8, Tryz.ntmps8
  go_upto_region 2 with (first
    | (go_at_call 36; refine AV.out.mono ?_; rintro x w1 ⟨b, rfl, hb0, hta, hb⟩; have HTA := Lib.hid hta; have B1 := Lib.hid hb; clear hb0 hta hb))
  obtain ⟨kk, m, hk, hrm, hto⟩ := HTA.out
  have HRM := Lib.hid hrm
  have HTO := Lib.hid hto
  obtain ⟨D, hown, hnd, hmem, hsz, hlen⟩ := rawM_keys hrm Tryz.underlying9
  have HSZ := Lib.hid (show Maps.size D ≤ 20000 by have := HN.out; have := HL.out; omega)
  have KK := Lib.hid (fun W => (callsIn_wide).1 (Tryz.maps_Keys_38 (some b) W))
  have SS := Lib.hid ((callsIn_wide).1 (Tryz.slices_Sorted_keys_37_38 b _ D rawR _ hown (by have := HSZ.out; unfold maxLen; omega) (by have := HSZ.out; omega)))
  have HOWN := Lib.hid hown
  have HLEN := Lib.hid hlen
  have HND := Lib.hid hnd
  have HMEM := Lib.hid hmem
  clear hk hrm hto hown hnd hmem hsz hlen HTA AV
  go_upto_region 3 with (first
    | (go_at_call 38; refine (KK.out _).mono ?_; rintro x wk ⟨rfl, rfl⟩)
    | (go_at_call 37; refine SS.out.mono ?_; rintro x w3 ⟨sv, ss, rfl, hperm, hrow, -, hb⟩; have HPE := Lib.hid hperm; have HRO := Lib.hid hrow; have C3 := Lib.hid (below_next ((Below.refl w1.heap.size w1).alloc (Nat.le_refl _) _) hb); clear hperm hrow hb))
  obtain ⟨ps, hps⟩ : ∃ ps, ps = ss.mergeSort (fun x y => decide (x ≤ y)) := ⟨_, rfl⟩
  have hpp : ps.Perm ss := by rw [hps]; exact List.mergeSort_perm _ _
  have HRI := Lib.hid (show ps.Pairwise fun a b => Op.bytesLess a b = true by rw [hps]; exact sorted_rises (HPE.out.nodup_iff.2 HND.out))
  have HPM := Lib.hid (show ∀ p, p ∈ ps ↔ (m p).isSome = true from fun p => by
    rw [hpp.mem_iff, HPE.out.mem_iff, HMEM.out p]
    unfold rawT
    rw [Option.isSome_map])
  have hsl : ss.length = ps.length := hpp.length_eq.symm
  have HPN := Lib.hid (show ps.length ≤ 50000 by
    rw [← hsl, HPE.out.length_eq]
    have h4 : (strKeys D).length = Maps.size D := by obtain ⟨es, hD, -⟩ := HOWN.out.keysOf; subst hD; simp [strKeys, Maps.size]
    have := HSZ.out; omega)
  have HTX := Lib.hid (show HasTexts w3 sv ps by have h := HRO.out; rw [hsl, ← hps] at h; exact texts_enc h)
  have B3 := Lib.hid (below_next B1.out C3.out)
  have HLP := Lib.hid (show ∀ e ∈ us.map (·.1), putE e = true → ∃ t, m e.path = some t from fun e he hp => by
    cases hm : m e.path with
    | some t => exact ⟨t, rfl⟩
    | none => exact absurd rfl ((HTO.out e.path).1 hm e he hp))
  clear hps hpp hsl HPE HMEM HND HLEN HOWN HRO KK SS HSZ
  go_wp2
  go_loopw [5, 16] (fun lv c wr => ∃ (i : Nat) (S : List Sh), i ≤ n ∧ c = .int .i64 (i : Int) ∧ wr.ownsRow w3.heap.size 33 36 lv S.length (shsC S) ∧ S = (((us.map (·.1)).take i).filter putE).map (shE (us.map (·.1))) ∧ Below w3.heap.size w3 wr) (fun _ c _ => n - (intOf c).toNat)
  case atStart => exact ⟨0, [], Nat.zero_le _, rfl, World.ownsRow_nil _ _ _ _, rfl, Below.refl _ _⟩
  case round =>
    obtain ⟨i, S, hi, rfl, ho, hS, hb⟩ := hrel
    have HO := Lib.hid ho
    have HS := Lib.hid hS
    have HBL := Lib.hid hb
    have HB := Lib.hid (below_next B3.out hb)
    have HSL := Lib.hid (show S.length ≤ i by rw [hS]; exact shows_le _ _)
    clear ho hS hb
    by_cases hin : i < n
    · have q0 : (i : Int) < (n : Int) := by omega
      have q1 : (i : Int) < 50000 := by have := HL.out; omega
      have hi1 : i + 1 ≤ n := hin
      have hi5 : i < 50000 := by have := HL.out; omega
      obtain ⟨x, hx⟩ : ∃ x, us[i]? = some x := ⟨_, List.getElem?_eq_getElem (by have := HN.out; omega)⟩
      obtain ⟨ad, cap', e1, hcx⟩ := holdsU_at (holdsU_below HV.out HB.out) n i HN.out.symm x hx
      cases e1
      have hux := HD.out x (List.mem_of_getElem? hx)
      have hfx := HF.out x (List.mem_of_getElem? hx)
      have hex := fst_atM hx
      obtain ⟨ye, yv⟩ := x
      dsimp only at hcx hux hfx hex
      obtain ⟨yo, yc, rfl⟩ := dots_shape hux ye.deps.length rfl
      obtain ⟨yn, hyn⟩ : ∃ m, m = ye.deps.length := ⟨_, rfl⟩
      rw [← hyn] at hcx hux
      have HC := Lib.hid hcx
      have HFX := Lib.hid hfx
      have HEX := Lib.hid hex
      have HPL := Lib.hid (show ye.path.length ≤ maxLen by have := hfx.2.2; unfold maxLen; omega)
      clear hx hcx hux hfx hex hyn hi
      go_upto_region 6 with fail
      go_upto_region 7 with (first
        | (refine load_evA_on (by rfl) 92 (.tmp 18) rfl (ad.add (i * 38)) rfl Tryz.underlying92 evSize HC.out ?_)
        | (refine store_new rfl 92 (.tmp 7) (.tmp 19) rfl rfl wr _ (evC ye (.slice yo yn yc)) 92 rfl rfl rfl (by rw [evSize, evC_size]) (by rw [evC_size]; rfl) (evC_one _ _ rfl) ?_; rintro W2 hg hb hlt; have E2 := Lib.hid (show EvAt W2 wr.heap.size 92 ye (.slice yo yn yc) from hg); have C2 := Lib.hid hb; have HB2 := Lib.hid (below_next HB.out hb); clear hg hb hlt))
      have HBL2 := Lib.hid (below_next HBL.out C2.out)
      have HO2 := Lib.hid (own_below HO.out C2.out)
      have HR2 := Lib.hid (rawM_block HRM.out ((below_next C3.out HBL2.out).block b (rawM_lt HRM.out)))
      obtain ⟨-, -, -, c3, c4, -⟩ := evAt_cells E2.out
      obtain ⟨kd, hkd⟩ : ∃ kd, ye.kind = kd := ⟨_, rfl⟩
      rw [hkd] at c3
      by_cases hk1 : kd = 1
      · subst hk1
        have hp : putE ye = true := (putE_iff ye).2 hkd
        obtain ⟨t, ht⟩ := HLP.out ye (List.mem_of_getElem? HEX.out) hp
        have FI := Lib.hid (first_tops HTO.out HPM.out (List.mem_of_getElem? HEX.out) hp ht)
        have FS := Lib.hid (show (((us.map (·.1)).take (i + 1)).filter putE).map (shE (us.map (·.1))) = S ++ [shE (us.map (·.1)) ye] by rw [shows_snoc HEX.out, hp, HS.out]; rfl)
        have L9 := Lib.hid (show (Instr.lookup 84 (.map (some b)) (.string (str ye.path)) false).run Tryz.prog W2 = .ok (.agg #[.int .i64 t.1, .int .i64 t.2]) W2 from by have h := rawM_look HR2.out Tryz.underlying9 Tryz.underlying84 (dot_zero _) ye.path HPL.out; rw [show rawT m ye.path = some (dotV t) from by unfold rawT; rw [ht]; rfl] at h; exact h)
        have IS := Lib.hid (fun w hv => isDir_any ps HPN.out HRI.out ye.path HFX.out.2.2 sv w hv)
        have CP := Lib.hid (fun w hT => copy_any ye.path ye.r ye.q HFX.out.2.2 HFX.out.1 HFX.out.2.1 w hT)
        clear hkd hp
        by_cases hd : ye.r = t.1 ∧ ye.q = t.2
        · obtain ⟨t1, t2⟩ := t
          dsimp only at hd L9 FI
          obtain ⟨d1, d2⟩ := hd
          rw [← d1, ← d2] at L9
          rw [decide_eq_true (show ye.r = t1 ∧ ye.q = t2 from ⟨d1, d2⟩), Bool.true_and] at FI
          clear d1 d2 ht
          obtain ⟨r, hr⟩ : ∃ r, (ps.any fun p => underP p ye.path) = r := ⟨_, rfl⟩
          rw [hr] at IS FI
          clear hr
          cases r with
          | true =>
            go_upto_region 10 with (first
              | (refine load_dot10 (by rfl) 29 (.tmp 25) rfl ⟨wr.heap.size, 0, none⟩ rfl ye.r ye.q Tryz.underlying29 (by kernel_rfl) (evAt_dot E2.out) ?_)
              | (at_lookup; refine wpList_lookup_raw rfl (.tmp 27) (.tmp 28) 84 false rfl b rfl _ _ rfl L9.out ?_)
              | (go_at_call 39; refine (IS.out _ (texts_below HTX.out HBL2.out)).mono ?_; rintro x W3 ⟨rfl, hb⟩; have C3b := Lib.hid hb; clear hb))
            have HB3 := Lib.hid (below_next HB2.out C3b.out)
            have E3 := Lib.hid (evAt_kept E2.out C3b.out)
            go_upto_region 11 with (first
              | (refine load_dot10 (by rfl) 29 (.tmp 37) rfl ⟨wr.heap.size, 0, none⟩ rfl ye.r ye.q Tryz.underlying29 (by kernel_rfl) (evAt_dot E3.out) ?_)
              | (go_at_call 40; refine (CP.out _ (powTab_below HT.out HB3.out)).mono ?_; rintro x W4 ⟨rfl, hb⟩; have C4 := Lib.hid hb; clear hb))
            have HBL5 := Lib.hid (below_next HBL2.out (below_next C3b.out C4.out))
            have E5 := Lib.hid (evAt_kept E2.out (below_next C3b.out C4.out))
            have HO5 := Lib.hid (own_below HO2.out (below_next C3b.out C4.out))
            obtain ⟨-, -, -, -, -, c5⟩ := evAt_cells E5.out
            have SE := Lib.hid (show shE (us.map (·.1)) ye = ⟨copyL ye.path ye.r ye.q, ye.r, ye.q, ye.sum, ye.size⟩ by unfold shE; rw [FI.out]; rfl)
            go_upto_region 12 with (first
              | (refine load_dot10 (by rfl) 29 (.tmp 42) rfl ⟨wr.heap.size, 0, none⟩ rfl ye.r ye.q Tryz.underlying29 (by kernel_rfl) (evAt_dot E5.out) ?_)
              | (refine load_sum_on (by rfl) 31 (.tmp 44) rfl wr.heap.size rfl E5.out Tryz.underlying31 (by kernel_rfl) ?_)
              | (refine build_as rfl 33 #[(0, .tmp 41), (1, .tmp 43), (2, .tmp 45), (3, .tmp 47)] rfl _ _ (sh_built ⟨copyL ye.path ye.r ye.q, ye.r, ye.q, ye.sum, ye.size⟩) (by simp [Act.eval]) ?_)
              | (refine build_shM rfl 49 rfl (.tmp 48) rfl _ rfl ⟨copyL ye.path ye.r ye.q, ye.r, ye.q, ye.sum, ye.size⟩ rfl ?_; rintro W6 hs6 hb6 hn6; have HS6 := Lib.hid hs6; have HB6 := Lib.hid (below_next HBL5.out hb6); have O6 := Lib.hid (own_below HO5.out hb6); clear hs6 hb6 hn6)
              | (at_builtin; refine append_shs rfl (.tmp 40) (.tmp 49) 24 rfl w3.heap.size 33 ie Tryz.underlying24 hie HIZ.out _ S _ rfl O6.out _ 1 1 rfl rfl (shAt_one HS6.out) (by have := HSL.out; simp; omega) HB6.out.size ?_; rintro v9 W9 ho hg; have HB9 := Lib.hid (below_grown HB6.out hg HB6.out.size (fun k hk => (O6.out.lt k hk).1)); have O9 := Lib.hid ho; clear ho hg))
            go_wp2
            go_roundw
            case rel => exact ⟨i + 1, _, hi1, by go_num, O9.out, by rw [FS.out, SE.out], HB9.out⟩
            case measure => simp [intOf] <;> omega
          | false =>
            go_upto_region 11 with (first
              | (refine load_dot10 (by rfl) 29 (.tmp 25) rfl ⟨wr.heap.size, 0, none⟩ rfl ye.r ye.q Tryz.underlying29 (by kernel_rfl) (evAt_dot E2.out) ?_)
              | (at_lookup; refine wpList_lookup_raw rfl (.tmp 27) (.tmp 28) 84 false rfl b rfl _ _ rfl L9.out ?_)
              | (go_at_call 39; refine (IS.out _ (texts_below HTX.out HBL2.out)).mono ?_; rintro x W3 ⟨rfl, hb⟩; have C3b := Lib.hid hb; clear hb))
            have HBL5 := Lib.hid (below_next HBL2.out C3b.out)
            have E5 := Lib.hid (evAt_kept E2.out C3b.out)
            have HO5 := Lib.hid (own_below HO2.out C3b.out)
            obtain ⟨-, -, -, -, -, c5⟩ := evAt_cells E5.out
            have SE := Lib.hid (show shE (us.map (·.1)) ye = ⟨ye.path, ye.r, ye.q, ye.sum, ye.size⟩ by unfold shE; rw [FI.out]; rfl)
            go_upto_region 12 with (first
              | (refine load_dot10 (by rfl) 29 (.tmp 42) rfl ⟨wr.heap.size, 0, none⟩ rfl ye.r ye.q Tryz.underlying29 (by kernel_rfl) (evAt_dot E5.out) ?_)
              | (refine load_sum_on (by rfl) 31 (.tmp 44) rfl wr.heap.size rfl E5.out Tryz.underlying31 (by kernel_rfl) ?_)
              | (refine build_as rfl 33 #[(0, .tmp 41), (1, .tmp 43), (2, .tmp 45), (3, .tmp 47)] rfl _ _ (sh_built ⟨ye.path, ye.r, ye.q, ye.sum, ye.size⟩) (by simp [Act.eval]) ?_)
              | (refine build_shM rfl 49 rfl (.tmp 48) rfl _ rfl ⟨ye.path, ye.r, ye.q, ye.sum, ye.size⟩ rfl ?_; rintro W6 hs6 hb6 hn6; have HS6 := Lib.hid hs6; have HB6 := Lib.hid (below_next HBL5.out hb6); have O6 := Lib.hid (own_below HO5.out hb6); clear hs6 hb6 hn6)
              | (at_builtin; refine append_shs rfl (.tmp 40) (.tmp 49) 24 rfl w3.heap.size 33 ie Tryz.underlying24 hie HIZ.out _ S _ rfl O6.out _ 1 1 rfl rfl (shAt_one HS6.out) (by have := HSL.out; simp; omega) HB6.out.size ?_; rintro v9 W9 ho hg; have HB9 := Lib.hid (below_grown HB6.out hg HB6.out.size (fun k hk => (O6.out.lt k hk).1)); have O9 := Lib.hid ho; clear ho hg))
            go_wp2
            go_roundw
            case rel => exact ⟨i + 1, _, hi1, by go_num, O9.out, by rw [FS.out, SE.out], HB9.out⟩
            case measure => simp [intOf] <;> omega
        · obtain ⟨t1, t2⟩ := t
          dsimp only at hd L9 FI
          rw [decide_eq_false hd, Bool.false_and] at FI
          have NEQ := Lib.hid (dots_neq (r := ye.r) (q := ye.q) (r' := t1) (q' := t2) (b := true) (by by_cases h1 : ye.r = t1 <;> by_cases h2 : ye.q = t2 <;> simp_all))
          clear hd ht
          go_upto_region 10 with (first
            | (refine load_dot10 (by rfl) 29 (.tmp 25) rfl ⟨wr.heap.size, 0, none⟩ rfl ye.r ye.q Tryz.underlying29 (by kernel_rfl) (evAt_dot E2.out) ?_)
            | (at_lookup; refine wpList_lookup_raw rfl (.tmp 27) (.tmp 28) 84 false rfl b rfl _ _ rfl L9.out ?_)
            | (refine binop_on (by rfl) .neq 29 29 (.tmp 26) (.tmp 29) rfl _ _ _ rfl rfl (dots_guard _ _ _ _ _) NEQ.out ?_))
          have HB3 := Lib.hid HB2.out
          go_upto_region 11 with (first
            | (refine load_dot10 (by rfl) 29 (.tmp 37) rfl ⟨wr.heap.size, 0, none⟩ rfl ye.r ye.q Tryz.underlying29 (by kernel_rfl) (evAt_dot E2.out) ?_)
            | (go_at_call 40; refine (CP.out _ (powTab_below HT.out HB3.out)).mono ?_; rintro x W4 ⟨rfl, hb⟩; have C4 := Lib.hid hb; clear hb))
          have HBL5 := Lib.hid (below_next HBL2.out C4.out)
          have E5 := Lib.hid (evAt_kept E2.out C4.out)
          have HO5 := Lib.hid (own_below HO2.out C4.out)
          obtain ⟨-, -, -, -, -, c5⟩ := evAt_cells E5.out
          have SE := Lib.hid (show shE (us.map (·.1)) ye = ⟨copyL ye.path ye.r ye.q, ye.r, ye.q, ye.sum, ye.size⟩ by unfold shE; rw [FI.out]; rfl)
          go_upto_region 12 with (first
            | (refine load_dot10 (by rfl) 29 (.tmp 42) rfl ⟨wr.heap.size, 0, none⟩ rfl ye.r ye.q Tryz.underlying29 (by kernel_rfl) (evAt_dot E5.out) ?_)
            | (refine load_sum_on (by rfl) 31 (.tmp 44) rfl wr.heap.size rfl E5.out Tryz.underlying31 (by kernel_rfl) ?_)
            | (refine build_as rfl 33 #[(0, .tmp 41), (1, .tmp 43), (2, .tmp 45), (3, .tmp 47)] rfl _ _ (sh_built ⟨copyL ye.path ye.r ye.q, ye.r, ye.q, ye.sum, ye.size⟩) (by simp [Act.eval]) ?_)
            | (refine build_shM rfl 49 rfl (.tmp 48) rfl _ rfl ⟨copyL ye.path ye.r ye.q, ye.r, ye.q, ye.sum, ye.size⟩ rfl ?_; rintro W6 hs6 hb6 hn6; have HS6 := Lib.hid hs6; have HB6 := Lib.hid (below_next HBL5.out hb6); have O6 := Lib.hid (own_below HO5.out hb6); clear hs6 hb6 hn6)
            | (at_builtin; refine append_shs rfl (.tmp 40) (.tmp 49) 24 rfl w3.heap.size 33 ie Tryz.underlying24 hie HIZ.out _ S _ rfl O6.out _ 1 1 rfl rfl (shAt_one HS6.out) (by have := HSL.out; simp; omega) HB6.out.size ?_; rintro v9 W9 ho hg; have HB9 := Lib.hid (below_grown HB6.out hg HB6.out.size (fun k hk => (O6.out.lt k hk).1)); have O9 := Lib.hid ho; clear ho hg))
          go_wp2
          go_roundw
          case rel => exact ⟨i + 1, _, hi1, by go_num, O9.out, by rw [FS.out, SE.out], HB9.out⟩
          case measure => simp [intOf] <;> omega
      · have q2 : (kd != 1) = true := by rw [bne, beq_eq_false_iff_ne.2 hk1]; rfl
        have FS := Lib.hid (show S = (((us.map (·.1)).take (i + 1)).filter putE).map (shE (us.map (·.1))) by
          rw [shows_snoc HEX.out, if_neg (fun hp => hk1 (hkd.symm.trans ((putE_iff ye).1 hp))), List.append_nil]; exact HS.out)
        clear hkd hk1
        go_wp2
        go_roundw
        case rel => exact ⟨i + 1, S, hi1, by go_num, HO2.out, FS.out, HBL2.out⟩
        case measure => simp [intOf] <;> omega
    · obtain rfl : i = n := by omega
      have q0 : ¬ (i : Int) < (i : Int) := by omega
      have HSE := Lib.hid (show S = showsE (us.map (·.1)) by rw [HS.out, List.take_of_length_le (by rw [List.length_map]; exact Nat.le_of_eq HN.out.symm)]; rfl)
      have ST := Lib.hid (sortSh_any 42 cmpF_view S w3.heap.size (by have := HSL.out; have := HL.out; omega) u5 wr HO.out)
      clear hi
      go_wp2_with (first
        | (go_at_call 41; refine ST.out.mono ?_; rintro x w9 ⟨rfl, S', h1, h2, h3⟩; have HS1 := Lib.hid h1; have HO9 := Lib.hid h2; have HB9 := Lib.hid (HBL.out.trans h3); clear h1 h2 h3))
      go_ret
      exact ⟨u5, rfl, ⟨S', by rw [← HSE.out]; exact HS1.out, holdsS_own HO9.out⟩, below_next B3.out HB9.out⟩
theorem view_any (us : List (Ev × Value)) (hl : us.length ≤ 20000) (hf : FitU us) (v : Value) (w : World) (hv : HoldsU w v us) (hd : DepsU w us) (hT : PowTab w) : Calls Tryz.prog 8 #[v] w fun x w' => ∃ y, x = .returned y ∧ HasView w' y (us.map (·.1)) ∧ Below w.heap.size w w' := view_wide us hl (fitV_of hf) v w hv hd hT
end Go.Proofs.YtppmbdpfledejaaGreatDoor
namespace Go.Proofs.YtppmbdpfledejaaGreatDoor
open Go.RowKit
/-- A deed's cells. -/
def deedC (d : DeedT) : List Value := [.int .u8 (d.who : Int), .int .u8 (d.other : Int), .int .u8 (d.path : Int), .bool d.learns, .bool d.gone, .int .u8 (d.size : Int)]
/-- A slice value whose elements are these deeds. -/
def HasDeeds (w : World) (v : Value) (l : List DeedT) : Prop :=
  ∃ ao cap, v = .slice ao l.length cap ∧ (ao = none → l = [] ∧ cap = 0) ∧ ∀ ad, ao = some ad → l.length ≤ cap ∧ ∀ i d, l[i]? = some d → ∀ j u, (deedC d)[j]? = some u → w.cell? (ad.add (i * 6 + j)) = some u
theorem deeds_below {w w' : World} {v : Value} {l : List DeedT} (h : HasDeeds w v l) (hb : Below w.heap.size w w') : HasDeeds w' v l := by
  obtain ⟨ao, cap, rfl, hnil, hc⟩ := h
  refine ⟨ao, cap, rfl, hnil, fun ad had => ⟨(hc ad had).1, fun i d hi j u hu => ?_⟩⟩
  have h1 := (hc ad had).2 i d hi j u hu
  exact (World.cell?_of_block (hb.block (ad.add (i * 6 + j)).block (World.block_lt_of_cell? w _ h1))).trans h1
theorem deeds_shape {w : World} {v : Value} {l : List DeedT} (h : HasDeeds w v l) (n : Nat) (hn : n = l.length) : ∃ ao cap, v = .slice ao n cap := by
  obtain ⟨ao, cap, rfl, -⟩ := h
  exact ⟨ao, cap, by rw [hn]⟩
end Go.Proofs.YtppmbdpfledejaaGreatDoor
