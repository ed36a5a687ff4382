/-
Texts that all claims of this seat share, part 9: SortSym, SortAll, ShowM, RawMap, JoinMem, PathSplit, HexaCode, PathCode, ViewAlive, ViewSearch, ViewIsDir.
-/
import Derived.Sort.Walk0
import Derived.Maps.OwnSet
import Derived.Sort.KeysCollected
import Derived.BigQuiet
import Derived.Deep.QuietTactic
import Derived.Lib.IndexLaws
import Derived.Test.YtppmbdpfledejaaGreatDoorShelf
import Derived.RangeFuncNested
import Derived.RangeFuncBound
import Derived.RangeFuncCalls
import Derived.RangeFuncLeaves
import Derived.RangeFuncFrom
import Derived.Shelf.Abstract
import Derived.Shelf.RegionOpen
import Derived.WalkKit
import Derived.OwnWalkIn
import Derived.TacticsInMore
import Derived.LoopNIn
import Derived.LoopIn
import Derived.Maps.AppendAt
import Derived.WideMake
import Derived.Test.YtppmbdpfledejaaGreatDoorPk8
namespace Go.Proofs.YtppmbdpfledejaaGreatDoor
open Go.RowKit
set_option maxRecDepth 100000 in
set_option maxHeartbeats 16000000 in
theorem symSh_any (F : FuncId) (hF : CmpF F) (n cap g B : Nat) (hn5 : n ≤ 50000) : ∀ (k : Nat) (P X Y Q : List Sh) (a m b : Nat), X.length + Y.length ≤ k → 0 < X.length → 0 < Y.length → SortedK Sh.path X → SortedK Sh.path Y → a = P.length → m = P.length + X.length → b = P.length + X.length + Y.length → ∀ w, w.ownsRow B 33 36 (.slice (some ⟨g, 0, none⟩) n cap) n (shsC (P ++ (X ++ (Y ++ Q)))) →
    Calls Tryz.prog 105 #[(.slice (some ⟨g, 0, none⟩) n cap), .int .i64 (a : Int), .int .i64 (m : Int), .int .i64 (b : Int), .func (.func F) #[] #[]] w fun x w' => x = .returned (.tuple #[]) ∧ ∃ S, StableK Sh.path (X ++ Y) S ∧ w'.ownsRow B 33 36 (.slice (some ⟨g, 0, none⟩) n cap) n (shsC (P ++ S ++ Q)) ∧ Below B w w'
  | 0, P, X, Y, Q, a, m, b, hk, hX, hY, sX, sY, ha, hm, hb, w, hw => by omega
  | k + 1, P, X, Y, Q, a, m, b, hk, hX, hY, sX, sY, ha, hm, hb, w, hw => by
    by_cases h1 : X.length = 1
    · obtain ⟨z, rfl⟩ := List.length_eq_one_iff.1 h1
      exact symA_any F hF P z Y Q a m b n cap g B hY sY ha hm hb hn5 w hw
    · by_cases h2 : Y.length = 1
      · obtain ⟨z, rfl⟩ := List.length_eq_one_iff.1 h2
        exact symB_any F hF P X z Q a m b n cap g B (by omega) sX ha hm hb hn5 w hw
      · have IH : ∀ (P' X' Y' Q' : List Sh) (a' m' b' : Nat), X'.length + Y'.length < X.length + Y.length → 0 < X'.length → 0 < Y'.length → SortedK Sh.path X' → SortedK Sh.path Y' → a' = P'.length → m' = P'.length + X'.length → b' = P'.length + X'.length + Y'.length → ∀ w, w.ownsRow B 33 36 (.slice (some ⟨g, 0, none⟩) n cap) n (shsC (P' ++ (X' ++ (Y' ++ Q')))) →
            Calls Tryz.prog 105 #[(.slice (some ⟨g, 0, none⟩) n cap), .int .i64 (a' : Int), .int .i64 (m' : Int), .int .i64 (b' : Int), .func (.func F) #[] #[]] w fun x w' => x = .returned (.tuple #[]) ∧ ∃ S, StableK Sh.path (X' ++ Y') S ∧ w'.ownsRow B 33 36 (.slice (some ⟨g, 0, none⟩) n cap) n (shsC (P' ++ S ++ Q')) ∧ Below B w w' := (fun P' X' Y' Q' a' m' b' hlt h1 h2 h3 h4 h5 h6 h7 w hw => symSh_any F hF n cap g B hn5 k P' X' Y' Q' a' m' b' (by omega) h1 h2 h3 h4 h5 h6 h7 w hw)
        by_cases hmid : (a + b) / 2 < m
        · exact symC1_any F hF P X Y Q a m b n cap g B (by omega) (by omega) sX sY ha hm hb hn5 IH hmid w hw
        · exact symC2_any F hF P X Y Q a m b n cap g B (by omega) (by omega) sX sY ha hm hb hn5 IH hmid w hw
end Go.Proofs.YtppmbdpfledejaaGreatDoor
namespace Go.Proofs.YtppmbdpfledejaaGreatDoor
open Go.RowKit
/-- Sorted block by block of k, alike in turn. -/
def BlockK (k : Nat) (l S : List Sh) : Prop := S.length = l.length ∧ (∀ p, fltK Sh.path S p = fltK Sh.path l p) ∧ ∀ j, SortedK Sh.path ((S.drop (j * k)).take k)
theorem block_all {k : Nat} {l S : List Sh} (h : BlockK k l S) (hk : l.length ≤ k) : StableK Sh.path l S := by
  refine ⟨?_, h.2.1, h.1⟩
  have := h.2.2 0
  rwa [Nat.zero_mul, List.drop_zero, List.take_of_length_le (by rw [h.1]; exact hk)] at this
/-- Of blocks of k the first ones, up to a, are merged to blocks of twice that. -/
structure MergeK (k a : Nat) (l S : List Sh) : Prop where
  len : S.length = l.length
  flt : ∀ p, fltK Sh.path S p = fltK Sh.path l p
  lo : ∀ j, (j + 1) * (2 * k) ≤ a → SortedK Sh.path ((S.drop (j * (2 * k))).take (2 * k))
  hi : ∀ j, a ≤ j * k → SortedK Sh.path ((S.drop (j * k)).take k)
theorem merge_start {k : Nat} {l S : List Sh} (h : BlockK k l S) (hk : 0 < k) : MergeK k 0 l S where
  len := h.1
  flt := h.2.1
  lo := fun j hj => by
    exfalso
    have : 0 < (j + 1) * (2 * k) := Nat.mul_pos (by omega) (by omega)
    omega
  hi := fun j _ => h.2.2 j
/-- One merge: a part between A and C, of two sorted halves. -/
theorem merge_part {k t : Nat} {l S X Y M A C : List Sh} (h : MergeK k (t * (2 * k)) l S) (hk : 0 < k) (eS : S = A ++ (X ++ (Y ++ C))) (hA : A.length = t * (2 * k)) (hXY : X.length + Y.length = 2 * k ∨ (X.length + Y.length ≤ 2 * k ∧ C = [])) (hM : StableK Sh.path (X ++ Y) M) : MergeK k ((t + 1) * (2 * k)) l (A ++ M ++ C) where
  len := by
    rw [← h.len, eS]
    have := hM.2.2
    simp only [List.length_append] at this ⊢; omega
  flt := fun p => by
    rw [← h.flt p, eS]
    simp only [fltK_append]
    have := hM.2.1 p
    rw [fltK_append] at this
    rw [this]; simp only [List.append_assoc]
  lo := fun j hj => by
    have hl := hM.2.2
    rw [List.length_append] at hl
    rcases Nat.lt_or_ge j t with hjt | hjt
    · have hle : (j + 1) * (2 * k) ≤ t * (2 * k) := Nat.mul_le_mul_right _ hjt
      have h0 := h.lo j hle
      have e1 : ∀ D : List Sh, ((A ++ D).drop (j * (2 * k))).take (2 * k) = (A.drop (j * (2 * k))).take (2 * k) := fun D => by
        rw [Nat.add_mul, Nat.one_mul] at hle
        rw [List.drop_append_of_le_length (by omega), List.take_append_of_le_length (by rw [List.length_drop]; omega)]
      rw [eS, e1] at h0
      rw [List.append_assoc, e1]; exact h0
    · have hjt2 : j = t := by
        rcases Nat.lt_or_ge t j with h1 | h1
        · have : (t + 2) * (2 * k) ≤ (j + 1) * (2 * k) := Nat.mul_le_mul_right _ (by omega)
          have h2 : (t + 2) * (2 * k) = (t + 1) * (2 * k) + 2 * k := by rw [show t + 2 = (t + 1) + 1 from rfl, Nat.add_mul (t + 1) 1, Nat.one_mul]
          omega
        · omega
      subst hjt2
      rw [← hA, List.append_assoc, List.drop_left]
      rcases hXY with hXY | ⟨hXY, rfl⟩
      · rw [List.take_append_of_le_length (by omega), List.take_of_length_le (by omega)]; exact hM.1
      · rw [List.append_nil, List.take_of_length_le (by omega)]; exact hM.1
  hi := fun j hj => by
    have hl := hM.2.2
    rw [List.length_append] at hl
    have hj2 : t * (2 * k) ≤ j * k := Nat.le_trans (Nat.mul_le_mul_right _ (by omega)) hj
    have h0 := h.hi j hj2
    rcases hXY with hXY | ⟨hXY, rfl⟩
    · have e1 : ∀ D : List Sh, D.length = 2 * k → (A ++ (D ++ C)).drop (j * k) = C.drop (j * k - (t + 1) * (2 * k)) := fun D hD => by
        have : (t + 1) * (2 * k) = t * (2 * k) + 2 * k := by rw [Nat.add_mul, Nat.one_mul]
        rw [← List.append_assoc, List.drop_append, List.drop_of_length_le (by rw [List.length_append]; omega), List.nil_append, List.length_append, hA, hD, this]
      rw [eS, ← List.append_assoc X, e1 (X ++ Y) (by rw [List.length_append]; exact hXY)] at h0
      rw [List.append_assoc, e1 M (by omega)]; exact h0
    · rw [List.append_nil, List.drop_of_length_le (by
        have : (t + 1) * (2 * k) = t * (2 * k) + 2 * k := by rw [Nat.add_mul, Nat.one_mul]
        rw [List.length_append]; omega), List.take_nil]
      exact List.Pairwise.nil
/-- Nothing is left to merge. -/
theorem merge_end {k t : Nat} {l S : List Sh} (h : MergeK k (t * (2 * k)) l S) (hn : l.length ≤ t * (2 * k) + k) : BlockK (2 * k) l S := by
  refine ⟨h.len, h.flt, fun j => ?_⟩
  rcases Nat.lt_or_ge j t with hj | hj
  · exact h.lo j (Nat.mul_le_mul_right _ hj)
  · rcases Nat.lt_or_ge t j with h1 | h1
    · have : (t + 1) * (2 * k) ≤ j * (2 * k) := Nat.mul_le_mul_right _ h1
      rw [Nat.add_mul, Nat.one_mul] at this
      rw [List.drop_of_length_le (by rw [h.len]; omega), List.take_nil]; exact List.Pairwise.nil
    · obtain rfl : j = t := by omega
      have h0 := h.hi (j * 2) (by rw [Nat.mul_assoc]; exact Nat.le_refl _)
      rw [Nat.mul_assoc] at h0
      have hl : (S.drop (j * (2 * k))).length ≤ k := by rw [List.length_drop, h.len]; omega
      rw [List.take_of_length_le hl] at h0
      rw [List.take_of_length_le (by omega)]; exact h0
/-- Blocks of twenty, sorted one behind the other. -/
structure FrontK (k a : Nat) (l S : List Sh) : Prop where
  len : S.length = l.length
  flt : ∀ p, fltK Sh.path S p = fltK Sh.path l p
  lo : ∀ j, (j + 1) * k ≤ a → SortedK Sh.path ((S.drop (j * k)).take k)
theorem front_start (k : Nat) (hk : 0 < k) (l : List Sh) : FrontK k 0 l l := ⟨rfl, fun _ => rfl, fun j hj => by
  exfalso
  have : 0 < (j + 1) * k := Nat.mul_pos (by omega) hk
  omega⟩
theorem front_step {k t b : Nat} {l S M : List Sh} (h : FrontK k (t * k) l S) (hk : 0 < k) (htb : t * k ≤ b) (hb : b ≤ S.length) (hbk : b = (t + 1) * k ∨ (b < (t + 1) * k ∧ b = S.length)) (hM : StableK Sh.path ((S.take b).drop (t * k)) M) : FrontK k ((t + 1) * k) l (S.take (t * k) ++ M ++ S.drop b) := by
  have e0 : (t + 1) * k = t * k + k := by rw [Nat.add_mul, Nat.one_mul]
  have hl := hM.2.2
  rw [List.length_drop, List.length_take, Nat.min_eq_left hb] at hl
  have eS : S = S.take (t * k) ++ ((S.take b).drop (t * k) ++ S.drop b) := by
    rw [← List.append_assoc]
    have : S.take (t * k) = (S.take b).take (t * k) := by rw [List.take_take, Nat.min_eq_left htb]
    rw [this, List.take_append_drop, List.take_append_drop]
  have hA : (S.take (t * k)).length = t * k := by rw [List.length_take]; omega
  refine ⟨?_, fun p => ?_, fun j hj => ?_⟩
  · rw [← h.len]; simp only [List.length_append, hA, List.length_drop]; omega
  · rw [← h.flt p]
    conv => rhs; rw [eS]
    simp only [fltK_append]
    rw [hM.2.1 p]; simp only [List.append_assoc]
  · rcases Nat.lt_or_ge j t with hjt | hjt
    · have hle : (j + 1) * k ≤ t * k := Nat.mul_le_mul_right _ hjt
      have h0 := h.lo j hle
      have e1 : ∀ D : List Sh, ((S.take (t * k) ++ D).drop (j * k)).take k = ((S.take (t * k)).drop (j * k)).take k := fun D => by
        rw [Nat.add_mul, Nat.one_mul] at hle
        rw [List.drop_append_of_le_length (by omega), List.take_append_of_le_length (by rw [List.length_drop]; omega)]
      rw [eS, e1] at h0
      rw [List.append_assoc, e1]; exact h0
    · have hjt2 : j = t := by
        rcases Nat.lt_or_ge t j with h1 | h1
        · have : (t + 2) * k ≤ (j + 1) * k := Nat.mul_le_mul_right _ (by omega)
          have h2 : (t + 2) * k = (t + 1) * k + k := by rw [show t + 2 = (t + 1) + 1 from rfl, Nat.add_mul (t + 1) 1, Nat.one_mul]
          omega
        · omega
      subst hjt2
      have e3 : (S.take (j * k) ++ M ++ S.drop b).drop (j * k) = M ++ S.drop b := by
        conv => lhs; rw [List.append_assoc]; arg 1; rw [← hA]
        rw [List.drop_left]
      rw [e3]
      rcases hbk with hbk | ⟨hbk, hbs⟩
      · rw [List.take_append_of_le_length (by omega), List.take_of_length_le (by omega)]; exact hM.1
      · rw [hbs, List.drop_length, List.append_nil, List.take_of_length_le (by omega)]; exact hM.1
theorem front_end {k t : Nat} {l S : List Sh} (h : FrontK k (t * k) l S) (hn : l.length ≤ t * k) : BlockK k l S := by
  refine ⟨h.len, h.flt, fun j => ?_⟩
  rcases Nat.lt_or_ge j t with hj | hj
  · exact h.lo j (Nat.mul_le_mul_right _ hj)
  · have : t * k ≤ j * k := Nat.mul_le_mul_right _ hj
    rw [List.drop_of_length_le (by rw [h.len]; omega), List.take_nil]; exact List.Pairwise.nil
theorem split2 (S : List Sh) (a k : Nat) : S.drop a = (S.drop a).take k ++ S.drop (a + k) := by
  have h := (List.take_append_drop k (S.drop a)).symm
  rwa [List.drop_drop] at h
theorem split4 (S : List Sh) (a k : Nat) : S = S.take a ++ ((S.drop a).take k ++ ((S.drop (a + k)).take k ++ S.drop (a + k + k))) := by
  rw [← split2 S (a + k) k, ← split2 S a k, List.take_append_drop]
theorem split5 (S : List Sh) (a k : Nat) : S = S.take a ++ ((S.drop a).take k ++ (S.drop (a + k) ++ [])) := by
  rw [List.append_nil, ← split2 S a k, List.take_append_drop]
theorem big_nums (k n : Nat) (hk : k < n) (hn : n ≤ 20000) : ∃ e : Nat, e = 2 * k ∧ 2 * (k : Int) = (e : Int) ∧ (k : Int) * 2 = (e : Int) ∧ IntKind.i64.wrap (e : Int) = (e : Int) := ⟨2 * k, rfl, by omega, by omega, by rw [IntKind.wrap_i64]; omega⟩
theorem add_nums (a k : Nat) (h : a + k ≤ 200000) : ∃ m : Nat, m = a + k ∧ (a : Int) + (k : Int) = (m : Int) ∧ IntKind.i64.wrap (m : Int) = (m : Int) := ⟨a + k, rfl, by omega, by rw [IntKind.wrap_i64]; omega⟩
set_option linter.unusedSimpArgs false in
set_option maxRecDepth 100000 in
set_option maxHeartbeats 16000000 in
theorem stableSh_any (F : FuncId) (hF : CmpF F) (l : List Sh) (n cap g B : Nat) (hn : n = l.length) (hn5 : n ≤ 20000) (w : World) (hw : w.ownsRow B 33 36 (.slice (some ⟨g, 0, none⟩) n cap) n (shsC l)) :
    Calls Tryz.prog 73 #[(.slice (some ⟨g, 0, none⟩) n cap), .int .i64 (n : Int), .func (.func F) #[] #[]] w fun x w' => x = .returned (.tuple #[]) ∧ ∃ S, StableK Sh.path l S ∧ w'.ownsRow B 33 36 (.slice (some ⟨g, 0, none⟩) n cap) n (shsC S) ∧ Below B w w' := by
  have HN := Lib.hid hn
  have HW := Lib.hid hw
  have INS := Lib.hid (fun l' a b hn' hab hbn w hw => insertSh_any F hF l' a b n cap g B hn' (by omega) hab hbn w hw)
  have SYMA := Lib.hid (fun P X Y Q a m b => symSh_any F hF n cap g B (by omega) (X.length + Y.length) P X Y Q a m b (Nat.le_refl _))
  clear hn hw hF
  go_enter Tryz.func73, Tryz.ntmps73
  go_wp2
  go_loopw [7, 8] (fun c d wr => ∃ (t : Nat) (S : List Sh), c = .int .i64 ((t * 20 : Nat) : Int) ∧ d = .int .i64 ((t * 20 + 20 : Nat) : Int) ∧ t * 20 ≤ n ∧ FrontK 20 (t * 20) l S ∧ wr.ownsRow B 33 36 (.slice (some ⟨g, 0, none⟩) n cap) n (shsC S) ∧ Below B w wr) (fun c _ _ => n - (intOf c).toNat)
  case atStart => exact ⟨0, l, rfl, rfl, by omega, by have h := front_start 20 (by omega) l; simpa using h, HW.out, Below.refl _ _⟩
  case round =>
    obtain ⟨t, S, rfl, rfl, htn, hfr, ho, hb⟩ := hrel
    have HFR := Lib.hid hfr
    have HO := Lib.hid ho
    have HB := Lib.hid hb
    have HSL := Lib.hid (show n = S.length by rw [hfr.len]; exact HN.out)
    clear hfr ho hb
    obtain ⟨a, ha⟩ : ∃ a, a = t * 20 := ⟨_, rfl⟩
    obtain ⟨b, hb⟩ : ∃ b, b = t * 20 + 20 := ⟨_, rfl⟩
    rw [← hb, ← ha]
    rw [← ha] at htn hb HFR
    have HA := Lib.hid ha
    have HBB := Lib.hid hb
    have HTN := Lib.hid htn
    generalize wr = w1 at *
    by_cases hbn : b ≤ n
    · have q1 : (b : Int) ≤ (n : Int) := by omega
      have q2 : IntKind.i64.wrap ((b : Int) + 20) = ((b + 20 : Nat) : Int) := by rw [IntKind.wrap_i64]; omega
      have IN := Lib.hid (INS.out S a b HSL.out (by omega) (by omega) _ HO.out)
      have hb5 : b ≤ 20000 := by omega
      have HBN := Lib.hid hbn
      clear ha hb hbn htn
      go_wp2_with (first
        | (go_at_call 104; refine IN.out.mono ?_; rintro x w2 ⟨rfl, M, h1, h2, h3⟩; have HM := Lib.hid h1; have HO2 := Lib.hid h2; have HB2 := Lib.hid (HB.out.trans h3); clear h1 h2 h3))
      go_roundw
      case rel =>
        have e1 : (t + 1) * 20 = b := by have := HA.out; have := HBB.out; omega
        have FS := front_step (k := 20) (t := t) (b := b) (l := l) (S := S) (M := M) (by rw [← HA.out]; exact HFR.out) (by omega) (by rw [← HA.out]; have := HBB.out; omega) (by rw [← HSL.out]; exact HBN.out) (.inl e1.symm) (by rw [← HA.out]; exact HM.out)
        rw [← HA.out] at FS
        exact ⟨t + 1, _, by rw [e1], by rw [e1]; go_num, by rw [e1]; exact HBN.out, FS, HO2.out, HB2.out⟩
      case measure => have := HBB.out; have := HBN.out; simp [intOf] <;> omega
    · have q1 : ¬ (b : Int) ≤ (n : Int) := by omega
      have IN := Lib.hid (INS.out S a n HSL.out htn (Nat.le_refl _) _ HO.out)
      have HBN := Lib.hid hbn
      clear ha hb hbn htn
      go_wp2_with (first
        | (go_at_call 104; refine IN.out.mono ?_; rintro x w2 ⟨rfl, M, h1, h2, h3⟩; have HM := Lib.hid h1; have HO2 := Lib.hid h2; have HB2 := Lib.hid (HB.out.trans h3); clear h1 h2 h3))
      have HBK := Lib.hid (show BlockK 20 l (S.take a ++ M ++ S.drop n) by
        have FS := front_step (k := 20) (t := t) (b := n) (l := l) (S := S) (M := M) (by rw [← HA.out]; exact HFR.out) (by omega) (by rw [← HA.out]; exact HTN.out) (Nat.le_of_eq HSL.out) (.inr ⟨by have := HA.out; have := HBB.out; have := HBN.out; omega, HSL.out⟩) (by rw [← HA.out]; exact HM.out)
        rw [← HA.out] at FS
        exact front_end FS (by have := HA.out; have := HBB.out; have := HBN.out; have := HN.out; omega))
      generalize S.take a ++ M ++ S.drop n = S2 at *
      clear HFR HO HSL HA HBB HTN HBN HM IN HB q1
      rename_i w2
      go_loopw [6] (fun c wr => ∃ (k : Nat) (S : List Sh), c = .int .i64 (k : Int) ∧ 20 ≤ k ∧ k ≤ 40000 ∧ BlockK k l S ∧ wr.ownsRow B 33 36 (.slice (some ⟨g, 0, none⟩) n cap) n (shsC S) ∧ Below B w wr) (fun c _ => 40000 - (intOf c).toNat)
      case atStart => exact ⟨20, S2, rfl, Nat.le_refl _, by omega, HBK.out, HO2.out, HB2.out⟩
      case round =>
        clear HBK HO2 HB2
        obtain ⟨k, S, rfl, hk20, hk4, hbk, ho, hb⟩ := hrel
        have HK := Lib.hid hbk
        have HO := Lib.hid ho
        have HB := Lib.hid hb
        clear hbk ho hb
        by_cases hkn : k < n
        · have q1 : (k : Int) < (n : Int) := by omega
          obtain ⟨e, he, u1, u2, u3⟩ := big_nums k n hkn hn5
          have HE := Lib.hid he
          have MS := Lib.hid (merge_start HK.out (by omega))
          clear he
          generalize wr = w3 at *
          go_wp2
          go_loopw [7, 8] (fun c d wr => ∃ (t : Nat) (S : List Sh), c = .int .i64 ((t * e : Nat) : Int) ∧ d = .int .i64 ((t * e + e : Nat) : Int) ∧ t * e ≤ n ∧ MergeK k (t * (2 * k)) l S ∧ wr.ownsRow B 33 36 (.slice (some ⟨g, 0, none⟩) n cap) n (shsC S) ∧ Below B w wr) (fun c _ _ => n - (intOf c).toNat)
          case atStart => exact ⟨0, S, by simp, by simp, by omega, by rw [Nat.zero_mul]; exact MS.out, HO.out, HB.out⟩
          case round =>
            clear MS HO HB HK S
            obtain ⟨t, S, rfl, rfl, htn, hmk, ho, hb⟩ := hrel
            have HMK := Lib.hid hmk
            have HO := Lib.hid ho
            have HB := Lib.hid hb
            have HSL := Lib.hid (show n = S.length by rw [hmk.len]; exact HN.out)
            clear hmk ho hb
            obtain ⟨a, ha⟩ : ∃ a, a = t * e := ⟨_, rfl⟩
            obtain ⟨b, hb⟩ : ∃ b, b = t * e + e := ⟨_, rfl⟩
            rw [← hb, ← ha]
            rw [← ha] at htn hb
            have he := HE.out
            have HA := Lib.hid (show a = t * (2 * k) by rw [ha, he])
            have HT2 := Lib.hid (show (2 * t) * k = a ∧ (2 * t + 1) * k = a + k by
              have h1 : (2 * t) * k = t * (2 * k) := by rw [Nat.mul_comm 2 t, Nat.mul_assoc]
              rw [Nat.add_mul, Nat.one_mul, h1, HA.out]; exact ⟨rfl, rfl⟩)
            have HE1 := Lib.hid (show (t + 1) * e = b by rw [Nat.add_mul, Nat.one_mul]; omega)
            have HBB := Lib.hid hb
            obtain ⟨m, hm, v1, v2⟩ := add_nums a k (by omega)
            obtain ⟨b2, hb2, v3, v4⟩ := add_nums b e (by omega)
            have HM := Lib.hid hm
            have HB22 := Lib.hid hb2
            have sX := HMK.out.hi (2 * t) (by rw [HT2.out.1, HA.out]; exact Nat.le_refl _)
            have sY := HMK.out.hi (2 * t + 1) (by rw [HT2.out.2, ← HA.out]; omega)
            rw [HT2.out.1] at sX
            rw [HT2.out.2] at sY
            generalize wr = w4 at *
            by_cases hbn : b ≤ n
            · have q2 : (b : Int) ≤ (n : Int) := by omega
              have hbe : a + k + k = b := by omega
              have hSl := HSL.out
              have eS := split4 S a k
              rw [hbe] at eS
              have SY := Lib.hid (SYMA.out (S.take a) ((S.drop a).take k) ((S.drop (a + k)).take k) (S.drop b) a m b (by rw [List.length_take, List.length_drop]; omega) (by rw [List.length_take, List.length_drop]; omega) sX sY (by rw [List.length_take]; omega) (by rw [List.length_take, List.length_take, List.length_drop]; omega) (by rw [List.length_take, List.length_take, List.length_take, List.length_drop, List.length_drop]; omega) w4 (by rw [← eS]; exact HO.out))
              have MP := Lib.hid (fun M h => merge_part (A := S.take a) (C := S.drop b) (M := M) HMK.out (by omega) eS (by rw [List.length_take, ← HA.out]; omega) (.inl (by rw [List.length_take, List.length_take, List.length_drop, List.length_drop]; omega)) h)
              have HBN := Lib.hid hbn
              clear ha hb hm hb2 hbn htn he hbe hSl eS sX sY
              go_wp2_with (first
                | (go_at_call 105; refine SY.out.mono ?_; rintro x w5 ⟨rfl, M, h1, h2, h3⟩; have HMM := Lib.hid h1; have HO2 := Lib.hid h2; have HB2 := Lib.hid (HB.out.trans h3); clear h1 h2 h3))
              go_roundw
              case rel => exact ⟨t + 1, _, by rw [HE1.out], by rw [HE1.out, ← HB22.out], by rw [HE1.out]; exact HBN.out, MP.out M HMM.out, HO2.out, HB2.out⟩
              case measure => have := HBB.out; have := HBN.out; have := HE.out; simp [intOf] <;> omega
            · have q2 : ¬ (b : Int) ≤ (n : Int) := by omega
              by_cases hmn : m < n
              · have q3 : (m : Int) < (n : Int) := by omega
                have hSl := HSL.out
                have eS := split5 S a k
                have sY2 : SortedK Sh.path (S.drop (a + k)) := by rwa [List.take_of_length_le (by rw [List.length_drop]; omega)] at sY
                have SY := Lib.hid (SYMA.out (S.take a) ((S.drop a).take k) (S.drop (a + k)) [] a m n (by rw [List.length_take, List.length_drop]; omega) (by rw [List.length_drop]; omega) sX sY2 (by rw [List.length_take]; omega) (by rw [List.length_take, List.length_take, List.length_drop]; omega) (by rw [List.length_take, List.length_take, List.length_drop, List.length_drop]; omega) w4 (by rw [← eS]; exact HO.out))
                have MP := Lib.hid (fun M h => merge_end (merge_part (A := S.take a) (C := []) (M := M) HMK.out (by omega) eS (by rw [List.length_take, ← HA.out]; omega) (.inr ⟨by rw [List.length_take, List.length_drop, List.length_drop]; omega, rfl⟩) h) (by have := HE1.out; have := HN.out; have h9 : (t + 1) * (2 * k) = (t + 1) * e := (by rw [he]); rw [h9]; omega))
                clear ha hb hm hb2 hmn htn he hSl eS sX sY sY2
                go_wp2_with (first
                  | (go_at_call 105; refine SY.out.mono ?_; rintro x w5 ⟨rfl, M, h1, h2, h3⟩; have HMM := Lib.hid h1; have HO2 := Lib.hid h2; have HB2 := Lib.hid (HB.out.trans h3); clear h1 h2 h3))
                go_roundw
                case rel => exact ⟨e, _, rfl, by have := HE.out; omega, by have := HE.out; omega, by have h := MP.out M HMM.out; rw [← HE.out] at h; exact h, HO2.out, HB2.out⟩
                case measure => have := HE.out; simp [intOf] <;> omega
              · have q3 : ¬ (m : Int) < (n : Int) := by omega
                have MP := Lib.hid (show BlockK (2 * k) l S from merge_end HMK.out (by rw [← HA.out]; have := HN.out; omega))
                clear ha hb hm hb2 hmn htn he sX sY
                go_wp2
                go_roundw
                case rel => exact ⟨e, _, rfl, by have := HE.out; omega, by have := HE.out; omega, by have h := MP.out; rw [← HE.out] at h; exact h, HO.out, HB.out⟩
                case measure => have := HE.out; simp [intOf] <;> omega
        · have q1 : ¬ (k : Int) < (n : Int) := by omega
          have HST := Lib.hid (block_all HK.out (by have := HN.out; omega))
          go_wp2
          refine bodyPost_end (results_none rfl _ _ _) rfl ?_
          exact ⟨rfl, S, HST.out, HO.out, HB.out⟩
set_option maxRecDepth 100000 in
set_option maxHeartbeats 16000000 in
theorem insNil_any (F : FuncId) (w : World) : Calls Tryz.prog 104 #[.slice none 0 0, .int .i64 0, .int .i64 0, .func (.func F) #[] #[]] w fun x w' => x = .returned (.tuple #[]) ∧ w' = w := by
  go_enter Tryz.func104, Tryz.ntmps104
  go_wp2
  go_loopw [8] (fun c wr => c = .int .i64 1 ∧ wr = w) (fun _ _ => 0)
  case atStart => exact ⟨rfl, rfl⟩
  case round =>
    obtain ⟨rfl, rfl⟩ := hrel
    go_wp2
    refine bodyPost_end (results_none rfl _ _ _) rfl ?_
    exact ⟨rfl, rfl⟩
set_option maxRecDepth 100000 in
set_option maxHeartbeats 16000000 in
theorem stableNil_any (F : FuncId) (w : World) : Calls Tryz.prog 73 #[.slice none 0 0, .int .i64 0, .func (.func F) #[] #[]] w fun x w' => x = .returned (.tuple #[]) ∧ w' = w := by
  have IN := Lib.hid (insNil_any F w)
  go_enter Tryz.func73, Tryz.ntmps73
  go_wp2
  go_loopw [7, 8] (fun c d wr => c = .int .i64 0 ∧ d = .int .i64 20 ∧ wr = w) (fun _ _ _ => 0)
  case atStart => exact ⟨rfl, rfl, rfl⟩
  case round =>
    obtain ⟨rfl, rfl, rfl⟩ := hrel
    go_wp2_with (first
      | (go_at_call 104; refine IN.out.mono ?_; rintro x w2 ⟨rfl, rfl⟩))
    go_loopw [6] (fun c wr => c = .int .i64 20 ∧ wr = w2) (fun _ _ => 0)
    case atStart => exact ⟨rfl, rfl⟩
    case round =>
      obtain ⟨rfl, rfl⟩ := hrel
      go_wp2
      refine bodyPost_end (results_none rfl _ _ _) rfl ?_
      exact ⟨rfl, rfl⟩
set_option maxRecDepth 100000 in
set_option maxHeartbeats 16000000 in
theorem sortSh_any (F : FuncId) (hF : CmpF F) (l : List Sh) (B : Nat) (hn5 : l.length ≤ 20000) (v : Value) (w : World) (hw : w.ownsRow B 33 36 v l.length (shsC l)) :
    Calls Tryz.prog 41 #[v, .func (.func F) #[] #[]] w fun x w' => x = .returned (.tuple #[]) ∧ ∃ S, StableK Sh.path l S ∧ w'.ownsRow B 33 36 v S.length (shsC S) ∧ Below B w w' := by
  obtain ⟨n, hn⟩ : ∃ n, n = l.length := ⟨_, rfl⟩
  rw [← hn] at hw hn5
  rcases hw.2 with ⟨rfl, h0⟩ | ⟨g, cap, cur, rfl, rest⟩
  · obtain rfl : l = [] := List.eq_nil_of_length_eq_zero (by omega)
    have SN := Lib.hid (stableNil_any F w)
    clear hw h0 hF hn hn5
    go_enter Tryz.func41, Tryz.ntmps41
    go_wp2_with (first
      | (go_at_call 73; refine SN.out.mono ?_; rintro x w2 ⟨rfl, rfl⟩))
    refine bodyPost_end (results_none rfl _ _ _) rfl ?_
    exact ⟨rfl, [], stable_nil, World.ownsRow_nil _ _ _ _, Below.refl _ _⟩
  · have ST := Lib.hid (stableSh_any F hF l n cap g B hn hn5 w hw)
    have HN := Lib.hid hn
    clear hw rest hF hn
    go_enter Tryz.func41, Tryz.ntmps41
    go_wp2_with (first
      | (go_at_call 73; refine ST.out.mono ?_; rintro x w2 ⟨rfl, S, h1, h2, h3⟩; have HS := Lib.hid h1; have HO := Lib.hid h2; have HB := Lib.hid h3; clear h1 h2 h3))
    refine bodyPost_end (results_none rfl _ _ _) rfl ?_
    exact ⟨rfl, S, HS.out, by rw [HS.out.2.2, ← HN.out]; exact HO.out, HB.out⟩
end Go.Proofs.YtppmbdpfledejaaGreatDoor
namespace Go.Proofs.YtppmbdpfledejaaGreatDoor
open Go.RowKit
def putE (e : Ev) : Bool := decide (e.kind = 1)
/-- f keeps e from its path itself. -/
def hideE (f e : Ev) : Bool := underP f.path e.path || (f.path == e.path && decide (0 < cmpD f.r f.q e.r e.q))
def firstE (h : List Ev) (e : Ev) : Bool := (h.filter putE).all fun f => !hideE f e
def shE (h : List Ev) (e : Ev) : Sh := ⟨if firstE h e then e.path else copyL e.path e.r e.q, e.r, e.q, e.sum, e.size⟩
def showsE (h : List Ev) : List Sh := (h.filter putE).map (shE h)
theorem putE_iff (e : Ev) : putE e = true ↔ e.kind = 1 := by simp [putE]
theorem firstE_iff (h : List Ev) (e : Ev) : firstE h e = true ↔ ∀ f ∈ h, putE f = true → underP f.path e.path = false ∧ (f.path = e.path → ¬ 0 < cmpD f.r f.q e.r e.q) := by
  unfold firstE hideE
  rw [List.all_eq_true]
  constructor
  · intro H f hf hp
    have h1 := H f (List.mem_filter.2 ⟨hf, hp⟩)
    simp only [Bool.not_eq_true', Bool.or_eq_false_iff, Bool.and_eq_false_iff, beq_eq_false_iff_ne, decide_eq_false_iff_not] at h1
    exact ⟨h1.1, fun hpp => h1.2.resolve_left fun h => h hpp⟩
  · intro H f hf
    obtain ⟨hf, hp⟩ := List.mem_filter.1 hf
    obtain ⟨h1, h2⟩ := H f hf hp
    simp only [Bool.not_eq_true', Bool.or_eq_false_iff, Bool.and_eq_false_iff, beq_eq_false_iff_ne, decide_eq_false_iff_not]
    refine ⟨h1, ?_⟩
    by_cases hpp : f.path = e.path
    · exact .inr (h2 hpp)
    · exact .inl hpp
theorem firstE_not (h : List Ev) (e : Ev) (f : Ev) (hf : f ∈ h) (hp : putE f = true) (hx : underP f.path e.path = true ∨ (f.path = e.path ∧ 0 < cmpD f.r f.q e.r e.q)) : firstE h e = false := by
  cases hh : firstE h e with
  | false => rfl
  | true =>
    obtain ⟨h1, h2⟩ := (firstE_iff h e).1 hh f hf hp
    rcases hx with hx | ⟨hx, hy⟩
    · rw [h1] at hx; cases hx
    · exact absurd hy (h2 hx)
/-- Of each path at which there is a Put the dot that no other one is above. -/
def TopsOf (l : List Ev) (m : List UInt8 → Option (Int × Int)) : Prop :=
  ∀ p, (m p = none → ∀ e ∈ l, putE e = true → e.path ≠ p) ∧ ∀ t, m p = some t → (∃ e ∈ l, putE e = true ∧ e.path = p ∧ e.r = t.1 ∧ e.q = t.2) ∧ ∀ e ∈ l, putE e = true → e.path = p → cmpD e.r e.q t.1 t.2 ≤ 0
def putT (m : List UInt8 → Option (Int × Int)) (e : Ev) : List UInt8 → Option (Int × Int) := fun p => if p = e.path then some (e.r, e.q) else m p
theorem tops_nil : TopsOf [] fun _ => none := fun p => ⟨fun _ e h => (by cases h), fun t h => (by cases h)⟩
theorem cmpD_self (r q : Int) : cmpD r q r q = 0 := (cmpD_zero r q r q).2 ⟨rfl, rfl⟩
theorem cmpD_up {a b c d e f : Int} (h1 : cmpD a b c d ≤ 0) (h2 : 0 < cmpD e f c d) : cmpD a b e f ≤ 0 := by
  rcases cmp_cases a b c d with ⟨x, y⟩ | ⟨x, y⟩ | ⟨x, y⟩ <;> rcases cmp_cases e f c d with ⟨u, v⟩ | ⟨u, v⟩ | ⟨u, v⟩ <;> rcases cmp_cases a b e f with ⟨i, j⟩ | ⟨i, j⟩ | ⟨i, j⟩ <;> omega
theorem cmpD_turn (a b c d : Int) : 0 < cmpD a b c d ↔ cmpD c d a b < 0 := by
  rcases cmp_cases a b c d with ⟨x, y⟩ | ⟨x, y⟩ | ⟨x, y⟩ <;> rcases cmp_cases c d a b with ⟨u, v⟩ | ⟨u, v⟩ | ⟨u, v⟩ <;> omega
theorem tops_keep {l : List Ev} {m : List UInt8 → Option (Int × Int)} {e : Ev} (H : TopsOf l m) (h : putE e = false ∨ ∃ t, m e.path = some t ∧ ¬ 0 < cmpD e.r e.q t.1 t.2) : TopsOf (l ++ [e]) m := by
  intro p
  obtain ⟨h1, h2⟩ := H p
  refine ⟨fun hm f hf hp => ?_, fun t ht => ⟨?_, fun f hf hp hpp => ?_⟩⟩
  · rcases List.mem_append.1 hf with hf | hf
    · exact h1 hm f hf hp
    · rw [List.mem_singleton.1 hf] at hp ⊢
      rcases h with h | ⟨t, ht, -⟩
      · rw [h] at hp; cases hp
      · intro e1; rw [e1, hm] at ht; cases ht
  · obtain ⟨f, hf, hx⟩ := (h2 t ht).1
    exact ⟨f, List.mem_append.2 (.inl hf), hx⟩
  · rcases List.mem_append.1 hf with hf | hf
    · exact (h2 t ht).2 f hf hp hpp
    · rw [List.mem_singleton.1 hf] at hp hpp ⊢
      rcases h with h | ⟨u, hu, hn⟩
      · rw [h] at hp; cases hp
      · rw [hpp, ht] at hu; cases hu; omega
theorem tops_put {l : List Ev} {m : List UInt8 → Option (Int × Int)} {e : Ev} (H : TopsOf l m) (he : putE e = true) (h : m e.path = none ∨ ∃ t, m e.path = some t ∧ 0 < cmpD e.r e.q t.1 t.2) : TopsOf (l ++ [e]) (putT m e) := by
  intro p
  obtain ⟨h1, h2⟩ := H p
  unfold putT
  by_cases hpe : p = e.path
  · subst hpe
    rw [if_pos rfl]
    refine ⟨fun hm => (by cases hm), fun t ht => ?_⟩
    cases ht
    refine ⟨⟨e, by simp, he, rfl, rfl, rfl⟩, fun f hf hp hpp => ?_⟩
    rcases List.mem_append.1 hf with hf | hf
    · rcases h with h | ⟨t, ht, hlt⟩
      · exact absurd hpp (h1 h f hf hp)
      · exact cmpD_up ((h2 t ht).2 f hf hp hpp) hlt
    · rw [List.mem_singleton.1 hf, cmpD_self]; exact Int.le_refl _
  · rw [if_neg hpe]
    refine ⟨fun hm f hf hp => ?_, fun t ht => ⟨?_, fun f hf hp hpp => ?_⟩⟩
    · rcases List.mem_append.1 hf with hf | hf
      · exact h1 hm f hf hp
      · rw [List.mem_singleton.1 hf]; exact fun e1 => hpe e1.symm
    · obtain ⟨f, hf, hx⟩ := (h2 t ht).1
      exact ⟨f, List.mem_append.2 (.inl hf), hx⟩
    · rcases List.mem_append.1 hf with hf | hf
      · exact (h2 t ht).2 f hf hp hpp
      · rw [List.mem_singleton.1 hf] at hpp; exact absurd hpp.symm hpe
/-- An event is seen at its path itself, if it is the top there, and nothing lies below. -/
theorem first_tops {h : List Ev} {m : List UInt8 → Option (Int × Int)} (H : TopsOf h m) {ks : List (List UInt8)} (hk : ∀ p, p ∈ ks ↔ (m p).isSome = true) {e : Ev} (he : e ∈ h) (hp : putE e = true) {t : Int × Int} (ht : m e.path = some t) :
    firstE h e = (decide (e.r = t.1 ∧ e.q = t.2) && !ks.any fun p => underP p e.path) := by
  obtain ⟨⟨f, hf, hpf, hff, hr, hq⟩, hmax⟩ := (H e.path).2 t ht
  by_cases hd : e.r = t.1 ∧ e.q = t.2
  · rw [decide_eq_true hd, Bool.true_and]
    cases ha : ks.any fun p => underP p e.path with
    | true =>
      obtain ⟨p, hpk, hu⟩ := List.any_eq_true.1 ha
      obtain ⟨u, hu2⟩ := Option.isSome_iff_exists.1 ((hk p).1 hpk)
      obtain ⟨⟨g, hg, hpg, hgg, -⟩, -⟩ := (H p).2 u hu2
      exact firstE_not h e g hg hpg (.inl (by rw [hgg]; exact hu))
    | false =>
      refine (firstE_iff h e).2 fun g hg hpg => ⟨?_, fun hgp hlt => ?_⟩
      · cases hu : underP g.path e.path with
        | false => rfl
        | true =>
          have : (ks.any fun p => underP p e.path) = true := List.any_eq_true.2 ⟨g.path, (hk _).2 (by
            cases hm : m g.path with
            | some _ => rfl
            | none => exact absurd rfl ((H g.path).1 hm g hg hpg)), hu⟩
          rw [ha] at this; cases this
      · have := hmax g hg hpg hgp
        rw [hd.1, hd.2] at hlt; omega
  · rw [decide_eq_false hd, Bool.false_and]
    refine firstE_not h e f hf hpf (.inr ⟨hff, ?_⟩)
    have h1 := hmax e he hp rfl
    rw [hr, hq]
    rcases cmp_cases e.r e.q t.1 t.2 with ⟨x, y⟩ | ⟨x, y⟩ | ⟨x, y⟩
    · exact absurd y hd
    · exact (cmpD_turn _ _ _ _).2 (by omega)
    · omega
/-! ### what lies below, found by halving -/
def leastU (d : List UInt8) : List UInt8 := d ++ [47, 0]
theorem bl_append (d a b : List UInt8) : Op.bytesLess (d ++ a) (d ++ b) = Op.bytesLess a b := by
  induction d with
  | nil => rfl
  | cons c t ih => rw [List.cons_append, List.cons_append, Op.bytesLess]; simp [ih]
theorem under_least {p d : List UInt8} (h : underP p d = true) : Op.bytesLess p (leastU d) = false := by
  obtain ⟨r, hr, rfl⟩ := (under_iff p d).1 h
  unfold leastU
  rw [bl_append]
  cases r with
  | nil => exact absurd rfl hr
  | cons c t =>
    rw [Op.bytesLess, Op.bytesLess]
    simp
    cases t <;> simp [Op.bytesLess]
theorem between_under {x p d : List UInt8} (hp : underP p d = true) (h1 : Op.bytesLess x (leastU d) = false) (h2 : Op.bytesLess p x = false) : underP x d = true := by
  obtain ⟨r, hr, rfl⟩ := (under_iff p d).1 hp
  clear hp
  rw [under_iff]
  unfold leastU at h1
  induction d generalizing x with
  | nil =>
    simp only [List.nil_append] at h1 h2 ⊢
    cases x with
    | nil => simp [Op.bytesLess] at h1
    | cons a t =>
      simp only [Op.bytesLess] at h1 h2
      have ha : a = 47 := by
        rcases UInt8.lt_or_lt_of_ne (a := a) (b := 47) |> fun f => Classical.em (a = 47) with h | h
        · exact h
        · exfalso
          rcases UInt8.lt_or_lt_of_ne h with h | h
          · simp [h] at h1
          · simp [h] at h2
      subst ha
      refine ⟨t, fun e => ?_, rfl⟩
      subst e
      simp [Op.bytesLess] at h1
  | cons c d ih =>
    simp only [List.cons_append] at h1 h2 ⊢
    cases x with
    | nil => simp [Op.bytesLess] at h1
    | cons a t =>
      simp only [Op.bytesLess] at h1 h2
      have ha : a = c := by
        rcases Classical.em (a = c) with h | h
        · exact h
        · exfalso
          rcases UInt8.lt_or_lt_of_ne h with h | h
          · simp [h] at h1
          · simp [h] at h2
      subst ha
      simp at h1 h2
      obtain ⟨q, hq, e⟩ := ih (x := t) h1 h2
      exact ⟨q, hq, by rw [e]⟩
/-- The first one that isn't below the least: if any lies below, it does. -/
theorem search_under {ks : List (List UInt8)} (hk : ks.Pairwise fun a b => Op.bytesLess a b = true) (d : List UInt8) {i : Nat} (hi : i ≤ ks.length) (h1 : ∀ t p, t < i → ks[t]? = some p → Op.bytesLess p (leastU d) = true) (h2 : ∀ p, ks[i]? = some p → Op.bytesLess p (leastU d) = false) :
    (ks.any fun p => underP p d) = match ks[i]? with | some p => underP p d | none => false := by
  cases ha : ks.any fun p => underP p d with
  | true =>
    obtain ⟨p, hp, hu⟩ := List.any_eq_true.1 ha
    obtain ⟨j, hj, rfl⟩ := List.getElem_of_mem hp
    have hij : i ≤ j := by
      rcases Nat.lt_or_ge j i with h | h
      · have := h1 j _ h (List.getElem?_eq_getElem hj)
        rw [under_least hu] at this; cases this
      · exact h
    have hil : i < ks.length := by omega
    rw [List.getElem?_eq_getElem hil]
    refine (between_under hu (h2 _ (List.getElem?_eq_getElem hil)) ?_).symm
    rcases Nat.lt_or_ge i j with h | h
    · exact bl_asymm (List.pairwise_iff_getElem.1 hk i j hil hj h)
    · obtain rfl : i = j := by omega
      exact bytesLess_irrefl _
  | false =>
    cases hx : ks[i]? with
    | none => rfl
    | some p => exact (Bool.eq_false_iff.2 fun hu => by rw [Bool.eq_false_iff] at ha; exact ha (List.any_eq_true.2 ⟨p, List.mem_of_getElem? hx, hu⟩)).symm
/-! ### of heads -/
end Go.Proofs.YtppmbdpfledejaaGreatDoor
namespace Go.Proofs.YtppmbdpfledejaaGreatDoor
open Go.RowKit Go.Maps
/-- An element as it stands. -/
def rawR (v : Value) : Option (DataW Value × List MemPlace) := some (.held v, [])
/-- Block b is a map by text of at most n entries; what each text has. -/
def RawM (P : Program) (k : TypeId) (w : World) (b n : Nat) (m : List UInt8 → Option Value) : Prop :=
  ∃ D : DataW Value, w.ownsMap P k rawR b n D ∧ (∀ p, has D (.string p) = (m p).isSome) ∧ ∀ p v z, m p = some v → D.atKey (.string p) z = .held v
def putM (m : List UInt8 → Option Value) (p : List UInt8) (v : Value) : List UInt8 → Option Value := fun q => if q = p then some v else m q
theorem rawM_made (P : Program) (k : TypeId) (w : World) : RawM P k (w.alloc (.map #[] 0)) w.heap.size 0 fun _ => none :=
  ⟨.map [], World.ownsMap_made w _ _ _, fun p => by simp [has], fun p v z h => by cases h⟩
theorem rawM_block {P : Program} {k : TypeId} {w w' : World} {b n : Nat} {m : List UInt8 → Option Value} (h : RawM P k w b n m) (hb : w'.heap[b]? = w.heap[b]?) : RawM P k w' b n m := by
  obtain ⟨D, ⟨es, clock, h1, h2⟩, h3⟩ := h
  exact ⟨D, ⟨es, clock, hb.trans h1, h2⟩, h3⟩
theorem rawM_lt {P : Program} {k : TypeId} {w : World} {b n : Nat} {m : List UInt8 → Option Value} (h : RawM P k w b n m) : b < w.heap.size := by
  obtain ⟨D, h1, -⟩ := h; exact h1.lt
theorem str_key {P : Program} {k : TypeId} (hk : P.underlying k = some .string) (p : List UInt8) (hp : p.length ≤ maxLen) : keyOf P k (.string (str p)) = some (.string p) := by
  have h := WideMaps.keyOf_string_mk hk (s := str p) (by rw [str_size]; exact hp)
  exact h
theorem rawM_look {P : Program} {k t e : TypeId} {w : World} {b n : Nat} {m : List UInt8 → Option Value} (h : RawM P k w b n m) (hk : P.underlying k = some .string) (ht : P.underlying t = some (.map k e)) {z : Value} (hz : (zeroValue e).run P w = .ok z w) (p : List UInt8) (hp : p.length ≤ maxLen) :
    (Instr.lookup t (.map (some b)) (.string (str p)) false).run P w = .ok ((m p).getD z) w := by
  obtain ⟨D, hown, h1, h2⟩ := h
  obtain ⟨v, ps, hr, hv⟩ := hown.lookup (string_keyed hk) ht hz (show rawR z = some (.held z, []) from rfl) (str_key hk p hp)
  rw [hr]
  simp only [rawR, Option.some.injEq, Prod.mk.injEq] at hv
  cases hm : m p with
  | some u => rw [h2 p u _ hm] at hv; rw [DataW.held.inj hv.1]; rfl
  | none =>
    rw [atKey_of_not_has (by rw [h1, hm]; rfl)] at hv
    rw [DataW.held.inj hv.1]; rfl
theorem rawM_look_ok {P : Program} {k t e : TypeId} {w : World} {b n : Nat} {m : List UInt8 → Option Value} (h : RawM P k w b n m) (hk : P.underlying k = some .string) (ht : P.underlying t = some (.map k e)) {z : Value} (hz : (zeroValue e).run P w = .ok z w) (p : List UInt8) (hp : p.length ≤ maxLen) :
    (Instr.lookup t (.map (some b)) (.string (str p)) true).run P w = .ok (.tuple #[(m p).getD z, .bool (m p).isSome]) w := by
  obtain ⟨D, hown, h1, h2⟩ := h
  obtain ⟨v, ps, hr, hv⟩ := hown.look_ok (string_keyed hk) ht hz (show rawR z = some (.held z, []) from rfl) (str_key hk p hp)
  rw [hr, h1]
  simp only [rawR, Option.some.injEq, Prod.mk.injEq] at hv
  cases hm : m p with
  | some u => rw [h2 p u _ hm] at hv; rw [DataW.held.inj hv.1]; rfl
  | none =>
    rw [atKey_of_not_has (by rw [h1, hm]; rfl)] at hv
    rw [DataW.held.inj hv.1]; rfl
theorem rawM_put {P : Program} {k t e : TypeId} {w : World} {b n : Nat} {m : List UInt8 → Option Value} (h : RawM P k w b n m) (hk : P.underlying k = some .string) (ht : P.underlying t = some (.map k e)) (hn : n < maxLen) (p : List UInt8) (hp : p.length ≤ maxLen) (v : Value) :
    ∃ w', (Instr.mapUpdate t (.map (some b)) (.string (str p)) v).run P w = .ok () w' ∧ RawM P k w' b (n + 1) (putM m p v) ∧ w.grownBy w' (some b) := by
  obtain ⟨D, hown, h1, h2⟩ := h
  obtain ⟨w', hr, ho, hg⟩ := hown.update (string_keyed hk) ht hn (str_key hk p hp) (show rawR v = some (.held v, []) from rfl)
  refine ⟨w', hr, ⟨_, ho, fun q => ?_, fun q u z hq => ?_⟩, hg⟩
  · unfold putM
    by_cases hqp : q = p
    · subst hqp; rw [if_pos rfl, has_put_same hown.isMap ((string_keyed hk).key (str_key hk q hp))]; rfl
    · rw [if_neg hqp, has_put_other (fun e => hqp (by injection e)), h1]
  · unfold putM at hq
    by_cases hqp : q = p
    · subst hqp
      rw [if_pos rfl] at hq
      rw [atKey_put_same hown.isMap ((string_keyed hk).key (str_key hk q hp)), Option.some.inj hq]
    · rw [if_neg hqp] at hq
      rw [atKey_put_other (fun e => hqp (by injection e)), h2 q u z hq]
/-- The texts of a map, each once. -/
theorem rawM_keys {P : Program} {k : TypeId} {w : World} {b n : Nat} {m : List UInt8 → Option Value} (h : RawM P k w b n m) (hk : P.underlying k = some .string) :
    ∃ D : DataW Value, w.ownsMap P k rawR b n D ∧ (strKeys D).Nodup ∧ (∀ p, p ∈ strKeys D ↔ (m p).isSome = true) ∧ Maps.size D ≤ n ∧ ∀ p ∈ strKeys D, p.length ≤ maxLen := by
  obtain ⟨D, hown, h1, h2⟩ := h
  refine ⟨D, hown, ?_, fun p => ?_, hown.size_le, strKeys_le hown hk⟩
  · obtain ⟨es, hD, hpw, _⟩ := hown.entries (string_keyed hk)
    obtain ⟨es', hD', hko⟩ := hown.keysOf
    obtain rfl : es = es' := by rw [hD] at hD'; simpa using hD'
    subst hD
    show (es.map fun p => strOf p.1).Nodup
    refine List.pairwise_map.2 (hpw.imp_of_mem fun {x y} hx hy hne e => hne ?_)
    obtain ⟨v, hv⟩ := hko x hx
    obtain ⟨u, hu⟩ := hko y hy
    obtain ⟨a, -, ha, -⟩ := Maps.keyOf_str hk hv
    obtain ⟨c, -, hc, -⟩ := Maps.keyOf_str hk hu
    rw [ha, hc] at e ⊢
    exact congrArg _ e
  · rw [← h1 p]
    obtain ⟨es, hD, hko⟩ := hown.keysOf
    subst hD
    rw [has_eq, List.any_eq_true]
    show p ∈ es.map (fun p => strOf p.1) ↔ _
    constructor
    · intro hp
      obtain ⟨x, hx, rfl⟩ := List.mem_map.1 hp
      obtain ⟨v, hv⟩ := hko x hx
      obtain ⟨a, -, ha, -⟩ := Maps.keyOf_str hk hv
      exact ⟨x, hx, by rw [ha]; simp [strOf, Lit.sameKey]⟩
    · rintro ⟨x, hx, hs⟩
      exact List.mem_map.2 ⟨x, hx, by rw [WideAt.sameKey_eq hs]; rfl⟩
/-- What is sorted rises, if no text stands twice. -/
theorem sorted_rises {ss : List (List UInt8)} (h : ss.Nodup) : (ss.mergeSort (fun x y => decide (x ≤ y))).Pairwise fun a b => Op.bytesLess a b = true := by
  have tr : ∀ a b c : List UInt8, leB a b = true → leB b c = true → leB a c = true := fun a b c h1 h2 => by simp only [leB, decide_eq_true_eq] at *; exact List.le_trans h1 h2
  have tot : ∀ a b : List UInt8, (leB a b || leB b a) = true := fun a b => by simp only [leB, Bool.or_eq_true, decide_eq_true_eq]; exact List.le_total a b
  have h1 := List.pairwise_mergeSort tr tot ss
  have h2 : (ss.mergeSort leB).Nodup := (List.mergeSort_perm ss leB).nodup_iff.2 h
  refine (h1.and h2).imp fun {a b} ⟨x, y⟩ => ?_
  have h3 : Op.bytesLess b a = false := by
    rw [Go.Proofs.bytesLess_eq]
    simp only [leB, decide_eq_true_eq] at x
    exact decide_eq_false fun h => (List.not_lt.2 x) h
  cases h4 : Op.bytesLess a b with
  | true => rfl
  | false => exact absurd (bl_tri a b h4 h3) y
end Go.Proofs.YtppmbdpfledejaaGreatDoor
namespace Go.Proofs.YtppmbdpfledejaaGreatDoor
open Go.RowKit
/-- A map of lists of events, wherever these lie. -/
def G2 (w : World) (b nn : Nat) (g : List UInt8 → List (Ev × Value)) (m : List UInt8 → Option Value) : Prop :=
  RawM Tryz.prog 9 w b nn m ∧ (∀ p v, m p = some v → HoldsU w v (g p)) ∧ ∀ p, m p = none → g p = []
theorem wpList_lookup_raw {P : Program} {w : World} {ops : Array Oper} {rest : List Oper} {o : Oper} {a : Act} {Q : Exit → Act → World → Prop} (hg : o.guard = none) (mm x : Operand) (t : TypeId) (c : Bool) (ho : o.op = .lookup t mm x c) (b : Nat) (hm : a.eval mm = .map (some b)) (key v : Value) (hx : a.eval x = key)
    (hr : (Instr.lookup t (.map (some b)) key c).run P w = .ok v w) (h : wpList P ops Q rest (a.put o.dst v) w) : wpList P ops Q (o :: rest) a w := by
  refine wpList_plain hg fun K hK => ?_
  unfold Oper.wp
  simp [execOp, ho, hm, hx, hr, Result.andThen]
  exact hK _ _ h
theorem wpList_put_raw {P : Program} {w : World} {ops : Array Oper} {rest : List Oper} {o : Oper} {a : Act} {Q : Exit → Act → World → Prop} (hg : o.guard = none) (mm x y : Operand) (t k e : TypeId) (ho : o.op = .mapUpdate t mm x y) (b n : Nat) (m : List UInt8 → Option Value) (h : RawM P k w b n m) (hk : P.underlying k = some .string) (ht : P.underlying t = some (.map k e)) (hn : n < maxLen)
    (hm : a.eval mm = .map (some b)) (p : List UInt8) (hp : p.length ≤ maxLen) (hx : a.eval x = .string (str p)) (v : Value) (hy : a.eval y = v) (hK : ∀ w', RawM P k w' b (n + 1) (putM m p v) → w.grownBy w' (some b) → wpList P ops Q rest (a.put o.dst undef) w') : wpList P ops Q (o :: rest) a w := by
  refine wpList_plain hg fun K hK' => ?_
  obtain ⟨w', hr, h1, h2⟩ := rawM_put h hk ht hn p hp v
  unfold Oper.wp
  simp [execOp, ho, hm, hx, hy, hr, Result.andThen]
  exact hK' _ _ (hK w' h1 h2)
end Go.Proofs.YtppmbdpfledejaaGreatDoor
namespace Go.Proofs.YtppmbdpfledejaaGreatDoor
open Go.RowKit Go.Shelf
attribute [local go_sem] Oper.semAt_some
theorem wrap_i64 (x : Int) : IntKind.i64.wrap x = wrap64 x := by rw [IntKind.wrap_i64, wrap64]
end Go.Proofs.YtppmbdpfledejaaGreatDoor
namespace Go.Proofs.YtppmbdpfledejaaGreatDoor
open Go.RowKit
theorem dec_digs (m : Nat) : Lib.decDigits m = digs m := by
  induction m using Nat.strongRecOn with
  | _ m ih =>
    by_cases h : m < 10
    · rw [digs_lo m h, Lib.decDigits, dif_pos h]
    · rw [digs_hi m (by omega), Lib.decDigits, dif_neg h, ih _ (by omega)]
theorem itoa_num (n : Int) : Lib.itoa n = numL n := by
  unfold Lib.itoa numL
  by_cases h : n < 0
  · rw [if_pos h, if_pos h, dec_digs]
  · rw [if_neg h, if_neg h, dec_digs]; congr 1; omega
theorem number_any (w : World) (n : Int) (h0 : -9223372036854775808 ≤ n) (h1 : n < 9223372036854775808) (hT : PowTab w) :
    Calls Tryz.prog 72 #[.int .i64 n] w fun e w' => e = .returned (.string (str (numL n))) ∧ Below w.heap.size w w' := by
  have HC := Lib.hid (Tryz.strconv_FormatInt_10 n h0 (by omega) w hT)
  go_enter Tryz.func72, Tryz.ntmps72
  go_wp2_with (first | (go_at_call 103; refine HC.out.mono ?_; rintro e w' ⟨rfl, k, os, rfl⟩))
  go_ret
  exact ⟨by rw [itoa_num]; rfl, ⟨rfl, rfl, rfl, by simp [Sort.grow, World.drewN], fun i hi => Array.getElem?_append_left hi⟩⟩
end Go.Proofs.YtppmbdpfledejaaGreatDoor
namespace Go.Proofs.YtppmbdpfledejaaGreatDoor
open Go.RowKit
set_option maxHeartbeats 4000000 in
theorem copy_any (s : List UInt8) (r q : Int) (hs : s.length < 1152921504606846976) (hr : -9223372036854775808 ≤ r ∧ r < 9223372036854775808) (hq : -9223372036854775808 ≤ q ∧ q < 9223372036854775808) (w : World) (hT : PowTab w) :
    Calls Tryz.prog 40 #[.string (str s), .agg #[.int .i64 r, .int .i64 q]] w fun e w' => e = .returned (.string (str (copyL s r q))) ∧ Below w.heap.size w w' := by
  have HT := Lib.hid hT
  have N1 := Lib.hid (fun w => number_any w r hr.1 hr.2)
  have N2 := Lib.hid (fun w => number_any w q hq.1 hq.2)
  have HL := Lib.hid (And.intro hs (And.intro (numL_length r hr.1 hr.2) (numL_length q hq.1 hq.2)))
  obtain ⟨R, hR⟩ : ∃ R, numL r = R := ⟨_, rfl⟩
  obtain ⟨Q, hQ⟩ : ∃ Q, numL q = Q := ⟨_, rfl⟩
  obtain ⟨A1, hA1⟩ : ∃ A1, s ++ [126] = A1 := ⟨_, rfl⟩
  obtain ⟨A2, hA2⟩ : ∃ A2, A1 ++ R = A2 := ⟨_, rfl⟩
  obtain ⟨A3, hA3⟩ : ∃ A3, A2 ++ [45] = A3 := ⟨_, rfl⟩
  obtain ⟨A4, hA4⟩ : ∃ A4, A3 ++ Q = A4 := ⟨_, rfl⟩
  have HE := Lib.hid (show A4 = copyL s r q by rw [← hA4, ← hA3, ← hA2, ← hA1, ← hR, ← hQ]; simp [copyL])
  have hA := Lib.hid (And.intro hA1 (And.intro hA2 (And.intro hA3 hA4)))
  rw [hR] at N1 HL
  rw [hQ] at N2 HL
  have c0 : (w.alloc (.cells #[.int .i64 r, .int .i64 q] 29 (0, 0))).cell? ⟨w.heap.size, 0, none⟩ = some (.int .i64 r) := by rw [cell_of_row _ _ 0 _ _ _ (heap_last w _)]; rfl
  have c1 : (w.alloc (.cells #[.int .i64 r, .int .i64 q] 29 (0, 0))).cell? ⟨w.heap.size, 1, none⟩ = some (.int .i64 q) := by rw [cell_of_row _ _ 1 _ _ _ (heap_last w _)]; rfl
  have B0 := Lib.hid ((Below.refl w.heap.size w).alloc (Nat.le_refl _) (.cells #[.int .i64 r, .int .i64 q] 29 (0, 0)))
  clear hT hs hr hq hR hQ hA1 hA2 hA3 hA4
  go_enter Tryz.func40, Tryz.ntmps40
  go_wp2
  refine wp_region_held_drew (S := fun w' => Below (w.alloc (.cells #[.int .i64 r, .int .i64 q] 29 (0, 0))).heap.size (w.alloc (.cells #[.int .i64 r, .int .i64 q] 29 (0, 0))) w') (by kernel_rfl) (below_draws (Below.refl _ _) 1) (fun hHeld => ?_)
  generalize (w.alloc (.cells #[.int .i64 r, .int .i64 q] 29 (0, 0))).drew = wd at hHeld ⊢
  refine take_at (i := 0) 5 rfl rfl (by kernel_rfl) (by kernel_rfl) (by kernel_rfl) (fun _ _ _ h => h) (sure_yes (by rfl) (fun w => by go_simp; try with_reducible rfl)) hHeld ?_
  simp only [List.setIfInBounds_toArray, List.set_cons_zero, List.set_cons_succ]
  refine take_at (i := 1) 6 rfl rfl (by kernel_rfl) (by kernel_rfl) (by kernel_rfl) (fun _ _ _ h => h) (sure_yes (by rfl) (add_as (l := s) (m := [126]) rfl rfl rfl (by have h1 := HL.out.1; have h2 := HL.out.2.1; have h3 := HL.out.2.2; have e1 := congrArg List.length hA.out.1; have e2 := congrArg List.length hA.out.2.1; have e3 := congrArg List.length hA.out.2.2.1; simp at e1 e2 e3 ⊢; omega) hA.out.1)) hHeld ?_
  simp only [List.setIfInBounds_toArray, List.set_cons_zero, List.set_cons_succ]
  refine take_at (i := 2) 7 rfl rfl (by kernel_rfl) (by kernel_rfl) (by kernel_rfl) (fun _ _ _ h => h) (sure_yes (by rfl) (fun w => by go_simp; try with_reducible rfl)) hHeld ?_
  simp only [List.setIfInBounds_toArray, List.set_cons_zero, List.set_cons_succ]
  refine take_at (i := 7) 12 rfl rfl (by kernel_rfl) (by kernel_rfl) (by kernel_rfl) (fun _ _ _ h => h) (sure_yes (by rfl) (fun w => by go_simp; try with_reducible rfl)) hHeld ?_
  simp only [List.setIfInBounds_toArray, List.set_cons_zero, List.set_cons_succ]
  refine take_at (i := 3) 8 rfl rfl (by kernel_rfl) (by kernel_rfl) (by kernel_rfl) (fun _ _ _ h => h) (cell_yields (by rfl) 3 (.tmp 7) rfl w.heap.size 0 rfl .i64 r Tryz.underlying3 (fun w' h => (cell_same (h.block w.heap.size (by simp)) 0).trans c0)) hHeld ?_
  simp only [List.setIfInBounds_toArray, List.set_cons_zero, List.set_cons_succ]
  refine take_at (i := 8) 13 rfl rfl (by kernel_rfl) (by kernel_rfl) (by kernel_rfl) (fun _ _ _ h => h) (cell_yields (by rfl) 2 (.tmp 12) rfl w.heap.size 1 rfl .i64 q Tryz.underlying2 (fun w' h => (cell_same (h.block w.heap.size (by simp)) 1).trans c1)) hHeld ?_
  simp only [List.setIfInBounds_toArray, List.set_cons_zero, List.set_cons_succ]
  refine wpAnyH_ready (rs := [4]) (by kernel_rfl) (by simp) ?_
  refine AllReadyH.cons rfl (fun K hK => ?_) AllReadyH.nil
  go_simp
  go_at_call 72
  refine (N1.out _ (powTab_below HT.out (below_next B0.out hHeld))).mono ?_
  rintro e w2 ⟨rfl, hb⟩
  dsimp only
  refine hK.out _ _ (below_next hHeld hb) (fun hHeld => ?_)
  clear hK K hb
  refine take_at (i := 5) 10 rfl rfl (by kernel_rfl) (by kernel_rfl) (by kernel_rfl) (fun _ _ _ h => h) (sure_yes (by rfl) (add_as (l := A1) (m := R) rfl rfl rfl (by have h1 := HL.out.1; have h2 := HL.out.2.1; have h3 := HL.out.2.2; have e1 := congrArg List.length hA.out.1; have e2 := congrArg List.length hA.out.2.1; have e3 := congrArg List.length hA.out.2.2.1; simp at e1 e2 e3 ⊢; omega) hA.out.2.1)) hHeld ?_
  simp only [List.setIfInBounds_toArray, List.set_cons_zero, List.set_cons_succ]
  refine take_at (i := 6) 11 rfl rfl (by kernel_rfl) (by kernel_rfl) (by kernel_rfl) (fun _ _ _ h => h) (sure_yes (by rfl) (add_as (l := A2) (m := [45]) rfl rfl rfl (by have h1 := HL.out.1; have h2 := HL.out.2.1; have h3 := HL.out.2.2; have e1 := congrArg List.length hA.out.1; have e2 := congrArg List.length hA.out.2.1; have e3 := congrArg List.length hA.out.2.2.1; simp at e1 e2 e3 ⊢; omega) hA.out.2.2.1)) hHeld ?_
  simp only [List.setIfInBounds_toArray, List.set_cons_zero, List.set_cons_succ]
  refine wpAnyH_ready (rs := [9]) (by kernel_rfl) (by simp) ?_
  refine AllReadyH.cons rfl (fun K hK => ?_) AllReadyH.nil
  go_simp
  go_at_call 72
  refine (N2.out _ (powTab_below HT.out (below_next B0.out hHeld))).mono ?_
  rintro e w2 ⟨rfl, hb⟩
  dsimp only
  refine hK.out _ _ (below_next hHeld hb) (fun hHeld => ?_)
  clear hK K hb
  refine take_at (i := 10) 15 rfl rfl (by kernel_rfl) (by kernel_rfl) (by kernel_rfl) (fun _ _ _ h => h) (sure_yes (by rfl) (add_as (l := A3) (m := Q) rfl rfl rfl (by have h1 := HL.out.1; have h2 := HL.out.2.1; have h3 := HL.out.2.2; have e1 := congrArg List.length hA.out.1; have e2 := congrArg List.length hA.out.2.1; have e3 := congrArg List.length hA.out.2.2.1; simp at e1 e2 e3 ⊢; omega) hA.out.2.2.2)) hHeld ?_
  simp only [List.setIfInBounds_toArray, List.set_cons_zero, List.set_cons_succ]
  refine take_at (i := 11) 4 rfl rfl (by kernel_rfl) (by kernel_rfl) (by kernel_rfl) (fun _ _ _ h => h) (sure_yes (by rfl) (fun w => by go_simp; try with_reducible rfl)) hHeld ?_
  simp only [List.setIfInBounds_toArray, List.set_cons_zero, List.set_cons_succ]
  refine wpAnyH_done (by kernel_rfl) ?_ _
  go_wp2
  go_ret
  exact ⟨by rw [← HE.out]; rfl, below_next B0.out hHeld⟩
theorem prefix_of (s d : List UInt8) : Lib.hasPrefix s d = (s.take d.length == d) := by
  rw [Lib.hasPrefix, Bool.eq_iff_iff, List.isPrefixOf_iff_prefix, beq_iff_eq, List.prefix_iff_eq_take]
  exact eq_comm
set_option maxHeartbeats 4000000 in
theorem under_any (s d : List UInt8) (w : World) : Calls Tryz.prog 71 #[.string (str s), .string (str d)] w fun e w' => e = .returned (.bool (underP s d)) ∧ Below w.heap.size w w' := by
  obtain ⟨r, hr⟩ : ∃ r, r = Lib.trimPrefix s d := ⟨_, rfl⟩
  have HC := Lib.hid (show ∀ w, Calls Tryz.prog 102 #[.string (str s), .string (str d)] w fun e w' => e = .returned (.tuple #[.string (str r), .bool (Lib.hasPrefix s d)]) ∧ w = w' from fun w => by
    refine (Tryz.strings_CutPrefix (str s) (str d) w).mono fun e w' h => ?_
    rw [show (str s).data.toList = s from by simp [str], show (str d).data.toList = d from by simp [str], ← hr] at h
    exact ⟨h.1, h.2.symm⟩)
  rw [prefix_of] at HC
  have hr' : r = if (s.take d.length == d) = true then s.drop d.length else s := by rw [hr, Lib.trimPrefix, prefix_of]
  obtain ⟨m, hm⟩ : ∃ m, m = r.length := ⟨_, rfl⟩
  have hsz : (str r).size = m := by rw [str_size, hm]
  cases hp : (s.take d.length == d) with
  | false =>
    have HU := Lib.hid (show underP s d = false by rw [underP, hp]; simp)
    rw [hp] at HC
    clear hr' hr hm hp
    go_enter Tryz.func71, Tryz.ntmps71
    go_wp2_with (first | (go_at_call 102; refine (HC.out _).mono ?_; rintro e w1 ⟨rfl, rfl⟩))
    go_ret
    exact ⟨by rw [HU.out]; rfl, Below.refl _ _⟩
  | true =>
    rw [hp] at HC hr'
    rw [if_pos rfl] at hr'
    have hml : m = s.length - d.length := by rw [hm, hr', List.length_drop]
    have HU := Lib.hid (show underP s d = (decide (1 < m) && s.getD d.length 0 == 47) by
      rw [underP, hp, Bool.true_and]
      congr 1
      rw [Bool.eq_iff_iff, decide_eq_true_eq, decide_eq_true_eq]; omega)
    by_cases h1 : 1 < m
    · obtain ⟨c, hc⟩ : ∃ c, r[0]? = some c := ⟨r[0]'(by omega), List.getElem?_eq_getElem _⟩
      have i1 : ∀ w, (Instr.index 9 (.string (str r)) (.int .i64 0)).run Tryz.prog w = .ok (.int .u8 (c.toNat : Int)) w := fun w => index_str (P := Tryz.prog) w r .i64 0 c hc Tryz.underlying9
      obtain ⟨x, hx⟩ : ∃ x : Nat, x = c.toNat := ⟨_, rfl⟩
      have HU2 := Lib.hid (show underP s d = ((x : Int) == 47) by
        rw [HU.out, decide_eq_true h1, Bool.true_and]
        rw [hr', List.getElem?_drop, Nat.add_zero] at hc
        rw [List.getD_eq_getElem?_getD, hc, hx, Bool.eq_iff_iff, beq_iff_eq, beq_iff_eq]
        simp only [Option.getD_some]
        constructor
        · intro e; rw [e]; rfl
        · intro e; exact UInt8.toNat_inj.1 (show c.toNat = 47 by omega))
      rw [← hx] at i1
      have d1 : decide ((m : Int) > 1) = true := decide_eq_true (by omega)
      clear hr' hr hm hp hml h1 hc hx
      go_enter Tryz.func71, Tryz.ntmps71
      go_wp2_with (first | (go_at_call 102; refine (HC.out _).mono ?_; rintro e w1 ⟨rfl, rfl⟩))
      go_ret
      exact ⟨by rw [HU2.out]; rfl, Below.refl _ _⟩
    · have HU2 := Lib.hid (show underP s d = false by rw [HU.out, decide_eq_false h1]; rfl)
      have d1 : decide ((m : Int) > 1) = false := decide_eq_false (by omega)
      clear hr' hr hm hp hml h1
      go_enter Tryz.func71, Tryz.ntmps71
      go_wp2_with (first | (go_at_call 102; refine (HC.out _).mono ?_; rintro e w1 ⟨rfl, rfl⟩))
      go_ret
      exact ⟨by rw [HU2.out]; rfl, Below.refl _ _⟩
end Go.Proofs.YtppmbdpfledejaaGreatDoor
namespace Go.Proofs.YtppmbdpfledejaaGreatDoor
open Go.RowKit
attribute [local go_sem] run_makeMap_plain
def dotV (t : Int × Int) : Value := .agg #[.int .i64 t.1, .int .i64 t.2]
def rawT (m : List UInt8 → Option (Int × Int)) : List UInt8 → Option Value := fun p => (m p).map dotV
theorem rawT_put (m : List UInt8 → Option (Int × Int)) (e : Ev) : rawT (putT m e) = putM (rawT m) e.path (dotV (e.r, e.q)) := by
  funext p
  unfold rawT putT putM
  by_cases h : p = e.path
  · rw [if_pos h, if_pos h]; rfl
  · rw [if_neg h, if_neg h]
theorem dot_zero (w : World) : (zeroValue 29).run Tryz.prog w = .ok (dotV (0, 0)) w := by kernel_rfl
/-- Block b is a map that tells of each path the dot of the Put there that none is above. -/
def TopsAt (w : World) (b : Nat) (us : List (Ev × Value)) : Prop := ∃ (k : Nat) (m : List UInt8 → Option (Int × Int)), k ≤ us.length ∧ RawM Tryz.prog 9 w b k (rawT m) ∧ TopsOf (us.map (·.1)) m
/-- Events whose numbers are of 64 bits, and whose paths a memory can hold: all that a view asks of them. -/
def FitV (us : List (Ev × Value)) : Prop := ∀ x ∈ us, I64 x.1.r ∧ I64 x.1.q ∧ x.1.path.length < 1152921504606846976
theorem fitV_of {us : List (Ev × Value)} (h : FitU us) : FitV us := fun x hx => ⟨(h x hx).1, (h x hx).2.1, (h x hx).2.2.2⟩
theorem box_dot {w : World} {B : Nat} {T : TypeId} {r q : Int} (h : w.heap[B]? = some (.cells #[.int .i64 r, .int .i64 q] T (0, 0))) : w.cell? ⟨B, 0, none⟩ = some (.int .i64 r) ∧ w.cell? ⟨(⟨B, 0, none⟩ : Addr).block, (⟨B, 0, none⟩ : Addr).off + 1, none⟩ = some (.int .i64 q) := by
  constructor <;> (simp only [World.cell?, h]; rfl)
set_option maxRecDepth 100000 in
set_option maxHeartbeats 16000000 in
theorem alive_any (us : List (Ev × Value)) (hl : us.length ≤ 20000) (hf : FitV us) (v : Value) (w : World) (hv : HoldsU w v us) (hd : DepsU w us) : Calls Tryz.prog 36 #[v] w fun x w' => ∃ b : Nat, x = .returned (.map (some b)) ∧ w.heap.size ≤ b ∧ TopsAt w' b us ∧ Below w.heap.size w w' := by
  obtain ⟨n, hn⟩ : ∃ n, n = us.length := ⟨_, rfl⟩
  have HN := Lib.hid hn
  have HL := Lib.hid (show n ≤ 20000 by omega)
  obtain ⟨ao, cap, hvs⟩ := holdsU_shape hv n hn
  subst hvs
  have HV := Lib.hid hv
  have HD := Lib.hid hd
  have HF := Lib.hid hf
  have BM := Lib.hid ((Below.refl w.heap.size w).alloc (Nat.le_refl _) (.map #[] 0))
  have RM0 := Lib.hid (rawM_made Tryz.prog 9 w)
  clear hl hf hv hd hn
  go_enter Tryz.func36, Tryz.ntmps36
  go_upto_region 2 with fail
  generalize w.alloc (.map #[] 0) = WM at *
  obtain ⟨b, hb0⟩ : ∃ b, b = w.heap.size := ⟨_, rfl⟩
  rw [← hb0] at RM0 ⊢
  have HEQ := Lib.hid hb0
  clear hb0
  go_wp2
  go_loopw [11] (fun c wr => ∃ (i k : Nat) (m : List UInt8 → Option (Int × Int)), i ≤ n ∧ k ≤ i ∧ c = .int .i64 (i : Int) ∧ RawM Tryz.prog 9 wr b k (rawT m) ∧ TopsOf ((us.map (·.1)).take i) m ∧ Below w.heap.size w wr) (fun c _ => n - (intOf c).toNat)
  case atStart => exact ⟨0, 0, fun _ => none, Nat.zero_le _, Nat.le_refl _, rfl, RM0.out, tops_nil, BM.out⟩
  case round =>
    obtain ⟨i, k, m, hi, hk, rfl, hrm, htp, hb⟩ := hrel
    have HRM := Lib.hid hrm
    have HTP := Lib.hid htp
    have HB := Lib.hid hb
    clear hrm htp hb
    by_cases hin : i < n
    · have q0 : (i : Int) < (n : Int) := by omega
      have q1 : (i : Int) < 50000 := by have := HL.out; omega
      have hi1 : i + 1 ≤ n := hin
      have hi5 : i < 50000 := by have := HL.out; omega
      obtain ⟨x, hx⟩ : ∃ x, us[i]? = some x := ⟨_, List.getElem?_eq_getElem (by have := HN.out; omega)⟩
      obtain ⟨ad, cap', e1, hcx⟩ := holdsU_at (holdsU_below HV.out HB.out) n i HN.out.symm x hx
      cases e1
      have hux := HD.out x (List.mem_of_getElem? hx)
      have hfx := HF.out x (List.mem_of_getElem? hx)
      have hex := fst_atM hx
      obtain ⟨ye, yv⟩ := x
      dsimp only at hcx hux hfx hex
      obtain ⟨yo, yc, rfl⟩ := dots_shape hux ye.deps.length rfl
      obtain ⟨yn, hyn⟩ : ∃ m, m = ye.deps.length := ⟨_, rfl⟩
      rw [← hyn] at hcx hux
      have HC := Lib.hid hcx
      have HFX := Lib.hid hfx
      have HEX := Lib.hid hex
      have HPL := Lib.hid (show ye.path.length ≤ maxLen by have := hfx.2.2; unfold maxLen; omega)
      clear hx hcx hux hfx hex hyn hi
      go_upto_region 4 with fail
      go_upto_region 5 with (first
        | (refine load_evA_on (by rfl) 92 (.tmp 13) rfl (ad.add (i * 38)) rfl Tryz.underlying92 evSize HC.out ?_)
        | (refine store_new rfl 92 (.tmp 5) (.tmp 14) rfl rfl wr _ (evC ye (.slice yo yn yc)) 92 rfl rfl rfl (by rw [evSize, evC_size]) (by rw [evC_size]; rfl) (evC_one _ _ rfl) ?_; rintro W2 hg hb hlt; have E2 := Lib.hid (show EvAt W2 wr.heap.size 92 ye (.slice yo yn yc) from hg); have C2 := Lib.hid hb; have HB2 := Lib.hid (below_next HB.out hb); clear hg hb hlt))
      have HR2 := Lib.hid (rawM_block HRM.out (C2.out.block b (rawM_lt HRM.out)))
      obtain ⟨-, -, -, c3, c4, -⟩ := evAt_cells E2.out
      obtain ⟨kd, hkd⟩ : ∃ kd, ye.kind = kd := ⟨_, rfl⟩
      rw [hkd] at c3
      by_cases hk1 : kd = 1
      · subst hk1
        have hp : putE ye = true := (putE_iff ye).2 hkd
        clear hkd
        cases hmt : m ye.path with
        | none =>
          have HMT := Lib.hid hmt
          clear hmt
          have L9 := Lib.hid (show (Instr.lookup 84 (.map (some b)) (.string (str ye.path)) true).run Tryz.prog W2 = .ok (.tuple #[.agg #[.int .i64 0, .int .i64 0], .bool false]) W2 from by have h := rawM_look_ok HR2.out Tryz.underlying9 Tryz.underlying84 (dot_zero _) ye.path HPL.out; rw [show rawT m ye.path = none from by unfold rawT; rw [HMT.out]; rfl] at h; exact h)
          have TS := Lib.hid (show TopsOf ((us.map (·.1)).take (i + 1)) (putT m ye) by rw [List.take_add_one, HEX.out]; exact tops_put HTP.out hp (.inl HMT.out))
          clear hp
          have D3 := Lib.hid (heap_last W2 (.cells #[.int .i64 0, .int .i64 0] 29 (0, 0)))
          have C3 := Lib.hid ((Below.refl W2.heap.size W2).alloc (Nat.le_refl _) (.cells #[.int .i64 0, .int .i64 0] 29 (0, 0)))
          have HB3 := Lib.hid (below_next HB2.out C3.out)
          go_upto_region 7 with (first
            | (at_lookup; refine wpList_lookup_raw rfl (.tmp 19) (.tmp 21) 84 true rfl b rfl _ _ rfl L9.out ?_))
          generalize W2.alloc (.cells #[.int .i64 0, .int .i64 0] 29 (0, 0)) = W3 at *
          have E3 := Lib.hid (evAt_kept E2.out C3.out)
          have HR8 := Lib.hid (rawM_block HR2.out (C3.out.block b (rawM_lt HR2.out)))
          obtain ⟨-, -, -, -, c4, -⟩ := evAt_cells E3.out
          go_upto_region 9 with (first
            | (refine load_dot10 (by rfl) 29 (.tmp 37) rfl ⟨wr.heap.size, 0, none⟩ rfl ye.r ye.q Tryz.underlying29 (by kernel_rfl) (evAt_dot E3.out) ?_)
            | (refine wpList_put_raw rfl (.tmp 34) (.tmp 36) (.tmp 38) 84 9 29 rfl b k (rawT m) HR8.out Tryz.underlying9 Tryz.underlying84 (by have := HL.out; unfold maxLen; omega) rfl ye.path HPL.out rfl (dotV (ye.r, ye.q)) rfl ?_; rintro W9 hr hg; have HR9 := Lib.hid hr; have HB9 := Lib.hid (below_grown HB3.out hg HB3.out.size (fun k hk => by cases hk; exact Nat.le_of_eq HEQ.out.symm)); clear hr hg))
          go_wp2
          go_roundw
          case rel => exact ⟨i + 1, k + 1, putT m ye, hi1, by omega, by go_num, by rw [rawT_put]; exact HR9.out, TS.out, HB9.out⟩
          case measure => simp [intOf] <;> omega
        | some t =>
          have HMT := Lib.hid hmt
          have HFT := Lib.hid (show I64 t.1 ∧ I64 t.2 by
            obtain ⟨f, hf1, -, -, hf2, hf3⟩ := ((HTP.out ye.path).2 t hmt).1
            obtain ⟨y, hy, rfl⟩ := List.mem_map.1 (List.mem_of_mem_take hf1)
            have h9 := HF.out y hy
            rw [← hf2, ← hf3]; exact ⟨h9.1, h9.2.1⟩)
          clear hmt
          by_cases hgt : 0 < cmpD ye.r ye.q t.1 t.2
          · have L9 := Lib.hid (show (Instr.lookup 84 (.map (some b)) (.string (str ye.path)) true).run Tryz.prog W2 = .ok (.tuple #[.agg #[.int .i64 t.1, .int .i64 t.2], .bool true]) W2 from by have h := rawM_look_ok HR2.out Tryz.underlying9 Tryz.underlying84 (dot_zero _) ye.path HPL.out; rw [show rawT m ye.path = some (dotV t) from by unfold rawT; rw [HMT.out]; rfl] at h; exact h)
            obtain ⟨c, hc⟩ : ∃ c, cmpD ye.r ye.q t.1 t.2 = c := ⟨_, rfl⟩
            have CM := Lib.hid (fun w => compare_any ye.r ye.q t.1 t.2 HFX.out.1 HFX.out.2.1 HFT.out.1 HFT.out.2 w)
            rw [hc] at CM
            have TS := Lib.hid (show TopsOf ((us.map (·.1)).take (i + 1)) (putT m ye) by rw [List.take_add_one, HEX.out]; exact tops_put HTP.out hp (.inr ⟨t, HMT.out, hgt⟩))
            have q9 : 0 < c := by omega
            clear hp hgt hc
            obtain ⟨t1, t2⟩ := t
            dsimp only at *
            have D3 := Lib.hid (heap_last W2 (.cells #[.int .i64 t1, .int .i64 t2] 29 (0, 0)))
            have C3 := Lib.hid ((Below.refl W2.heap.size W2).alloc (Nat.le_refl _) (.cells #[.int .i64 t1, .int .i64 t2] 29 (0, 0)))
            have HB3 := Lib.hid (below_next HB2.out C3.out)
            go_upto_region 7 with (first
              | (at_lookup; refine wpList_lookup_raw rfl (.tmp 19) (.tmp 21) 84 true rfl b rfl _ _ rfl L9.out ?_))
            generalize W2.alloc (.cells #[.int .i64 t1, .int .i64 t2] 29 (0, 0)) = W3 at *
            have E3 := Lib.hid (evAt_kept E2.out C3.out)
            go_upto_region 8 with (first
              | (refine load_dot10 (by rfl) 29 (.tmp 28) rfl ⟨wr.heap.size, 0, none⟩ rfl ye.r ye.q Tryz.underlying29 (by kernel_rfl) (evAt_dot E3.out) ?_)
              | (refine load_dot10 (by rfl) 29 (.tmp 6) rfl ⟨W2.heap.size, 0, none⟩ rfl t1 t2 Tryz.underlying29 (by kernel_rfl) (box_dot D3.out) ?_)
              | (go_at_call 66; refine (CM.out _).mono ?_; rintro x W4 ⟨rfl, hb⟩; have HB4 := Lib.hid (below_next HB3.out hb); have C4 := Lib.hid hb; clear hb))
            have E4 := Lib.hid (evAt_kept E3.out C4.out)
            have HR8 := Lib.hid (rawM_block HR2.out ((below_next C3.out C4.out).block b (rawM_lt HR2.out)))
            obtain ⟨-, -, -, -, c4, -⟩ := evAt_cells E4.out
            go_upto_region 9 with (first
              | (refine load_dot10 (by rfl) 29 (.tmp 37) rfl ⟨wr.heap.size, 0, none⟩ rfl ye.r ye.q Tryz.underlying29 (by kernel_rfl) (evAt_dot E4.out) ?_)
              | (refine wpList_put_raw rfl (.tmp 34) (.tmp 36) (.tmp 38) 84 9 29 rfl b k (rawT m) HR8.out Tryz.underlying9 Tryz.underlying84 (by have := HL.out; unfold maxLen; omega) rfl ye.path HPL.out rfl (dotV (ye.r, ye.q)) rfl ?_; rintro W9 hr hg; have HR9 := Lib.hid hr; have HB9 := Lib.hid (below_grown HB4.out hg HB4.out.size (fun k hk => by cases hk; exact Nat.le_of_eq HEQ.out.symm)); clear hr hg))
            go_wp2
            go_roundw
            case rel => exact ⟨i + 1, k + 1, putT m ye, hi1, by omega, by go_num, by rw [rawT_put]; exact HR9.out, TS.out, HB9.out⟩
            case measure => simp [intOf] <;> omega
          · have L9 := Lib.hid (show (Instr.lookup 84 (.map (some b)) (.string (str ye.path)) true).run Tryz.prog W2 = .ok (.tuple #[.agg #[.int .i64 t.1, .int .i64 t.2], .bool true]) W2 from by have h := rawM_look_ok HR2.out Tryz.underlying9 Tryz.underlying84 (dot_zero _) ye.path HPL.out; rw [show rawT m ye.path = some (dotV t) from by unfold rawT; rw [HMT.out]; rfl] at h; exact h)
            obtain ⟨c, hc⟩ : ∃ c, cmpD ye.r ye.q t.1 t.2 = c := ⟨_, rfl⟩
            have CM := Lib.hid (fun w => compare_any ye.r ye.q t.1 t.2 HFX.out.1 HFX.out.2.1 HFT.out.1 HFT.out.2 w)
            rw [hc] at CM
            have TS := Lib.hid (show TopsOf ((us.map (·.1)).take (i + 1)) m by rw [List.take_add_one, HEX.out]; exact tops_keep HTP.out (.inr ⟨t, HMT.out, hgt⟩))
            have q9 : ¬ 0 < c := by omega
            have q9b : decide (c > 0) = false := decide_eq_false q9
            clear hp hgt hc
            obtain ⟨t1, t2⟩ := t
            dsimp only at *
            have D3 := Lib.hid (heap_last W2 (.cells #[.int .i64 t1, .int .i64 t2] 29 (0, 0)))
            have C3 := Lib.hid ((Below.refl W2.heap.size W2).alloc (Nat.le_refl _) (.cells #[.int .i64 t1, .int .i64 t2] 29 (0, 0)))
            have HB3 := Lib.hid (below_next HB2.out C3.out)
            go_upto_region 7 with (first
              | (at_lookup; refine wpList_lookup_raw rfl (.tmp 19) (.tmp 21) 84 true rfl b rfl _ _ rfl L9.out ?_))
            generalize W2.alloc (.cells #[.int .i64 t1, .int .i64 t2] 29 (0, 0)) = W3 at *
            have E3 := Lib.hid (evAt_kept E2.out C3.out)
            go_upto_region 9 with (first
              | (refine load_dot10 (by rfl) 29 (.tmp 28) rfl ⟨wr.heap.size, 0, none⟩ rfl ye.r ye.q Tryz.underlying29 (by kernel_rfl) (evAt_dot E3.out) ?_)
              | (refine load_dot10 (by rfl) 29 (.tmp 6) rfl ⟨W2.heap.size, 0, none⟩ rfl t1 t2 Tryz.underlying29 (by kernel_rfl) (box_dot D3.out) ?_)
              | (go_at_call 66; refine (CM.out _).mono ?_; rintro x W4 ⟨rfl, hb⟩; have HB4 := Lib.hid (below_next HB3.out hb); have C4 := Lib.hid hb; clear hb))
            have HR8 := Lib.hid (rawM_block HR2.out ((below_next C3.out C4.out).block b (rawM_lt HR2.out)))
            go_wp2
            go_roundw
            case rel => exact ⟨i + 1, k, m, hi1, by omega, by go_num, HR8.out, TS.out, HB4.out⟩
            case measure => simp [intOf] <;> omega
      · have q2 : (kd != 1) = true := by rw [bne, beq_eq_false_iff_ne.2 hk1]; rfl
        have TS := Lib.hid (show TopsOf ((us.map (·.1)).take (i + 1)) m by rw [List.take_add_one, HEX.out]; exact tops_keep HTP.out (.inl (by cases hp : putE ye with | false => rfl | true => exact absurd (hkd.symm.trans ((putE_iff ye).1 hp)) hk1)))
        clear hkd hk1
        go_upto_region 9 with fail
        clear c3 c4 q2
        go_wp2
        go_roundw
        case rel => exact ⟨i + 1, k, m, hi1, by omega, by go_num, HR2.out, TS.out, HB2.out⟩
        case measure => simp [intOf] <;> omega
    · obtain rfl : i = n := by omega
      have q0 : ¬ (i : Int) < (i : Int) := by omega
      have HTE := Lib.hid (show TopsOf (us.map (·.1)) m by have h := HTP.out; rwa [List.take_of_length_le (by rw [List.length_map]; exact Nat.le_of_eq HN.out.symm)] at h)
      have HKN := Lib.hid (show k ≤ us.length by have := HN.out; omega)
      clear hi hk
      go_wp2
      go_ret
      exact ⟨b, rfl, Nat.le_of_eq HEQ.out.symm, ⟨k, m, HKN.out, HRM.out, HTE.out⟩, HB.out⟩
end Go.Proofs.YtppmbdpfledejaaGreatDoor
namespace Go.Proofs.YtppmbdpfledejaaGreatDoor
open Go.RowKit
set_option maxRecDepth 100000 in
set_option maxHeartbeats 16000000 in
theorem isNaN_sl (s : List UInt8) (w : World) : Calls Tryz.prog 101 #[.string (str s)] w fun e w' => e = .returned (.bool false) ∧ w = w' := by
  go_enter Tryz.func101, Tryz.ntmps101
  go_wp2
  go_ret
  exact ⟨by simp, rfl⟩
set_option maxRecDepth 100000 in
set_option maxHeartbeats 16000000 in
theorem less_any (a b : List UInt8) (w : World) : Calls Tryz.prog 100 #[.string (str a), .string (str b)] w fun e w' => e = .returned (.bool (Op.bytesLess a b)) ∧ w = w' := by
  have N1 := Lib.hid (isNaN_str a)
  have s1 : (str a).toList = a := str_toList a
  have s2 : (str b).toList = b := str_toList b
  obtain ⟨c, hc⟩ : ∃ c, Op.bytesLess a b = c := ⟨_, rfl⟩
  rw [hc]
  go_enter Tryz.func100, Tryz.ntmps100
  go_wp2_with (first | (go_at_call 74; refine (N1.out _).mono ?_; rintro e w1 ⟨rfl, rfl⟩))
  go_ret
  first | exact ⟨rfl, rfl⟩ | (simp [hc])
theorem half2 (i j : Nat) (hij : i < j) (hj : j ≤ 50000) : ∃ s h : Nat, (i : Int) + (j : Int) = (s : Int) ∧ IntKind.i64.wrap (s : Int) = (s : Int) ∧ IntKind.u64.wrap (s : Int) = (s : Int) ∧ (s : Int) / 2 = (h : Int) ∧ IntKind.u64.wrap (h : Int) = (h : Int) ∧ IntKind.i64.wrap (h : Int) = (h : Int) ∧ i ≤ h ∧ h < j ∧ IntKind.i64.wrap ((h : Int) + 1) = ((h + 1 : Nat) : Int) :=
  ⟨i + j, (i + j) / 2, by omega, by rw [IntKind.wrap_i64]; omega, by rw [show IntKind.u64.wrap ((i + j : Nat) : Int) = ((i + j : Nat) : Int) % 18446744073709551616 from rfl]; omega, by omega, by rw [show IntKind.u64.wrap (((i + j) / 2 : Nat) : Int) = (((i + j) / 2 : Nat) : Int) % 18446744073709551616 from rfl]; omega, by rw [IntKind.wrap_i64]; omega, by omega, by omega, by rw [IntKind.wrap_i64]; omega⟩
/-- The place of the first text that isn't below t. -/
def FirstAt (ps : List (List UInt8)) (t : List UInt8) (i : Nat) : Prop := i ≤ ps.length ∧ (∀ k p, k < i → ps[k]? = some p → Op.bytesLess p t = true) ∧ (∀ p, ps[i]? = some p → Op.bytesLess p t = false)
def SearchEnd (ps : List (List UInt8)) (t : List UInt8) (x : Ending) : Prop := ∃ (i : Nat) (fb : Bool), x = .returned (.tuple #[.int .i64 (i : Int), .bool fb]) ∧ FirstAt ps t i
theorem rise_less {ps : List (List UInt8)} {t : List UInt8} (hr : ps.Pairwise fun a b => Op.bytesLess a b = true) {i j : Nat} {p q : List UInt8} (hi : ps[i]? = some p) (hj : ps[j]? = some q) (hij : i ≤ j) (h : Op.bytesLess q t = true) : Op.bytesLess p t = true := by
  rcases Nat.lt_or_ge i j with hlt | hge
  · obtain ⟨h1, rfl⟩ := List.getElem?_eq_some_iff.1 hi
    obtain ⟨h2, rfl⟩ := List.getElem?_eq_some_iff.1 hj
    exact bl_trans _ _ _ (List.pairwise_iff_getElem.1 hr i j h1 h2 hlt) h
  · obtain rfl : i = j := by omega
    rw [hi] at hj; cases hj; exact h
set_option linter.unusedSimpArgs false in
set_option maxRecDepth 100000 in
set_option maxHeartbeats 16000000 in
theorem search_any (ps : List (List UInt8)) (hn5 : ps.length ≤ 50000) (hr : ps.Pairwise fun a b => Op.bytesLess a b = true) (t : List UInt8) (v : Value) (w : World) (hv : HasTexts w v ps) : Calls Tryz.prog 70 #[v, .string (str t)] w fun x w' => SearchEnd ps t x ∧ Below w.heap.size w w' := by
  obtain ⟨n, hn⟩ : ∃ n, ps.length = n := ⟨_, rfl⟩
  have HN := Lib.hid hn
  have HR := Lib.hid hr
  obtain ⟨ao, cap, rfl⟩ := texts_shape hv n hn
  have HV := Lib.hid hv
  have hn9 : n ≤ 50000 := by omega
  clear hr hv hn hn5
  go_enter Tryz.func70, Tryz.ntmps70
  go_wp2
  go_loopw [7, 8] (fun c d wr => ∃ i j : Nat, c = .int .i64 (i : Int) ∧ d = .int .i64 (j : Int) ∧ i ≤ j ∧ j ≤ n ∧ (∀ k p, k < i → ps[k]? = some p → Op.bytesLess p t = true) ∧ (∀ k p, j ≤ k → ps[k]? = some p → Op.bytesLess p t = false) ∧ Below w.heap.size w wr) (fun c d _ => (intOf d).toNat - (intOf c).toNat)
  case atStart => exact ⟨0, n, rfl, rfl, Nat.zero_le _, Nat.le_refl _, fun k p h => by omega, fun k p h hp => by have := (List.getElem?_eq_some_iff.1 hp).1; have := HN.out; omega, Below.refl _ _⟩
  case round =>
    obtain ⟨i, j, rfl, rfl, hij, hjn, hlo, hhi, hb⟩ := hrel
    have HLO := Lib.hid hlo
    have HHI := Lib.hid hhi
    have HB := Lib.hid hb
    clear hlo hhi hb
    by_cases hlt : i < j
    · have q1 : (i : Int) < (j : Int) := by omega
      obtain ⟨s, h, t1, t2, t3, t4, t5, t6, hih, hhj, t7⟩ := half2 i j hlt (by omega)
      obtain ⟨p, hp⟩ : ∃ p, ps[h]? = some p := ⟨_, List.getElem?_eq_getElem (by have := HN.out; omega)⟩
      obtain ⟨ad, cap', e1, c0⟩ := texts_at (texts_below HV.out HB.out) n h HN.out (by omega) p hp
      cases e1
      have HP := Lib.hid hp
      have q2 : (h : Int) < (n : Int) := by omega
      have q3 : h < n := by omega
      have LS := Lib.hid (less_any p t)
      have HM := Lib.hid (And.intro hij (And.intro hjn (And.intro hih hhj)))
      clear hp hlt hij hjn hih hhj
      cases hc : Op.bytesLess p t with
      | true =>
        rw [hc] at LS
        have HC := Lib.hid hc
        clear hc
        go_wp2_with (first
          | (go_at_call 100; refine (LS.out _).mono ?_; rintro x w1 ⟨rfl, rfl⟩))
        go_roundw
        case rel => exact ⟨h + 1, j, by go_num, rfl, by have := HM.out; omega, HM.out.2.1, fun k q hk hq => rise_less HR.out hq HP.out (by omega) HC.out, HHI.out, HB.out⟩
        case measure => have := HM.out; simp [intOf] <;> omega
      | false =>
        rw [hc] at LS
        have HC := Lib.hid hc
        clear hc
        go_wp2_with (first
          | (go_at_call 100; refine (LS.out _).mono ?_; rintro x w1 ⟨rfl, rfl⟩))
        go_roundw
        case rel => exact ⟨i, h, rfl, rfl, HM.out.2.2.1, by have := HM.out; omega, HLO.out, (fun k q hk hq => by
          cases hx : Op.bytesLess q t with
          | false => rfl
          | true => have := rise_less HR.out HP.out hq hk hx; rw [HC.out] at this; cases this), HB.out⟩
        case measure => have := HM.out; simp [intOf] <;> omega
    · obtain rfl : i = j := by omega
      have q1 : ¬ (i : Int) < (i : Int) := by omega
      have HIN := Lib.hid (show i ≤ ps.length by have := HN.out; omega)
      by_cases hlt2 : i < n
      · obtain ⟨p, hp⟩ : ∃ p, ps[i]? = some p := ⟨_, List.getElem?_eq_getElem (by have := HN.out; omega)⟩
        obtain ⟨ad, cap', e1, c0⟩ := texts_at (texts_below HV.out HB.out) n i HN.out hlt2 p hp
        cases e1
        have q2 : (i : Int) < (n : Int) := by omega
        have N1 := Lib.hid (isNaN_sl p)
        have s1 : (str p).toList = p := str_toList p
        have s2 : (str t).toList = t := str_toList t
        clear hp hij hjn hlt
        cases hc : (p == t) with
        | true =>
          go_wp2_with (first
            | (go_at_call 101; refine (N1.out _).mono ?_; rintro x w1 ⟨rfl, rfl⟩))
          go_ret2
          exact ⟨⟨i, _, rfl, ⟨HIN.out, HLO.out, fun q hq => HHI.out i q (Nat.le_refl _) hq⟩⟩, HB.out⟩
        | false =>
          go_wp2_with (first
            | (go_at_call 101; refine (N1.out _).mono ?_; rintro x w1 ⟨rfl, rfl⟩))
          go_ret2
          exact ⟨⟨i, _, rfl, ⟨HIN.out, HLO.out, fun q hq => HHI.out i q (Nat.le_refl _) hq⟩⟩, HB.out⟩
      · have q2 : ¬ (i : Int) < (n : Int) := by omega
        clear hij hjn hlt
        go_wp2
        go_ret2
        exact ⟨⟨i, _, rfl, ⟨HIN.out, HLO.out, fun q hq => HHI.out i q (Nat.le_refl _) hq⟩⟩, HB.out⟩
end Go.Proofs.YtppmbdpfledejaaGreatDoor
namespace Go.Proofs.YtppmbdpfledejaaGreatDoor
open Go.RowKit
set_option linter.unusedSimpArgs false in
set_option maxRecDepth 100000 in
set_option maxHeartbeats 16000000 in
theorem isDir_any (ps : List (List UInt8)) (hn5 : ps.length ≤ 50000) (hr : ps.Pairwise fun a b => Op.bytesLess a b = true) (d : List UInt8) (hd : d.length < 1152921504606846976) (v : Value) (w : World) (hv : HasTexts w v ps) : Calls Tryz.prog 39 #[v, .string (str d)] w fun x w' => x = .returned (.bool (ps.any fun p => underP p d)) ∧ Below w.heap.size w w' := by
  obtain ⟨n, hn⟩ : ∃ n, ps.length = n := ⟨_, rfl⟩
  have HN := Lib.hid hn
  have HR := Lib.hid hr
  obtain ⟨ao, cap, rfl⟩ := texts_shape hv n hn
  have HV := Lib.hid hv
  have hn9 : n ≤ 50000 := by omega
  obtain ⟨u, hu⟩ : ∃ u, u = d ++ [47, 0] := ⟨_, rfl⟩
  have HU := Lib.hid hu
  have HDL := Lib.hid hd
  have SR := Lib.hid (fun w hv => search_any ps hn5 hr u (.slice ao n cap) w hv)
  have a1 : ∀ w, (Op.stringOp .add (str d) ⟨#[47, 0]⟩).run Tryz.prog w = .ok (.string (str u)) w := fun w => by rw [hu]; exact add_str d [47, 0] (by simp; omega) w
  clear hr hv hn hn5 hu hd
  go_enter Tryz.func39, Tryz.ntmps39
  go_upto_region 2 with (first
    | (go_at_call 70; refine (SR.out _ HV.out).mono ?_; rintro x w1 ⟨⟨i, fb, rfl, h1⟩, hb⟩; have H1 := Lib.hid h1; have HB := Lib.hid hb; clear h1 hb))
  have HALL := Lib.hid (search_under HR.out d H1.out.1 (by have h := H1.out.2.1; rw [HU.out] at h; exact h) (by have h := H1.out.2.2; rw [HU.out] at h; exact h))
  clear a1
  by_cases hin : i < n
  · obtain ⟨p, hp⟩ : ∃ p, ps[i]? = some p := ⟨_, List.getElem?_eq_getElem (by have := HN.out; omega)⟩
    obtain ⟨ad, cap', e1, c0⟩ := texts_at (texts_below HV.out HB.out) n i HN.out hin p hp
    cases e1
    rw [hp] at HALL
    have q2 : (i : Int) < (n : Int) := by omega
    have UN := Lib.hid (under_any p d)
    obtain ⟨r, hr⟩ : ∃ r, underP p d = r := ⟨_, rfl⟩
    have HALL := Lib.hid (show (ps.any fun p => underP p d) = r by rw [← hr]; exact HALL.out)
    rw [hr] at UN
    clear hp hr
    go_wp2_with (first
      | (go_at_call 71; refine (UN.out _).mono ?_; rintro x w2 ⟨rfl, hb⟩; have HB2 := Lib.hid (below_next HB.out hb); clear hb))
    go_ret
    exact ⟨by rw [HALL.out]; rfl, HB2.out⟩
  · have q2 : ¬ (i : Int) < (n : Int) := by omega
    have hnone : ps[i]? = none := List.getElem?_eq_none (by have := HN.out; omega)
    rw [hnone] at HALL
    clear hnone
    go_wp2
    go_ret
    exact ⟨by rw [HALL.out]; rfl, HB.out⟩
end Go.Proofs.YtppmbdpfledejaaGreatDoor
