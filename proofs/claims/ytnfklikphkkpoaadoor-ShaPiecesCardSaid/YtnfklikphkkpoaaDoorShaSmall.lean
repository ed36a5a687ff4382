/-
What New, Len and Pad of package sha return, and what Write, Told and Len do to a Hash that is nil.
-/
import Derived.Test.YtnfklikphkkpoaaDoorShaHash
import Derived.Test.YtnfklikphkkpoaaDoorShaFace
import Derived.Test.YtnfklikphkkpoaaDoorRef03Pad
import Derived.Deep.OwnRows
namespace Go.Proofs.YtnfklikphkkpoaaDoor
open Go.RowKit
/-- A value built of parts whose cells are known. -/
theorem build_as {P : Program} {ops : Array Oper} {rest : List Oper} {o : Oper} {a : Act} {w : World} {Q : Exit → Act → World → Prop} (hg : o.guard = none) (t : TypeId) (parts : Array (Nat × Operand)) (ho : o.op = .build t parts) (ps : List (Nat × Value)) (cs : Array Value)
    (hb : P.built t ps = some cs) (hp : (parts.map fun (i, x) => (i, a.eval x)).toList = ps) (h : wpList P ops Q rest (a.put o.dst (.agg cs)) w) : wpList P ops Q (o :: rest) a w := by
  subst hp
  refine wpList_build hg t parts ho (by rw [hb]; rfl) ?_
  rw [hb]; exact h
theorem made_row (m : Nat) : madeCells #[.int .u8 0] m = row .u8 m fun _ => 0#32 := by
  apply Array.ext_getElem?
  intro i
  by_cases h : i < m <;> simp [madeCells, row, Nat.mod_one, h, u32]
theorem pow8 (k : Nat) : (2 : Int) ^ (8 * k) = ((256 ^ k : Nat) : Int) := by
  rw [show (256 : Nat) ^ k = 2 ^ (8 * k) from by rw [Nat.pow_mul]]; simp
/-- What stands behind n bytes, with k of its last eight bytes. -/
def padF (n z k i : Nat) : BitVec 32 := if i = 0 then 128#32 else if z + 9 - k ≤ i then lenByte n (i - (z + 1)) else 0#32
theorem padF_zero (n z : Nat) : (row .u8 (z + 9) fun _ => 0#32).setIfInBounds 0 (.int .u8 128) = row .u8 (z + 9) (padF n z 0) :=
  row_set_to .u8 (z + 9) _ _ 0 128#32 fun j hj => by unfold padF; by_cases h : j = 0 <;> simp [h]; omega
theorem padF_set (n z k : Nat) (hk : k < 8) : (row .u8 (z + 9) (padF n z k)).setIfInBounds (z + 8 - k) (.int .u8 (u32 (lenByte n (7 - k)))) = row .u8 (z + 9) (padF n z (k + 1)) :=
  row_set_to .u8 (z + 9) _ _ _ _ fun j hj => by
    unfold padF
    by_cases h : j = z + 8 - k
    · rw [if_pos h, if_neg (by omega), if_pos (by omega)]; congr 1; omega
    · rw [if_neg h]
      by_cases h0 : j = 0
      · rw [if_pos h0, if_pos h0]
      · rw [if_neg h0, if_neg h0]
        by_cases h1 : z + 9 - k ≤ j
        · rw [if_pos h1, if_pos (by omega)]
        · rw [if_neg h1, if_neg (by omega)]
theorem padF_full (n j : Nat) (hj : j < padZeros n + 9) : padF n (padZeros n) 8 j = (padB n).getD j 0#32 := by
  unfold padF padB padUpTo padHead
  rw [List.getD_eq_getElem?_getD]
  by_cases h0 : j = 0
  · subst h0; simp
  · rw [if_neg h0]
    by_cases h1 : padZeros n + 9 - 8 ≤ j
    · rw [if_pos h1, List.getElem?_append_right (by simp; omega)]
      have : j - (padZeros n + 1) < 8 := by omega
      simp [this]
    · rw [if_neg h1, List.getElem?_append_left (by simp; omega)]
      obtain ⟨i, rfl⟩ : ∃ i, j = i + 1 := ⟨j - 1, by omega⟩
      have : i < padZeros n := by omega
      simp [this]
theorem has_row {w : World} {g : Nat} {t : TypeId} {m : Nat} {f : Nat → BitVec 32} (e : w.heap[g]? = some (.cells (row .u8 m f) t (0, 0))) (bs : List (BitVec 32)) (hl : bs.length = m) (h : ∀ j, j < m → f j = bs.getD j 0#32) : HasBytes w (.slice (some ⟨g, 0, none⟩) m m) bs := by
  subst hl
  refine ⟨some ⟨g, 0, none⟩, bs.length, rfl, (fun h => by cases h), fun ad had => ⟨Nat.le_refl _, fun j u hu => ?_⟩⟩
  cases had
  have hj : j < bs.length := by have := (List.getElem?_eq_some_iff.1 hu).1; rwa [bytesL_length] at this
  rw [Addr.add_lit, Nat.zero_add, cell_of_row _ _ _ _ _ _ e, row_get _ _ _ _ hj, h j hj, ← hu, bytesL_get _ _ hj]
/-- Pad, within the bounds: the bytes behind n bytes, in a row of its own. -/
theorem pad_any (n : Nat) (hn : n ≤ 1099511627776) (w : World) :
    Calls Tryd.prog 12 #[.int .i64 n] w fun e w' => ∃ v, e = .returned v ∧ HasBytes w' v (padB n) ∧ Below w.heap.size w w' ∧ ∀ g, g < w.heap.size → Apart v g := by
  obtain ⟨i0, hi, hz0, hz1, hz2⟩ := info_parts infoByte
  obtain ⟨o, ho⟩ : ∃ o : Nat, o = (n + 9) % 64 := ⟨_, rfl⟩
  have e1 : ((n : Int) + 9).tmod 64 = (o : Int) := by rw [Int.tmod_eq_emod_of_nonneg (by omega)]; omega
  have ho64 : (o : Int) < 64 := by omega
  obtain ⟨z, hz⟩ : ∃ z : Nat, z = padZeros n := ⟨_, rfl⟩
  have hz' : z = (64 - o) % 64 := by rw [hz]; unfold padZeros; omega
  have e2 : ((64 : Int) - (o : Int)).tmod 64 = (z : Int) := by rw [Int.tmod_eq_emod_of_nonneg (by omega)]; omega
  have hz64 : (z : Int) < 64 := by omega
  obtain ⟨m, hm⟩ : ∃ m : Nat, m = z + 9 := ⟨_, rfl⟩
  have e3 : (9 : Int) + (z : Int) = (m : Int) := by omega
  have hm9 : (9 : Int) ≤ (m : Int) := by omega
  have hm73 : (m : Int) < 73 := by omega
  have HZ := Lib.hid (And.intro hz hm)
  clear hz hz' ho hm
  go_enter Tryd.func12, Tryd.ntmps12
  go_wp2_with (first | (at_make; refine wpList_make_row _ rfl (.tmp 20) (.tmp 20) 22 rfl 5 i0 (.int .u8 0) Tryd.underlying22 hi hz0 hz1 rfl .i64 .i64 m rfl rfl (by rw [hz2]; omega) (by omega) ?_; have H1 := heap_last w (.cells (madeCells #[.int .u8 0] m) 5 (0, 0)); have B1 := (Below.refl w.heap.size w).alloc (Nat.le_refl _) (.cells (madeCells #[.int .u8 0] m) 5 (0, 0)); generalize w.alloc (.cells (madeCells #[.int .u8 0] m) 5 (0, 0)) = w1 at *; rw [made_row] at H1; have HH1 := Lib.hid H1; have HB1 := Lib.hid B1; clear H1 B1) | (refine store_cell rfl 5 (.tmp 23) (.const (.int .u8 128)) rfl rfl .u8 w.heap.size 0 _ _ _ HH1.out rfl rfl (by rw [row_size]; omega) (by kernel_rfl) ?_; intro w2 hg2 hs2; have HH2 := Lib.hid hg2; have HS2 := Lib.hid hs2; clear HH1 hg2 hs2))
  have hg2 : w2.heap[w.heap.size]? = some (.cells (row .u8 m (padF n z 0)) 5 (0, 0)) := by
    rw [HH2.out, HZ.out.2, padF_zero]
  have hb2 : Below w.heap.size w w2 := HB1.out.trans ⟨HS2.out.os, HS2.out.tape, HS2.out.output, Nat.le_of_eq HS2.out.size.symm, fun k hk => HS2.out.block k (by omega)⟩
  have HG2 := Lib.hid hg2
  have HB2 := Lib.hid hb2
  clear HH2 HS2 HB1 hg2 hb2
  go_loopw [6, 24] (fun _ c wr => ∃ k : Nat, k ≤ 8 ∧ c = .int .i64 k ∧ wr.heap[w.heap.size]? = some (.cells (row .u8 m (padF n z k)) 5 (0, 0)) ∧ Below w.heap.size w wr) (fun _ c _ => 8 - (intOf c).toNat)
  case atStart => exact ⟨0, by omega, rfl, HG2.out, HB2.out⟩
  case round =>
    clear HG2 HB2
    obtain ⟨k, hk, rfl, hg, hb⟩ := hrel
    by_cases hlt : k < 8
    · have HG := Lib.hid hg
      have HB := Lib.hid hb
      have q8 : (k : Int) < 8 := by omega
      obtain ⟨N, hN⟩ : ∃ N : Nat, N = 8 * n := ⟨_, rfl⟩
      obtain ⟨s, hs⟩ : ∃ s : Nat, s = 8 * k := ⟨_, rfl⟩
      obtain ⟨j, hj⟩ : ∃ j : Nat, j = z + 8 - k := ⟨_, rfl⟩
      have hm := HZ.out.2
      have e4 : (8 : Int) * (n : Int) = (N : Int) := by omega
      have e5 : (m : Int) - 1 - (k : Int) = (j : Int) := by omega
      have e6 : (8 : Int) * (k : Int) = (s : Int) := by omega
      have hN' : (N : Int) ≤ 8796093022208 := by omega
      have hs' : (s : Int) < 64 := by omega
      have hj' : (j : Int) < (m : Int) := by omega
      have HN := Lib.hid (And.intro hm hj)
      have HV := Lib.hid (show (N : Int) / 2 ^ s % 256 = Go.Proofs.YtnfklikphkkpoaaDoor.u32 (lenByte n (7 - k)) by
        rw [u32_lenByte, show 7 - (7 - k) = k from by omega, hN, hs, pow8 k]; generalize 256 ^ k = q; simp)
      clear hg hb hN hs hj hm
      go_wp2_with (first | (refine store_cell rfl 5 (.tmp 39) (.tmp 38) rfl rfl .u8 w.heap.size j _ _ _ HG.out rfl rfl (by rw [row_size]; omega) (by kernel_rfl) ?_; intro w3 hg3 hs3; have HG3 := Lib.hid hg3; have HS3 := Lib.hid hs3; clear hg3 hs3))
      go_roundw
      case rel =>
        have hs := HS3.out
        refine ⟨k + 1, by omega, by go_num, ?_, HB.out.trans ⟨hs.os, hs.tape, hs.output, Nat.le_of_eq hs.size.symm, fun k hk => hs.block k (by omega)⟩⟩
        rw [HG3.out, HV.out, HN.out.1, HN.out.2, padF_set n z k hlt]
      case measure => simp [intOf]; omega
    · obtain rfl : k = 8 := by omega
      have hv := has_row hg (padB n) (by rw [padB_length, HZ.out.2, HZ.out.1]) (fun j hj => by rw [HZ.out.1]; exact padF_full n j (by rw [← HZ.out.1, ← HZ.out.2]; exact hj))
      clear hg
      go_wp2
      go_ret
      exact ⟨_, rfl, hv, hb, fun g hg ad l c e => by cases e; exact Nat.ne_of_gt hg⟩
theorem pad_out (n : Int) (hn : n < 0 ∨ 1099511627776 < n) (w : World) :
    Calls Tryd.prog 12 #[.int .i64 n] w fun e w' => ∃ v, e = .returned v ∧ HasBytes w' v [] ∧ Below w.heap.size w w' := by
  have hv : ∀ w : World, HasBytes w (.slice none 0 0) [] := fun w => ⟨none, 0, rfl, fun _ => ⟨rfl, rfl⟩, fun _ h => by cases h⟩
  have HV := Lib.hid hv
  clear hv
  by_cases h0 : n < 0
  · go_enter Tryd.func12, Tryd.ntmps12
    go_wp2
    go_ret
    exact ⟨_, rfl, HV.out _, Below.refl _ _⟩
  · have h1 : 1099511627776 < n := by omega
    go_enter Tryd.func12, Tryd.ntmps12
    go_wp2
    go_ret
    exact ⟨_, rfl, HV.out _, Below.refl _ _⟩
theorem firstV_row : firstV = .agg (row .u32 8 firstF) := rfl
theorem built_new : Tryd.prog.built 45 [(0, .agg (row .u32 8 firstF))] = some (stC firstF (fun _ => 0#32) 0).toArray := by kernel_rfl
theorem new_any (w : World) : Calls Tryd.prog 14 #[] w fun e w' => ∃ g, e = .returned (.pointer (some ⟨g, 0, none⟩)) ∧ w.heap.size ≤ g ∧ Holds 45 w' g [] ∧ Below w.heap.size w w' := by
  go_enter Tryd.func14, Tryd.ntmps14
  go_wp2_with (first | (go_at_call 18; refine (first_any w).mono ?_; rintro e w1 ⟨rfl, rfl⟩; rw [firstV_row]) | (refine build_as rfl 45 #[(0, .tmp 1)] rfl _ _ built_new (by simp [Act.eval]) ?_))
  go_ret
  have B0 := (Below.refl w.heap.size w).alloc (Nat.le_refl _) firstO
  exact ⟨w.heap.size + 1, rfl, Nat.le_succ _, ⟨fun _ => 0#32, by rw [show wordsF [] (([] : List (BitVec 32)).length / 64) = firstF from wordsF_zero []]; exact alloc2_1 w _ _, fun i hi => absurd hi (Nat.not_lt_zero _)⟩, B0.alloc B0.size _⟩
theorem len_any (w : World) (g : Nat) (bs : List (BitVec 32)) (hi : Holds 45 w g bs) :
    Calls Tryd.prog 17 #[.pointer (some ⟨g, 0, none⟩)] w fun e w' => e = .returned (.int .i64 bs.length) ∧ Below w.heap.size w w' := by
  obtain ⟨p, hh, -⟩ := hi
  have c := cell_len hh
  clear hh
  go_enter Tryd.func17, Tryd.ntmps17
  go_wp2
  go_ret
  exact ⟨rfl, Below.refl _ _⟩
theorem lenNil_any (w : World) : Calls Tryd.prog 17 #[.pointer none] w fun e w' => e = .returned (.int .i64 0) ∧ Below w.heap.size w w' := by
  go_enter Tryd.func17, Tryd.ntmps17
  go_wp2
  go_ret
  exact ⟨rfl, Below.refl _ _⟩
theorem writeNil_any (w : World) (v : Value) : Calls Tryd.prog 15 #[.pointer none, v] w fun e w' => e = .returned (.tuple #[]) ∧ Below w.heap.size w w' := by
  go_enter Tryd.func15, Tryd.ntmps15
  go_wp2
  refine bodyPost_ret (results_none rfl _ _ _) rfl ⟨rfl, Below.refl _ _⟩
theorem built_zero : Tryd.prog.built 25 [] = some (row .u8 32 fun _ => 0#32) := by kernel_rfl
theorem toldNil_any (w : World) : Calls Tryd.prog 16 #[.pointer none] w fun e w' => e = .returned (rowV .u8 32 fun _ => 0#32) ∧ Below w.heap.size w w' := by
  have H0 := heap_last w (.cells (row .u8 32 fun _ => 0#32) 25 (0, 0))
  have B0 := (Below.refl w.heap.size w).alloc (Nat.le_refl _) (.cells (row .u8 32 fun _ => 0#32) 25 (0, 0))
  go_enter Tryd.func16, Tryd.ntmps16
  go_wp2_with (first | (refine build_as rfl 25 #[] rfl _ _ built_zero (by simp) ?_) | (refine wpList_store_row rfl 25 (.tmp 2) (.tmp 9) rfl w.heap.size _ rfl rfl 25 _ H0 (by kernel_rfl) rfl (row_one _ _ _) ?_))
  exact bodyPost_ret (results_cell_row Tryd.results16 _ _ w.heap.size 25 _ (0, 0) _ rfl (setRow_heap _ _ _ _ _ _ H0) Tryd.underlying25 rfl (by kernel_rfl)) rfl ⟨rfl, below_setRow B0 (by omega) _⟩
end Go.Proofs.YtnfklikphkkpoaaDoor
