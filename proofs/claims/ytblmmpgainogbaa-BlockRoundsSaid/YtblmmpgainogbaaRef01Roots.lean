/-
What the document's plain functions for the constants return: Times, Power, Above, Root, Prime, K, First.
-/
import Derived.Test.YtblmmpgainogbaaProg
import Derived.Test.YtblmmpgainogbaaWide
import Derived.Test.YtblmmpgainogbaaMem
import Derived.WalkKit
import Derived.Laws.CopyOwn
import Derived.Deep.QuietTactic
import Derived.BigQuiet
import Derived.Lib.Hide
import Derived.WalkSpells
import Derived.WalkLawsBesides
namespace Go.Proofs.Ytblmmpgainogbaa
open Go.RowKit
def Times (v n : Nat) (w : World) (e : Ending) (w' : World) : Prop := e = .returned (.agg (limbs (v * n))) ∧ Below w.heap.size w w'
set_option maxHeartbeats 1000000 in
theorem refTimes_any (v n : Nat) (hn : n < 68719476736) (w : World) :
    Calls Try.prog 37 #[.agg (limbs v), .int .u64 n] w (Times v n w) := by
  unfold limbs
  go_enter Try.func37, Try.ntmps37
  go_wp2
  go_loopw [6, 7] (fun c i wr => ∃ k : Nat, k ≤ 8 ∧ i = .int .i64 k ∧ c = .int .u64 (carry v n k) ∧
      wr.heap[w.heap.size]? = some (.cells (limbs v) 43 (0, 0)) ∧ wr.heap[w.heap.size + 1]? = some (.cells zeros8 43 (0, 0)) ∧
      wr.heap[w.heap.size + 2]? = some (.cells (outA (v * n) k) 43 (0, 0)) ∧ wr.heap.size = w.heap.size + 3 ∧ Below w.heap.size w wr) (fun _ i _ => 8 - (intOf i).toNat)
  case atStart =>
    refine ⟨0, by omega, rfl, by simp [carry], ?_, ?_, ?_, by simp, (((Below.refl _ _).alloc (Nat.le_refl _) _).alloc (by simp) _).alloc (by simp; omega) _⟩
    · exact alloc3_0 _ _ _ _
    · exact alloc3_1 _ _ _ _
    · rw [outA_zero]; exact alloc3_2 _ _ _ _
  case round =>
    obtain ⟨k, hk, rfl, rfl, ha, hz, ho, hs, hb⟩ := hrel
    by_cases hlt : k < 8
    · have hca : wr.cell? ⟨w.heap.size, k, none⟩ = some (.int .u64 (limb v k)) := (cell_of_row wr _ k _ _ _ ha).trans (limbs_get v k hlt)
      have hco : wr.cell? ⟨w.heap.size + 2, k, none⟩ = some (.int .u64 (outAt (v * n) k k)) := (cell_of_row wr _ k _ _ _ ho).trans (outA_get _ k k hlt)
      have hfo := frozen_of_row wr _ k _ _ ho
      have h1 := prod_bd v n k hn
      have h2 := carry_bd v n k hn
      have HL := Lib.hid (step_limb v n k)
      have HC := Lib.hid (step_carry v n k)
      have HA := Lib.hid ha
      have HO := Lib.hid ho
      have HZ := Lib.hid hz
      have HS := Lib.hid hs
      clear ha ho hz hs
      go_wp2
      go_roundw
      case rel =>
        rw [HL.out, HC.out]
        refine ⟨k + 1, by omega, by go_num, rfl, ?_, ?_, ?_, ?_, hb.setCell (by simp; omega) _⟩
        · rw [heap_setCell_other _ _ _ _ (by simp; omega)]; exact HA.out
        · rw [heap_setCell_other _ _ _ _ (by simp)]; exact HZ.out
        · rw [← outA_set _ k hlt]; exact heap_setCell_same _ _ _ _ _ _ HO.out
        · simpa using HS.out
      case measure => simp [intOf]; omega
    · obtain rfl : k = 8 := by omega
      rw [outA_full] at ho
      go_wp2_with (first | (refine wpList_load_row rfl 43 _ rfl (w.heap.size + 2) rfl 43 (limbs (v * n)) (0, 0) _ ho Try.underlying43 rfl (by kernel_rfl) ?_) | (refine wpList_store_row rfl 43 (.tmp 4) (.tmp 27) rfl (w.heap.size + 1) (limbs (v * n)) rfl rfl 43 zeros8 hz (by kernel_rfl) rfl (by simp [limbs, Value.oneCell']) ?_))
      exact bodyPost_ret (results_cell_row Try.results37 _ _ (w.heap.size + 1) 43 (limbs (v * n)) (0, 0) _ rfl (setRow_heap _ _ _ _ _ _ hz) Try.underlying43 rfl (by kernel_rfl)) rfl ⟨rfl, below_setRow hb (by omega) _⟩
/-- n to the power k. -/
def Power (n k : Nat) (w : World) (e : Ending) (w' : World) : Prop := e = .returned (.agg (limbs (n ^ k))) ∧ Below w.heap.size w w'
set_option maxHeartbeats 1000000 in
theorem refPower_any (n k : Nat) (hn : n < 68719476736) (hk : k < 10) (w : World) :
    Calls Try.prog 36 #[.int .u64 n, .int .i64 k] w (Power n k w) := by
  go_enter Try.func36, Try.ntmps36
  go_wp2
  go_loopw [6] (fun i wr => ∃ j : Nat, j ≤ k ∧ i = .int .i64 j ∧ wr.heap[w.heap.size]? = some (.cells zeros8 43 (0, 0)) ∧
      wr.heap[w.heap.size + 1]? = some (.cells (limbs (n ^ j)) 43 (0, 0)) ∧ w.heap.size + 2 ≤ wr.heap.size ∧ Below w.heap.size w wr) (fun i _ => k - (intOf i).toNat)
  case atStart =>
    refine ⟨0, by omega, rfl, alloc2_0 _ _ _, ?_, by simp, ((Below.refl _ _).alloc (Nat.le_refl _) _).alloc (by simp) _⟩
    rw [Nat.pow_zero, limbs_one]; exact alloc2_1 _ _ _
  case round =>
    obtain ⟨j, hj, rfl, hz, ho, hs, hb⟩ := hrel
    by_cases hlt : j < k
    · go_wp2_with (first | (refine wpList_load_row rfl 43 _ rfl (w.heap.size + 1) rfl 43 (limbs (n ^ j)) (0, 0) _ ho Try.underlying43 rfl (by kernel_rfl) ?_))
      refine (refTimes_any _ _ hn _).mono ?_
      rintro e w1 ⟨rfl, hb1⟩
      have hz1 := (hb1.block w.heap.size (by omega)).trans hz
      have ho1 := (hb1.block (w.heap.size + 1) (by omega)).trans ho
      have hs1 : w.heap.size + 2 ≤ w1.heap.size := Nat.le_trans hs hb1.size
      have HZ := Lib.hid hz1
      have HB := Lib.hid (hb.trans (hb1.mono (by omega)))
      clear hz ho hz1 hb hb1
      go_wp2_with (refine wpList_store_row rfl 43 (.tmp 5) (.tmp 15) rfl (w.heap.size + 1) (limbs (n ^ j * n)) rfl rfl 43 (limbs (n ^ j)) ho1 (by kernel_rfl) rfl (by simp [limbs, Value.oneCell']) ?_)
      go_roundw
      case rel =>
        refine ⟨j + 1, by omega, by go_num, ?_, ?_, by simpa using hs1, below_setRow HB.out (by omega) _⟩
        · rw [setRow_other _ _ _ _ (by omega)]; exact HZ.out
        · rw [Nat.pow_succ]; exact setRow_heap _ _ _ _ _ _ ho1
      case measure => simp [intOf]; omega
    · obtain rfl : j = k := by omega
      go_wp2_with (first | (refine wpList_load_row rfl 43 _ rfl (w.heap.size + 1) rfl 43 (limbs (n ^ j)) (0, 0) _ ho Try.underlying43 rfl (by kernel_rfl) ?_) | (refine wpList_store_row rfl 43 (.tmp 4) (.tmp 16) rfl w.heap.size (limbs (n ^ j)) rfl rfl 43 zeros8 hz (by kernel_rfl) rfl (by simp [limbs, Value.oneCell']) ?_))
      exact bodyPost_ret (results_cell_row Try.results36 _ _ w.heap.size 43 (limbs (n ^ j)) (0, 0) _ rfl (setRow_heap _ _ _ _ _ _ hz) Try.underlying43 rfl (by kernel_rfl)) rfl ⟨rfl, below_setRow hb (Nat.le_refl _) _⟩
set_option maxHeartbeats 1000000 in
theorem refAbove_any (a b : Nat) (ha : a / 65536 ^ 8 = 0) (hb : b / 65536 ^ 8 = 0) (w : World) :
    Calls Try.prog 35 #[.agg (limbs a), .agg (limbs b)] w fun e w' => e = .returned (.bool (decide (b < a))) ∧ Below w.heap.size w w' := by
  have HS := Lib.hid (ha.trans hb.symm)
  clear ha hb
  unfold limbs
  go_enter Try.func35, Try.ntmps35
  go_wp2
  go_loopw [5] (fun i wr => ∃ k : Int, -1 ≤ k ∧ k ≤ 7 ∧ i = .int .i64 k ∧ Hid (a / 65536 ^ (k + 1).toNat = b / 65536 ^ (k + 1).toNat) ∧
      wr.heap[w.heap.size]? = some (.cells (limbs a) 43 (0, 0)) ∧ wr.heap[w.heap.size + 1]? = some (.cells (limbs b) 43 (0, 0)) ∧ Below w.heap.size w wr) (fun i _ => (intOf i + 1).toNat)
  case atStart => exact ⟨7, by omega, by omega, rfl, HS, alloc2_0 _ _ _, alloc2_1 _ _ _, ((Below.refl _ _).alloc (Nat.le_refl _) _).alloc (by simp) _⟩
  case round =>
    obtain ⟨k, hk0, hk1, rfl, HE, h1, h2, hbl⟩ := hrel
    by_cases hk : 0 ≤ k
    · obtain ⟨j, rfl⟩ := Int.eq_ofNat_of_zero_le hk
      have c1 : wr.cell? ⟨w.heap.size, j, none⟩ = some (.int .u64 (limb a j)) := (cell_of_row wr _ j _ _ _ h1).trans (limbs_get a j (by omega))
      have c2 : wr.cell? ⟨w.heap.size + 1, j, none⟩ = some (.int .u64 (limb b j)) := (cell_of_row wr _ j _ _ _ h2).trans (limbs_get b j (by omega))
      have H1 := Lib.hid h1
      have H2 := Lib.hid h2
      clear h1 h2
      by_cases he : limb a j = limb b j
      · have hbe : (limb a j != limb b j) = false := by simp [he]
        have HX := Lib.hid he
        clear he
        go_wp2
        go_quiet (fail)
        go_wp2
        go_roundw
        case rel =>
          refine ⟨j - 1, by omega, by omega, by go_num, ?_, H1.out, H2.out, below_draws hbl _⟩
          rw [show ((j : Int) - 1 + 1).toNat = j from by omega]
          have := HE.out
          rw [show ((j : Int) + 1).toNat = j + 1 from by omega] at this
          exact part_same a b j this HX.out
        case measure => simp [intOf]
      · have hbe : (limb a j != limb b j) = true := by simp [he]
        have HX := Lib.hid he
        clear he
        go_wp2
        go_quiet (fail)
        go_wp2
        go_quiet (fail)
        go_wp2
        go_ret
        refine ⟨?_, below_draws (below_draws hbl _) _⟩
        have := HE.out
        rw [show ((j : Int) + 1).toNat = j + 1 from by omega] at this
        exact congrArg (fun c => Ending.returned (.bool c)) (part_above a b j this HX.out)
    · obtain rfl : k = -1 := by omega
      go_wp2
      go_ret
      refine ⟨?_, hbl⟩
      have := HE.out
      simp at this
      subst this
      simp
end Go.Proofs.Ytblmmpgainogbaa
