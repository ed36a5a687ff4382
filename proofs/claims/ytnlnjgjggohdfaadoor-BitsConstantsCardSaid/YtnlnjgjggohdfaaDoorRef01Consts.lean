/-
What the document's plain functions Prime, K and First return: the primes, and the constants.
-/
import Derived.Test.YtnlnjgjggohdfaaDoorRef01Root
import Derived.Test.YtnlnjgjggohdfaaDoorPrime
import Derived.Test.YtnlnjgjggohdfaaDoorBitsWalks
namespace Go.Proofs.YtnlnjgjggohdfaaDoor
open Go.RowKit
set_option maxHeartbeats 1000000 in
theorem refPrime_any (i : Nat) (hi : i < 64) (w : World) :
    Calls Tryd.prog 31 #[.int .i64 i] w fun e w' => e = .returned (.int .u64 (prime i)) ∧ w = w' := by
  go_enter Tryd.func31, Tryd.ntmps31
  go_wp2
  go_loop [0, 3] (fun a n => ∃ c m : Nat, c ≤ i + 1 ∧ a = .int .i64 ((i : Int) - c) ∧ n = .int .u64 m ∧ 1 ≤ m ∧ m ≤ 311 ∧ (c = 0 ∨ prime (c - 1) ≤ m) ∧ (c ≤ i → m < prime c) ∧ (c = i + 1 → m = prime i)) (fun a n => ((intOf a + 1).toNat * 400 + (400 - (intOf n).toNat)))
  case atStart =>
    refine ⟨0, 1, by omega, by simp, rfl, by omega, by omega, .inl rfl, fun _ => ?_, fun h => by omega⟩
    have := (prime_at 0 (by omega)).1; omega
  case round =>
    obtain ⟨c, m, hc, rfl, rfl, hm1, hm2, hlo, hhi, hend⟩ := hrel
    by_cases hlt : c ≤ i
    · have hmp := hhi hlt
      have hp := prime_at c (by omega)
      have HN := Lib.hid (next_prime c m (by omega) hm2 hm1 hlo hmp)
      have HLO := Lib.hid hlo
      clear hhi hend hlo
      go_wp2
      go_loop [4, 5] (fun s x => ∃ d : Nat, 2 ≤ d ∧ d ≤ 22 ∧ x = .int .u64 d ∧ s = .bool (freeTo (m + 1) d) ∧ Hid (firstAbove (m + 1) (22 - d) d = firstAbove (m + 1) 20 2)) (fun _ x => 30 - (intOf x).toNat)
      case atStart => exact ⟨2, by omega, by omega, rfl, rfl, Lib.hid rfl⟩
      case round =>
        obtain ⟨d, hd2, hd22, rfl, rfl, HF⟩ := hrel
        have hdd0 : 0 ≤ (d : Int) * (d : Int) := Int.mul_nonneg (by omega) (by omega)
        have hdd1 : (d : Int) * (d : Int) ≤ 484 := by
          have := Nat.mul_le_mul hd22 hd22
          rw [← Int.natCast_mul]; omega
        by_cases hsq : d * d ≤ m + 1
        · have hs : decide ((d : Int) * (d : Int) ≤ (m : Int) + 1) = true := decide_eq_true (by rw [← Int.natCast_mul]; omega)
          have hd21 := small_root d (m + 1) hsq (by omega)
          have HF2 := Lib.hid ((firstAbove_step (m + 1) d hd21 hsq).symm.trans HF.out)
          have HS := Lib.hid (freeTo_succ (m + 1) d hd2)
          clear hsq
          generalize freeTo (m + 1) d = fr at *
          cases fr
          · go_wp2
            go_round
            case rel => exact ⟨d + 1, by omega, by omega, by go_num, by rw [HS.out]; rfl, HF2⟩
            case measure => simp only [intOf]; omega
          · go_wp2
            go_round
            case rel =>
              refine ⟨d + 1, by omega, by omega, by go_num, ?_, HF2⟩
              rw [HS.out]
              rw [mod_ne]; rfl
            case measure => simp only [intOf]; omega
        · have hs : decide ((d : Int) * (d : Int) ≤ (m : Int) + 1) = false := decide_eq_false (by rw [← Int.natCast_mul]; omega)
          have HD : Hid (freeTo (m + 1) d = isPrime (m + 1)) := Lib.hid (by unfold isPrime; rw [← HF.out, firstAbove_stop _ _ hsq])
          clear hsq
          generalize freeTo (m + 1) d = fr at *
          cases fr
          · have hne : m + 1 < prime c := by
              have h1 := HN.out
              rw [← HD.out] at h1
              have : m + 1 ≠ prime c := by simpa using h1.symm
              omega
            go_wp2
            go_round
            case rel =>
              refine ⟨c, m + 1, hc, rfl, by go_num, by omega, by omega, ?_, fun _ => hne, fun h => by omega⟩
              rcases HLO.out with h | h
              · exact .inl h
              · exact .inr (by omega)
            case measure => simp only [intOf]; omega
          · have heq : m + 1 = prime c := by
              have h1 := HN.out
              rw [← HD.out] at h1
              simpa using h1.symm
            have HE := Lib.hid heq
            clear heq
            go_wp2
            go_round
            case rel =>
              refine ⟨c + 1, m + 1, by omega, by go_num, by go_num, by omega, by have := HE.out; omega, .inr (by rw [HE.out]; exact Nat.le_refl _), fun h => ?_, fun h => ?_⟩
              · rw [HE.out]; exact prime_lt c (by omega)
              · obtain rfl : c = i := by omega
                exact HE.out
            case measure => simp only [intOf]; omega
    · obtain rfl : c = i + 1 := by omega
      have HE := Lib.hid (hend rfl)
      clear hhi hlo hend
      rw [show ((i : Int) - ((i + 1 : Nat) : Int)) = -1 from by omega]
      go_wp2
      go_ret
      exact ⟨by rw [HE.out]; rfl, rfl⟩
/-- A word of the constants' table. -/
def kWord (i : Nat) : Int := kTab.getD i 0
theorem kWord_root (i : Nat) (hi : i < 64) : (cubeRoot (prime i) : Int) % 4294967296 = kWord i := by
  have h := List.all_eq_true.1 rootK_all i (by simpa using hi)
  rw [cubeRoot_eq]
  unfold kWord
  rw [← beq_iff_eq.1 h]; omega
set_option maxHeartbeats 1000000 in
theorem refK_in (i : Nat) (hi : i < 64) (w : World) :
    Calls Tryd.prog 25 #[.int .i64 i] w fun e w' => e = .returned (.int .u32 (kWord i)) ∧ Below w.heap.size w w' := by
  have hp := prime_at i hi
  have hr := cubeRoot_bd (prime i)
  have HK := Lib.hid (kWord_root i hi)
  go_enter Tryd.func25, Tryd.ntmps25
  go_wp2_with (first | (go_at_call 31; refine (refPrime_any i hi _).mono ?_; rintro e w' ⟨rfl, rfl⟩) | (go_at_call 30; refine (refCube_any (prime i) (by omega) _).mono ?_; rintro e w1 ⟨rfl, hb⟩))
  go_ret
  exact ⟨by rw [← HK.out]; rfl, hb⟩
set_option maxHeartbeats 1000000 in
theorem refK_out (i : Int) (w : World) (h : i < 0 ∨ 64 ≤ i) :
    Calls Tryd.prog 25 #[.int .i64 i] w fun e w' => e = .returned (.int .u32 0) ∧ w = w' := by
  by_cases h0 : i < 0
  · go_enter Tryd.func25, Tryd.ntmps25
    go_wp2
    go_ret
    exact ⟨rfl, rfl⟩
  · have h1 : 63 < i := by omega
    go_enter Tryd.func25, Tryd.ntmps25
    go_wp2
    go_ret
    exact ⟨rfl, rfl⟩
set_option maxHeartbeats 1000000 in
theorem refFirst_any (w : World) :
    Calls Tryd.prog 27 #[] w fun e w' => e = .returned firstV ∧ Below w.heap.size w w' := by
  go_enter Tryd.func27, Tryd.ntmps27
  go_wp2
  go_loopw [2] (fun i wr => ∃ k : Nat, k ≤ 8 ∧ i = .int .i64 k ∧ wr.heap[w.heap.size]? = some (.cells zeros8w 31 (0, 0)) ∧
      wr.heap[w.heap.size + 1]? = some (.cells (fA k) 31 (0, 0)) ∧ w.heap.size + 2 ≤ wr.heap.size ∧ Below w.heap.size w wr) (fun i _ => 8 - (intOf i).toNat)
  case atStart =>
    refine ⟨0, by omega, rfl, alloc2_0 _ _ _, ?_, by simp, ((Below.refl _ _).alloc (Nat.le_refl _) _).alloc (by simp) _⟩
    rw [fA_zero]; exact alloc2_1 _ _ _
  case round =>
    obtain ⟨k, hk, rfl, hz, ho, hs, hb⟩ := hrel
    by_cases hlt : k < 8
    · have hp := prime_at k (by omega)
      have hr := squareRoot_bd (prime k)
      have HO := Lib.hid ho
      have HZ := Lib.hid hz
      clear ho hz
      go_wp2_with (first | (go_at_call 31; refine (refPrime_any k (by omega) _).mono ?_; rintro e w' ⟨rfl, rfl⟩) | (go_at_call 30; refine (refSquare_any (prime k) (by omega) _).mono ?_; rintro e w1 ⟨rfl, hb1⟩; have ho1 := (hb1.block (w.heap.size + 1) (by omega)).trans HO.out; have hz1 := (hb1.block w.heap.size (by omega)).trans HZ.out; have hs1 : w.heap.size + 2 ≤ w1.heap.size := Nat.le_trans hs hb1.size; have HB := Lib.hid (hb.trans (hb1.mono (by omega))); have hc1 : w1.cell? ⟨w.heap.size + 1, k, none⟩ = some (.int .u32 (fAt k k)) := (cell_of_row w1 _ k _ _ _ ho1).trans (fA_get k k hlt); have hf1 := frozen_of_row w1 _ k _ _ ho1; have HO1 := Lib.hid ho1; have HZ1 := Lib.hid hz1; clear ho1 hz1 hb1 hb))
      go_roundw
      case rel =>
        refine ⟨k + 1, by omega, by go_num, ?_, ?_, by simpa using hs1, HB.out.setCell (by simp) _⟩
        · rw [heap_setCell_other _ _ _ _ (by simp)]; exact HZ1.out
        · rw [← fA_set k hlt]; exact heap_setCell_same _ _ _ _ _ _ HO1.out
      case measure => simp [intOf]; omega
    · obtain rfl : k = 8 := by omega
      have e8 : fA 8 = #[.int .u32 1779033703, .int .u32 3144134277, .int .u32 1013904242, .int .u32 2773480762, .int .u32 1359893119, .int .u32 2600822924, .int .u32 528734635, .int .u32 1541459225] := by
        obtain ⟨⟨h0, h1, h2, h3⟩, h4, h5, h6, h7⟩ := fWord_all
        simp [fA, fAt, h0, h1, h2, h3, h4, h5, h6, h7]
      rw [e8] at ho
      clear e8
      go_wp2_with (first | (refine wpList_load_row rfl 31 _ rfl (w.heap.size + 1) rfl 31 _ (0, 0) _ ho Tryd.underlying31 rfl (by kernel_rfl) ?_) | (refine wpList_store_row rfl 31 (.tmp 0) (.tmp 14) rfl w.heap.size _ rfl rfl 31 zeros8w hz (by kernel_rfl) rfl (by simp [Value.oneCell']) ?_))
      exact bodyPost_ret (results_cell_row Tryd.results27 _ _ w.heap.size 31 _ (0, 0) _ rfl (setRow_heap _ _ _ _ _ _ hz) Tryd.underlying31 rfl (by kernel_rfl)) rfl ⟨rfl, below_setRow hb (Nat.le_refl _) _⟩
end Go.Proofs.YtnlnjgjggohdfaaDoor
