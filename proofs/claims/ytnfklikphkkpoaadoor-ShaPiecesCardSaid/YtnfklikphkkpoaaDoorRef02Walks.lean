/-
What each plain function of the document's own answers for layer 2 returns, for every argument and in every memory.
-/
import Derived.Test.YtnfklikphkkpoaaDoorProg
import Derived.Test.YtnfklikphkkpoaaDoorBlock
import Derived.Test.YtnfklikphkkpoaaDoorMem
import Derived.WalkKit
import Derived.Lib.Hide
import Derived.WalkSpells
import Derived.WalkLawsBesides
import Derived.Laws.CopyOwn
import Derived.Deep.QuietTactic
import Derived.BigQuiet
import Derived.StillTailTactics
namespace Go.Proofs.YtnfklikphkkpoaaDoor
open Go.RowKit
theorem ch_or (x y z : BitVec 32) : x &&& y ||| ~~~x &&& z = ch x y z := by
  ext i hi; simp [ch]; cases x[i] <;> cases y[i] <;> cases z[i] <;> rfl
theorem maj_or (x y z : BitVec 32) : x &&& y ||| x &&& z ||| y &&& z = maj x y z := by
  ext i hi; simp [maj]; cases x[i] <;> cases y[i] <;> cases z[i] <;> rfl
theorem rot_lit (x : BitVec 32) (n : Int) (h0 : 0 < n) (h1 : n < 32) : x >>> n.toNat ||| x <<< (32 - n).toNat = rot x n := by
  unfold rot; rw [Int.emod_eq_of_lt (by omega) h1]
set_option maxHeartbeats 400000 in
theorem ref2Rot_any (x : BitVec 32) (n : Int) (h0 : 0 < n) (h1 : n < 32) (w : World) :
    Calls Tryd.prog 41 #[.int .u32 (u32 x), .int .u64 n] w fun e w' => e = .returned (.int .u32 (u32 (rot x n))) ∧ w = w' := by
  have e := rot_lit x n h0 h1
  go_enter Tryd.func41, Tryd.ntmps41
  go_wp2
  go_ret
  exact ⟨rfl, rfl⟩
set_option maxHeartbeats 400000 in
theorem ref2Ch_any (x y z : BitVec 32) (w : World) :
    Calls Tryd.prog 37 #[.int .u32 (u32 x), .int .u32 (u32 y), .int .u32 (u32 z)] w fun e w' => e = .returned (.int .u32 (u32 (ch x y z))) ∧ w = w' := by
  go_enter Tryd.func37, Tryd.ntmps37
  go_wp2
  go_ret
  exact ⟨by rw [ch_or]; rfl, rfl⟩
set_option maxHeartbeats 400000 in
theorem ref2Maj_any (x y z : BitVec 32) (w : World) :
    Calls Tryd.prog 39 #[.int .u32 (u32 x), .int .u32 (u32 y), .int .u32 (u32 z)] w fun e w' => e = .returned (.int .u32 (u32 (maj x y z))) ∧ w = w' := by
  go_enter Tryd.func39, Tryd.ntmps39
  go_wp2
  go_ret
  exact ⟨by rw [maj_or]; rfl, rfl⟩
set_option maxHeartbeats 400000 in
theorem ref2Big0_any (x : BitVec 32) (w : World) :
    Calls Tryd.prog 38 #[.int .u32 (u32 x)] w fun e w' => e = .returned (.int .u32 (u32 (big0 x))) ∧ w = w' := by
  go_enter Tryd.func38, Tryd.ntmps38
  go_wp2_with (go_at_call 41; refine (ref2Rot_any _ _ (by decide) (by decide) _).mono ?_; rintro e w' ⟨rfl, rfl⟩)
  go_ret
  exact ⟨rfl, rfl⟩
set_option maxHeartbeats 400000 in
theorem ref2Big1_any (x : BitVec 32) (w : World) :
    Calls Tryd.prog 36 #[.int .u32 (u32 x)] w fun e w' => e = .returned (.int .u32 (u32 (big1 x))) ∧ w = w' := by
  go_enter Tryd.func36, Tryd.ntmps36
  go_wp2_with (go_at_call 41; refine (ref2Rot_any _ _ (by decide) (by decide) _).mono ?_; rintro e w' ⟨rfl, rfl⟩)
  go_ret
  exact ⟨rfl, rfl⟩
set_option maxHeartbeats 400000 in
theorem ref2Small0_any (x : BitVec 32) (w : World) :
    Calls Tryd.prog 35 #[.int .u32 (u32 x)] w fun e w' => e = .returned (.int .u32 (u32 (small0 x))) ∧ w = w' := by
  go_enter Tryd.func35, Tryd.ntmps35
  go_wp2_with (go_at_call 41; refine (ref2Rot_any _ _ (by decide) (by decide) _).mono ?_; rintro e w' ⟨rfl, rfl⟩)
  go_ret
  exact ⟨rfl, rfl⟩
set_option maxHeartbeats 400000 in
theorem ref2Small1_any (x : BitVec 32) (w : World) :
    Calls Tryd.prog 34 #[.int .u32 (u32 x)] w fun e w' => e = .returned (.int .u32 (u32 (small1 x))) ∧ w = w' := by
  go_enter Tryd.func34, Tryd.ntmps34
  go_wp2_with (go_at_call 41; refine (ref2Rot_any _ _ (by decide) (by decide) _).mono ?_; rintro e w' ⟨rfl, rfl⟩)
  go_ret
  exact ⟨rfl, rfl⟩
set_option maxHeartbeats 1000000 in
theorem ref2Round_any (h : Nat → BitVec 32) (k x : BitVec 32) (w : World) :
    Calls Tryd.prog 27 #[.agg (row .u32 8 h), .int .u32 (u32 k), .int .u32 (u32 x)] w fun e w' => e = .returned (.agg (row .u32 8 (roundF h k x))) ∧ Below w.heap.size w w' := by
  rw [row8]
  go_enter Tryd.func27, Tryd.ntmps27
  go_wp2
  have H0 := alloc2_0 w (.cells (row .u32 8 h) 38) (.cells (row .u32 8 fun _ => 0#32) 38)
  have Z0 := alloc2_1 w (.cells (row .u32 8 h) 38) (.cells (row .u32 8 fun _ => 0#32) 38)
  have B0 : Below w.heap.size w ((w.alloc (.cells (row .u32 8 h) 38)).alloc (.cells (row .u32 8 fun _ => 0#32) 38)) := ((Below.refl _ _).alloc (Nat.le_refl _) _).alloc (by simp) _
  simp only [row8, show u32 0#32 = 0 from rfl] at H0 Z0 B0
  generalize World.alloc (World.alloc w _) _ = w1 at *
  obtain ⟨c0, c1, c2, c3, c4, c5, c6, c7⟩ := cells8_of (h := h) H0
  go_quiet (first | (go_at_call 36; refine quiet_same (ref2Big1_any _ _)) | (go_at_call 37; refine quiet_same (ref2Ch_any _ _ _ _)))
  have H1 : (w1.drewN nq).heap[w.heap.size]? = _ := H0
  have Z1 : (w1.drewN nq).heap[w.heap.size + 1]? = _ := Z0
  have B1 := below_draws B0 nq
  clear H0 Z0 B0 c0 c1 c2 c3 c4 c5 c6 c7
  generalize w1.drewN nq = w2 at *
  obtain ⟨c0, c1, c2, c3, c4, c5, c6, c7⟩ := cells8_of (h := h) H1
  go_wp2
  go_quiet (first | (go_at_call 38; refine quiet_same (ref2Big0_any _ _)) | (go_at_call 39; refine quiet_same (ref2Maj_any _ _ _ _)))
  have H2 : (w2.drewN nq).heap[w.heap.size]? = _ := H1
  have Z2 : (w2.drewN nq).heap[w.heap.size + 1]? = _ := Z1
  have B2 := below_draws B1 nq
  clear H1 Z1 B1 c0 c1 c2 c3 c4 c5 c6 c7
  generalize w2.drewN nq = w3 at *
  obtain ⟨c0, c1, c2, c3, c4, c5, c6, c7⟩ := cells8_of (h := h) H2
  go_wp2_with (first | (refine wpList_store_row rfl 38 (.tmp 6) (.tmp 57) rfl (w.heap.size + 1) _ rfl rfl 38 _ Z2 (by kernel_rfl) rfl (by simp [Value.oneCell']) ?_))
  exact bodyPost_ret (results_cell_row Tryd.results27 _ _ (w.heap.size + 1) 38 _ (0, 0) _ rfl (setRow_heap _ _ _ _ _ _ Z2) Tryd.underlying38 rfl (by kernel_rfl)) rfl ⟨rfl, below_setRow B2 (by omega) _⟩
set_option maxHeartbeats 4000000 in
theorem ref2Schedule_any (f : Nat → BitVec 32) (hf : ∀ i, u32 (f i) < 256) (w : World) :
    Calls Tryd.prog 25 #[.agg (row .u8 64 f)] w fun e w' => e = .returned (.agg (row .u32 64 (sched f))) ∧ Below w.heap.size w w' := by
  go_enter Tryd.func25, Tryd.ntmps25
  go_wp2
  go_loopw [4] (fun c wr => ∃ k : Nat, k ≤ 16 ∧ c = .int .i64 k ∧ wr.heap[w.heap.size]? = some (.cells (row .u8 64 f) 40 (0, 0)) ∧ wr.heap[w.heap.size + 1]? = some (.cells (row .u32 64 fun _ => 0#32) 46 (0, 0)) ∧
      wr.heap[w.heap.size + 2]? = some (.cells (row .u32 64 (upTo (sched f) k)) 46 (0, 0)) ∧ w.heap.size + 3 ≤ wr.heap.size ∧ Below w.heap.size w wr) (fun c _ => 16 - (intOf c).toNat)
  case atStart =>
    refine ⟨0, by omega, rfl, alloc3_0 _ _ _ _, alloc3_1 _ _ _ _, ?_, by simp, (((Below.refl _ _).alloc (Nat.le_refl _) _).alloc (by simp) _).alloc (by simp; omega) _⟩
    rw [upTo_zero]; exact alloc3_2 _ _ _ _
  case round =>
    obtain ⟨k, hk, rfl, hb8, hz, ho, hs, hb⟩ := hrel
    by_cases hlt : k < 16
    · go_wp2
      go_loopw [5] (fun c wr => ∃ j : Nat, j ≤ 4 ∧ c = .int .i64 j ∧ wr.heap[w.heap.size]? = some (.cells (row .u8 64 f) 40 (0, 0)) ∧ wr.heap[w.heap.size + 1]? = some (.cells (row .u32 64 fun _ => 0#32) 46 (0, 0)) ∧
          wr.heap[w.heap.size + 2]? = some (.cells (row .u32 64 (growTo f k j)) 46 (0, 0)) ∧ w.heap.size + 3 ≤ wr.heap.size ∧ Below w.heap.size w wr) (fun c _ => 4 - (intOf c).toNat)
      case atStart => exact ⟨0, by omega, rfl, hb8, hz, by rw [growTo_zero]; exact ho, hs, hb⟩
      case round =>
        clear hb8 hz ho hs hb
        obtain ⟨j, hj, rfl, hb8, hz, ho, hs, hb⟩ := hrel
        by_cases hjt : j < 4
        · obtain ⟨p0, hp0⟩ : ∃ p : Nat, p = 4 * k := ⟨_, rfl⟩
          obtain ⟨p1, hp1⟩ : ∃ p : Nat, p = 4 * k + j := ⟨_, rfl⟩
          have e0 := wrap_at (4 * (k : Int)) p0 (by omega) (by omega)
          have e1 := wrap_at ((p0 : Int) + (j : Int)) p1 (by omega) (by omega)
          have q1 : (p1 : Int) < 64 := by omega
          have q4 : (k : Int) < 64 := by omega
          have b1 := (cell_of_row wr _ p1 _ _ _ hb8).trans (row_get .u8 64 f p1 (by omega))
          have c0 := (cell_of_row wr _ k _ _ _ ho).trans (row_get .u32 64 _ k (by omega))
          rw [growTo_at] at c0
          have H8 := Lib.hid hb8
          have HZ := Lib.hid hz
          have HO := Lib.hid ho
          have HP := Lib.hid hp1
          clear hb8 hz ho hp0 hp1
          go_wp2
          go_still_tail 14, (by kernel_rfl)
          change wpList _ _ _ _ _ wr.drew
          have hb8 : wr.drew.heap[w.heap.size]? = _ := H8.out
          have hz : wr.drew.heap[w.heap.size + 1]? = _ := HZ.out
          have ho : wr.drew.heap[w.heap.size + 2]? = _ := HO.out
          have hs : w.heap.size + 3 ≤ wr.drew.heap.size := hs
          have hb := below_draws hb 1
          change Below _ _ wr.drew at hb
          clear H8 HZ HO b1 c0
          generalize wr.drew = w2 at *
          have c0 := (cell_of_row w2 _ k _ _ _ ho).trans (row_get .u32 64 _ k (by omega))
          have f0 := frozen_of_row w2 _ k _ _ ho
          have H8 := Lib.hid hb8
          have HZ := Lib.hid hz
          have HO := Lib.hid ho
          clear hb8 hz ho
          have e : grown f k j <<< 8 + f p1 = grown f k (j + 1) := by rw [HP.out, grown_succ]
          have HE := Lib.hid e
          clear e
          go_wp2
          go_roundw
          case rel =>
            rw [decide_eq_true (show (k : Int) < 16 from by omega)]
            (repeat apply Exists.intro)
            refine ⟨?_, rfl⟩
            rw [HE.out]
            refine ⟨j + 1, by omega, by go_num, ?_, ?_, ?_, by simpa using hs, hb.setCell (show w.heap.size ≤ w.heap.size + 2 by omega) _⟩
            · rw [heap_setCell_other _ _ _ _ (by simp; omega)]; exact H8.out
            · rw [heap_setCell_other _ _ _ _ (by simp)]; exact HZ.out
            · rw [← growTo_set]; exact heap_setCell_same _ _ _ _ _ _ HO.out
          case measure => simp [intOf]; omega
        · obtain rfl : j = 4 := by omega
          rw [growTo_full _ _ f hf k hlt] at ho
          have H8 := Lib.hid hb8
          have HZ := Lib.hid hz
          have HO := Lib.hid ho
          clear hb8 hz ho
          go_wp2
          go_roundw
          case rel => exact ⟨k + 1, by omega, by go_num, H8.out, HZ.out, HO.out, hs, hb⟩
          case measure => simp [intOf]; omega
    · obtain rfl : k = 16 := by omega
      clear hb8
      go_wp2
      go_loopw [6] (fun c wr => ∃ k : Nat, 16 ≤ k ∧ k ≤ 64 ∧ c = .int .i64 k ∧ wr.heap[w.heap.size + 1]? = some (.cells (row .u32 64 fun _ => 0#32) 46 (0, 0)) ∧
          wr.heap[w.heap.size + 2]? = some (.cells (row .u32 64 (upTo (sched f) k)) 46 (0, 0)) ∧ w.heap.size + 3 ≤ wr.heap.size ∧ Below w.heap.size w wr) (fun c _ => 64 - (intOf c).toNat)
      case atStart => exact ⟨16, by omega, by omega, rfl, hz, ho, hs, hb⟩
      case round =>
        clear hz ho hs hb
        obtain ⟨k, hk16, hk, rfl, hz, ho, hs, hb⟩ := hrel
        by_cases hlt : k < 64
        · obtain ⟨p0, hp0⟩ : ∃ p : Nat, p = k - 2 := ⟨_, rfl⟩
          obtain ⟨p1, hp1⟩ : ∃ p : Nat, p = k - 7 := ⟨_, rfl⟩
          obtain ⟨p2, hp2⟩ : ∃ p : Nat, p = k - 15 := ⟨_, rfl⟩
          obtain ⟨p3, hp3⟩ : ∃ p : Nat, p = k - 16 := ⟨_, rfl⟩
          have e0 := wrap_at ((k : Int) - 2) p0 (by omega) (by omega)
          have e1 := wrap_at ((k : Int) - 7) p1 (by omega) (by omega)
          have e2 := wrap_at ((k : Int) - 15) p2 (by omega) (by omega)
          have e3 := wrap_at ((k : Int) - 16) p3 (by omega) (by omega)
          have q0 : (p0 : Int) < 64 := by omega
          have q1 : (p1 : Int) < 64 := by omega
          have q2 : (p2 : Int) < 64 := by omega
          have q3 : (p3 : Int) < 64 := by omega
          have q4 : (k : Int) < 64 := by omega
          have b0 := cell_upTo ho p0 (by omega) (by omega)
          have b1 := cell_upTo ho p1 (by omega) (by omega)
          have b2 := cell_upTo ho p2 (by omega) (by omega)
          have b3 := cell_upTo ho p3 (by omega) (by omega)
          have HS := Lib.hid (sched_hi f k hk16)
          have HP := Lib.hid (And.intro hp0 (And.intro hp1 (And.intro hp2 hp3)))
          have HZ := Lib.hid hz
          have HO := Lib.hid ho
          clear hz ho hp0 hp1 hp2 hp3
          go_wp2
          go_still_tail 23, (by kernel_rfl)
          still_call (still_same (ref2Small1_any _ _))
          repeat still_step
          still_call (still_same (ref2Small0_any _ _))
          repeat still_step
          refine wpStill_nil ?_
          change wpList _ _ _ _ _ wr.drew
          have hz : wr.drew.heap[w.heap.size + 1]? = _ := HZ.out
          have ho : wr.drew.heap[w.heap.size + 2]? = _ := HO.out
          have hs : w.heap.size + 3 ≤ wr.drew.heap.size := hs
          have hb := below_draws hb 1
          change Below _ _ wr.drew at hb
          clear HZ HO b0 b1 b2 b3
          generalize wr.drew = w2 at *
          have c0 := (cell_of_row w2 _ k _ _ _ ho).trans (row_get .u32 64 _ k (by omega))
          have f0 := frozen_of_row w2 _ k _ _ ho
          have HZ := Lib.hid hz
          have HO := Lib.hid ho
          clear hz ho
          have e : small1 (sched f p0) + sched f p1 + small0 (sched f p2) + sched f p3 = sched f k := by
            obtain ⟨h0, h1, h2, h3⟩ := HP.out
            rw [HS.out, h0, h1, h2, h3]
          have HE := Lib.hid e
          clear e
          go_wp2
          go_roundw
          case rel =>
            (repeat apply Exists.intro)
            refine ⟨?_, rfl⟩
            rw [HE.out]
            refine ⟨k + 1, by omega, by omega, by go_num, ?_, ?_, by simpa using hs, hb.setCell (show w.heap.size ≤ w.heap.size + 2 by omega) _⟩
            · rw [heap_setCell_other _ _ _ _ (by simp)]; exact HZ.out
            · rw [← upTo_set]; exact heap_setCell_same _ _ _ _ _ _ HO.out
          case measure => simp [intOf]; omega
        · obtain rfl : k = 64 := by omega
          rw [upTo_full] at ho
          go_wp2_with (first | (refine wpList_load_row rfl 46 _ rfl (w.heap.size + 2) rfl 46 _ (0, 0) _ ho Tryd.underlying46 rfl (by kernel_rfl) ?_) | (refine wpList_store_row rfl 46 (.tmp 2) (.tmp 56) rfl (w.heap.size + 1) _ rfl rfl 46 _ hz (by kernel_rfl) rfl (by simp [Value.oneCell', row]) ?_))
          exact bodyPost_ret (results_cell_row Tryd.results25 _ _ (w.heap.size + 1) 46 _ (0, 0) _ rfl (setRow_heap _ _ _ _ _ _ hz) Tryd.underlying46 rfl (by kernel_rfl)) rfl ⟨rfl, below_setRow hb (by omega) _⟩
theorem row_kB : row .u32 64 kB = (kTab.map (Value.int .u32)).toArray := by
  unfold row
  rw [kTab_words, List.map_map]; rfl
set_option maxRecDepth 100000 in
set_option maxHeartbeats 1000000 in
/-- Constants: the constants of all rounds. -/
theorem ref2Constants_any (w : World) :
    Calls Tryd.prog 26 #[] w fun e w' => e = .returned (.agg (row .u32 64 kB)) ∧ Below w.heap.size w w' := by
  have H0 := (heap_at_alloc w (.cells (row .u32 64 fun _ => 0#32) 46) w.heap.size).trans (if_pos rfl)
  have B0 := (Below.refl w.heap.size w).alloc (Nat.le_refl _) (.cells (row .u32 64 fun _ => 0#32) 46)
  rw [row_kB]
  go_enter Tryd.func26, Tryd.ntmps26
  go_wp2_with (first | (refine wpList_store_row rfl 46 (.tmp 0) (.tmp 1) rfl w.heap.size _ rfl rfl 46 _ H0 (by kernel_rfl) rfl (by kernel_rfl) ?_))
  exact bodyPost_ret (results_cell_row Tryd.results26 _ _ w.heap.size 46 _ (0, 0) _ rfl (setRow_heap _ _ _ _ _ _ H0) Tryd.underlying46 rfl (by kernel_rfl)) rfl ⟨rfl, below_setRow B0 (by omega) _⟩
end Go.Proofs.YtnfklikphkkpoaaDoor
