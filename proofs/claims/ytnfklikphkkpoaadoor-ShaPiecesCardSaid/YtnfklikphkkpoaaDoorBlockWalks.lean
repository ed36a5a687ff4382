/-
What Schedule and Round of package block return, for every argument and in every memory.
-/
import Derived.Test.YtnfklikphkkpoaaDoorBitsWalks
import Derived.Test.YtnfklikphkkpoaaDoorBlock
import Derived.Test.YtnfklikphkkpoaaDoorMem
import Derived.Lib.Hide
import Derived.Laws.CopyOwn
import Derived.Deep.QuietTactic
import Derived.BigQuiet
import Derived.StillTailTactics
namespace Go.Proofs.YtnfklikphkkpoaaDoor
open Go.RowKit
set_option maxHeartbeats 1000000 in
theorem round_any (h : Nat → BitVec 32) (k x : BitVec 32) (w : World) :
    Calls Tryd.prog 23 #[.agg (row .u32 8 h), .int .u32 (u32 k), .int .u32 (u32 x)] w fun e w' => e = .returned (.agg (row .u32 8 (roundF h k x))) ∧ Below w.heap.size w w' := by
  rw [row8]
  go_enter Tryd.func23, Tryd.ntmps23
  go_wp2
  have H0 := alloc2_0 w (.cells (row .u32 8 h) 38) (.cells (row .u32 8 fun _ => 0#32) 38)
  have Z0 := alloc2_1 w (.cells (row .u32 8 h) 38) (.cells (row .u32 8 fun _ => 0#32) 38)
  have B0 : Below w.heap.size w ((w.alloc (.cells (row .u32 8 h) 38)).alloc (.cells (row .u32 8 fun _ => 0#32) 38)) := ((Below.refl _ _).alloc (Nat.le_refl _) _).alloc (by simp) _
  simp only [row8, show u32 0#32 = 0 from rfl] at H0 Z0 B0
  generalize World.alloc (World.alloc w _) _ = w1 at *
  obtain ⟨c0, c1, c2, c3, c4, c5, c6, c7⟩ := cells8_of (h := h) H0
  go_quiet (first | (go_at_call 30; refine quiet_same (big1_any _ _)) | (go_at_call 31; refine quiet_same (ch_any _ _ _ _)))
  have H1 : (w1.drewN nq).heap[w.heap.size]? = _ := H0
  have Z1 : (w1.drewN nq).heap[w.heap.size + 1]? = _ := Z0
  have B1 := below_draws B0 nq
  clear H0 Z0 B0 c0 c1 c2 c3 c4 c5 c6 c7
  generalize w1.drewN nq = w2 at *
  obtain ⟨c0, c1, c2, c3, c4, c5, c6, c7⟩ := cells8_of (h := h) H1
  go_wp2
  go_quiet (first | (go_at_call 32; refine quiet_same (big0_any _ _)) | (go_at_call 33; refine quiet_same (maj_any _ _ _ _)))
  have H2 : (w2.drewN nq).heap[w.heap.size]? = _ := H1
  have Z2 : (w2.drewN nq).heap[w.heap.size + 1]? = _ := Z1
  have B2 := below_draws B1 nq
  clear H1 Z1 B1 c0 c1 c2 c3 c4 c5 c6 c7
  generalize w2.drewN nq = w3 at *
  obtain ⟨c0, c1, c2, c3, c4, c5, c6, c7⟩ := cells8_of (h := h) H2
  go_wp2_with (first | (refine wpList_store_row rfl 38 (.tmp 6) (.tmp 57) rfl (w.heap.size + 1) _ rfl rfl 38 _ Z2 (by kernel_rfl) rfl (by simp [Value.oneCell']) ?_))
  exact bodyPost_ret (results_cell_row Tryd.results23 _ _ (w.heap.size + 1) 38 _ (0, 0) _ rfl (setRow_heap _ _ _ _ _ _ Z2) Tryd.underlying38 rfl (by kernel_rfl)) rfl ⟨rfl, below_setRow B2 (by omega) _⟩
set_option maxHeartbeats 4000000 in
theorem schedule_any (f : Nat → BitVec 32) (w : World) :
    Calls Tryd.prog 22 #[.agg (row .u8 64 f)] w fun e w' => e = .returned (.agg (row .u32 64 (sched f))) ∧ Below w.heap.size w w' := by
  go_enter Tryd.func22, Tryd.ntmps22
  go_wp2
  go_loopw [4, 6] (fun _ c wr => ∃ k : Nat, k ≤ 16 ∧ c = .int .i64 k ∧ wr.heap[w.heap.size]? = some (.cells (row .u8 64 f) 40 (0, 0)) ∧ wr.heap[w.heap.size + 1]? = some (.cells (row .u32 64 fun _ => 0#32) 46 (0, 0)) ∧
      wr.heap[w.heap.size + 2]? = some (.cells (row .u32 64 (upTo (sched f) k)) 46 (0, 0)) ∧ w.heap.size + 3 ≤ wr.heap.size ∧ Below w.heap.size w wr) (fun _ c _ => 16 - (intOf c).toNat)
  case atStart =>
    refine ⟨0, by omega, rfl, alloc3_0 _ _ _ _, alloc3_1 _ _ _ _, ?_, by simp, (((Below.refl _ _).alloc (Nat.le_refl _) _).alloc (by simp) _).alloc (by simp; omega) _⟩
    rw [upTo_zero]; exact alloc3_2 _ _ _ _
  case round =>
    obtain ⟨k, hk, rfl, hb8, hz, ho, hs, hb⟩ := hrel
    by_cases hlt : k < 16
    · obtain ⟨p0, hp0⟩ : ∃ p : Nat, p = 4 * k := ⟨_, rfl⟩
      obtain ⟨p1, hp1⟩ : ∃ p : Nat, p = 4 * k + 1 := ⟨_, rfl⟩
      obtain ⟨p2, hp2⟩ : ∃ p : Nat, p = 4 * k + 2 := ⟨_, rfl⟩
      obtain ⟨p3, hp3⟩ : ∃ p : Nat, p = 4 * k + 3 := ⟨_, rfl⟩
      have e0 := wrap_at (4 * (k : Int)) p0 (by omega) (by omega)
      have e1 := wrap_at ((p0 : Int) + 1) p1 (by omega) (by omega)
      have e2 := wrap_at ((p0 : Int) + 2) p2 (by omega) (by omega)
      have e3 := wrap_at ((p0 : Int) + 3) p3 (by omega) (by omega)
      have q0 : (p0 : Int) < 64 := by omega
      have q1 : (p1 : Int) < 64 := by omega
      have q2 : (p2 : Int) < 64 := by omega
      have q3 : (p3 : Int) < 64 := by omega
      have q4 : (k : Int) < 64 := by omega
      have b0 := (cell_of_row wr _ p0 _ _ _ hb8).trans (row_get .u8 64 f p0 (by omega))
      have b1 := (cell_of_row wr _ p1 _ _ _ hb8).trans (row_get .u8 64 f p1 (by omega))
      have b2 := (cell_of_row wr _ p2 _ _ _ hb8).trans (row_get .u8 64 f p2 (by omega))
      have b3 := (cell_of_row wr _ p3 _ _ _ hb8).trans (row_get .u8 64 f p3 (by omega))
      have c0 := (cell_of_row wr _ k _ _ _ ho).trans (row_get .u32 64 _ k (by omega))
      have f0 := frozen_of_row wr _ k _ _ ho
      have HS := Lib.hid (sched_lo f k hlt)
      have H8 := Lib.hid hb8
      have HZ := Lib.hid hz
      have HO := Lib.hid ho
      have HP := Lib.hid (And.intro hp0 (And.intro hp1 (And.intro hp2 hp3)))
      clear hb8 hz ho hp0 hp1 hp2 hp3
      go_wp2
      go_still_tail 31, (by kernel_rfl)
      change wpList _ _ _ _ _ wr.drew
      have hb8 : wr.drew.heap[w.heap.size]? = _ := H8.out
      have hz : wr.drew.heap[w.heap.size + 1]? = _ := HZ.out
      have ho : wr.drew.heap[w.heap.size + 2]? = _ := HO.out
      have hs : w.heap.size + 3 ≤ wr.drew.heap.size := hs
      have hb := below_draws hb 1
      change Below _ _ wr.drew at hb
      clear H8 HZ HO b0 b1 b2 b3 c0 f0
      generalize wr.drew = w2 at *
      have c0 := (cell_of_row w2 _ k _ _ _ ho).trans (row_get .u32 64 _ k (by omega))
      have f0 := frozen_of_row w2 _ k _ _ ho
      have H8 := Lib.hid hb8
      have HZ := Lib.hid hz
      have HO := Lib.hid ho
      clear hb8 hz ho
      have e : f p0 <<< 24 ||| f p1 <<< 16 ||| f p2 <<< 8 ||| f p3 = sched f k := by
        obtain ⟨h0, h1, h2, h3⟩ := HP.out
        rw [HS.out, word_def, h0, h1, h2, h3]
      have HE := Lib.hid e
      clear e
      go_wp2
      go_roundw
      case rel =>
        rw [HE.out]
        refine ⟨k + 1, by omega, by go_num, ?_, ?_, ?_, by simpa using hs, hb.setCell (show w.heap.size ≤ w.heap.size + 2 by omega) _⟩
        · rw [heap_setCell_other _ _ _ _ (by simp; omega)]; exact H8.out
        · rw [heap_setCell_other _ _ _ _ (by simp)]; exact HZ.out
        · rw [← upTo_set]; exact heap_setCell_same _ _ _ _ _ _ HO.out
      case measure => simp [intOf]; omega
    · obtain rfl : k = 16 := by omega
      clear hb8
      go_wp2
      go_loopw [5] (fun c wr => ∃ k : Nat, 16 ≤ k ∧ k ≤ 64 ∧ c = .int .i64 k ∧ wr.heap[w.heap.size + 1]? = some (.cells (row .u32 64 fun _ => 0#32) 46 (0, 0)) ∧
          wr.heap[w.heap.size + 2]? = some (.cells (row .u32 64 (upTo (sched f) k)) 46 (0, 0)) ∧ w.heap.size + 3 ≤ wr.heap.size ∧ Below w.heap.size w wr) (fun c _ => 64 - (intOf c).toNat)
      case atStart => exact ⟨16, by omega, by omega, rfl, hz, ho, hs, hb⟩
      case round =>
        clear hz ho hs hb
        obtain ⟨k, hk16, hk, rfl, hz, ho, hs, hb⟩ := hrel
        by_cases hlt : k < 64
        · obtain ⟨p0, hp0⟩ : ∃ p : Nat, p = k - 2 := ⟨_, rfl⟩
          obtain ⟨p1, hp1⟩ : ∃ p : Nat, p = k - 7 := ⟨_, rfl⟩
          obtain ⟨p2, hp2⟩ : ∃ p : Nat, p = k - 15 := ⟨_, rfl⟩
          obtain ⟨p3, hp3⟩ : ∃ p : Nat, p = k - 16 := ⟨_, rfl⟩
          have e0 := wrap_at ((k : Int) - 2) p0 (by omega) (by omega)
          have e1 := wrap_at ((k : Int) - 7) p1 (by omega) (by omega)
          have e2 := wrap_at ((k : Int) - 15) p2 (by omega) (by omega)
          have e3 := wrap_at ((k : Int) - 16) p3 (by omega) (by omega)
          have q0 : (p0 : Int) < 64 := by omega
          have q1 : (p1 : Int) < 64 := by omega
          have q2 : (p2 : Int) < 64 := by omega
          have q3 : (p3 : Int) < 64 := by omega
          have q4 : (k : Int) < 64 := by omega
          have b0 := cell_upTo ho p0 (by omega) (by omega)
          have b1 := cell_upTo ho p1 (by omega) (by omega)
          have b2 := cell_upTo ho p2 (by omega) (by omega)
          have b3 := cell_upTo ho p3 (by omega) (by omega)
          have HS := Lib.hid (sched_hi f k hk16)
          have HP := Lib.hid (And.intro hp0 (And.intro hp1 (And.intro hp2 hp3)))
          have HZ := Lib.hid hz
          have HO := Lib.hid ho
          clear hz ho hp0 hp1 hp2 hp3
          go_wp2
          go_still_tail 23, (by kernel_rfl)
          still_call (still_same (small1_any _ _))
          repeat still_step
          still_call (still_same (small0_any _ _))
          repeat still_step
          refine wpStill_nil ?_
          change wpList _ _ _ _ _ wr.drew
          have hz : wr.drew.heap[w.heap.size + 1]? = _ := HZ.out
          have ho : wr.drew.heap[w.heap.size + 2]? = _ := HO.out
          have hs : w.heap.size + 3 ≤ wr.drew.heap.size := hs
          have hb := below_draws hb 1
          change Below _ _ wr.drew at hb
          clear HZ HO b0 b1 b2 b3
          generalize wr.drew = w2 at *
          have c0 := (cell_of_row w2 _ k _ _ _ ho).trans (row_get .u32 64 _ k (by omega))
          have f0 := frozen_of_row w2 _ k _ _ ho
          have HZ := Lib.hid hz
          have HO := Lib.hid ho
          clear hz ho
          have e : small1 (sched f p0) + sched f p1 + small0 (sched f p2) + sched f p3 = sched f k := by
            obtain ⟨h0, h1, h2, h3⟩ := HP.out
            rw [HS.out, h0, h1, h2, h3]
          have HE := Lib.hid e
          clear e
          go_wp2
          go_roundw
          case rel =>
            (repeat apply Exists.intro)
            refine ⟨?_, rfl⟩
            rw [HE.out]
            refine ⟨k + 1, by omega, by omega, by go_num, ?_, ?_, by simpa using hs, hb.setCell (show w.heap.size ≤ w.heap.size + 2 by omega) _⟩
            · rw [heap_setCell_other _ _ _ _ (by simp)]; exact HZ.out
            · rw [← upTo_set]; exact heap_setCell_same _ _ _ _ _ _ HO.out
          case measure => simp [intOf]; omega
        · obtain rfl : k = 64 := by omega
          rw [upTo_full] at ho
          go_wp2_with (first | (refine wpList_load_row rfl 46 _ rfl (w.heap.size + 2) rfl 46 _ (0, 0) _ ho Tryd.underlying46 rfl (by kernel_rfl) ?_) | (refine wpList_store_row rfl 46 (.tmp 2) (.tmp 68) rfl (w.heap.size + 1) _ rfl rfl 46 _ hz (by kernel_rfl) rfl (by simp [Value.oneCell', row]) ?_))
          exact bodyPost_ret (results_cell_row Tryd.results22 _ _ (w.heap.size + 1) 46 _ (0, 0) _ rfl (setRow_heap _ _ _ _ _ _ hz) Tryd.underlying46 rfl (by kernel_rfl)) rfl ⟨rfl, below_setRow hb (by omega) _⟩
end Go.Proofs.YtnfklikphkkpoaaDoor
