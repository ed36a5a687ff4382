/-
What Compress of package block returns, where the constants' table holds its constants: the words behind the rounds, and those from before them.
-/
import Derived.Test.YtnfklikphkkpoaaDoorBlockWalks
import Derived.Test.YtnfklikphkkpoaaDoorHeld
import Derived.StillTailTactics
namespace Go.Proofs.YtnfklikphkkpoaaDoor
open Go.RowKit
/-- The constants' table holds its constants. -/
def Tab (w : World) : Prop := ∀ i : Nat, i < 64 → w.cell? ⟨0, i, none⟩ = some (.int .u32 (u32 (kB i)))
theorem tab_lt {w : World} (h : Tab w) : 0 < w.heap.size := World.block_lt_of_cell? w ⟨0, 0, none⟩ (h 0 (by omega))
theorem tab_keep {w w' : World} {B : Nat} (h : Tab w) (hb : Below B w w') (hB : w.heap.size ≤ B) : Tab w' := fun i hi => by
  rw [cell_same (hb.block 0 (Nat.lt_of_lt_of_le (tab_lt h) hB))]; exact h i hi
theorem k_still (k : Nat) (hk : k < 64) (w : World) (h : Tab w) : Calls Tryd.prog 24 #[.int .i64 k] w fun e w' => e = .returned (.int .u32 (u32 (kB k))) ∧ w' = w :=
  still_same (k_in (k : Int) _ _ (by omega) (by omega) (by rw [Int.toNat_natCast]; exact h k hk))
theorem schedule_R (f : Nat → BitVec 32) (w : World) : Calls Tryd.prog 22 #[.agg (row .u8 64 f)] w fun e w' => e = .returned (rowV .u32 64 (sched f)) ∧ Below w.heap.size w w' := schedule_any f w
theorem cellsU32' : Tryd.prog.cellsOf 37 = 1 := by kernel_rfl
theorem index_words (f : Nat → BitVec 32) (i : Nat) (hi : i < 64) : ∀ w, (Instr.index 46 (rowV .u32 64 f) (.int .i64 i)).run Tryd.prog w = .ok (.int .u32 (u32 (f i))) w := fun w =>
  index_row w f i hi Tryd.underlying46 Tryd.underlying37 cellsU32'
theorem round_L' (h : Nat → BitVec 32) (k x : BitVec 32) (w : World) : Calls Tryd.prog 23 #[.agg #[.int .u32 (u32 (h 0)), .int .u32 (u32 (h 1)), .int .u32 (u32 (h 2)), .int .u32 (u32 (h 3)), .int .u32 (u32 (h 4)), .int .u32 (u32 (h 5)), .int .u32 (u32 (h 6)), .int .u32 (u32 (h 7))], .int .u32 (u32 k), .int .u32 (u32 x)] w fun e w' => e = .returned (.agg (row .u32 8 (roundF h k x))) ∧ Below w.heap.size w w' := round_any h k x w
set_option maxHeartbeats 4000000 in
theorem compress_any (h f : Nat → BitVec 32) (w : World) (tab : Tab w) :
    Calls Tryd.prog 19 #[.agg (row .u32 8 h), .agg (row .u8 64 f)] w fun e w' => e = .returned (.agg (row .u32 8 (compressed h f))) ∧ Below w.heap.size w w' := by
  have H0 := alloc3_0 w (.cells (row .u32 8 h) 38 (0, 0)) (.cells (row .u8 64 f) 40 (0, 0)) (.cells (row .u32 8 fun _ => 0#32) 38 (0, 0))
  have H1 := alloc3_1 w (.cells (row .u32 8 h) 38 (0, 0)) (.cells (row .u8 64 f) 40 (0, 0)) (.cells (row .u32 8 fun _ => 0#32) 38 (0, 0))
  have H2 := alloc3_2 w (.cells (row .u32 8 h) 38 (0, 0)) (.cells (row .u8 64 f) 40 (0, 0)) (.cells (row .u32 8 fun _ => 0#32) 38 (0, 0))
  have B0 : Below w.heap.size w (((w.alloc (.cells (row .u32 8 h) 38 (0, 0))).alloc (.cells (row .u8 64 f) 40 (0, 0))).alloc (.cells (row .u32 8 fun _ => 0#32) 38 (0, 0))) :=
    (((Below.refl _ _).alloc (Nat.le_refl _) _).alloc (by simp) _).alloc (by simp; omega) _
  have S0 : (((w.alloc (.cells (row .u32 8 h) 38 (0, 0))).alloc (.cells (row .u8 64 f) 40 (0, 0))).alloc (.cells (row .u32 8 fun _ => 0#32) 38 (0, 0))).heap.size = w.heap.size + 3 := by simp
  obtain ⟨w0, hw0⟩ : ∃ w0, w0 = ((w.alloc (.cells (row .u32 8 h) 38 (0, 0))).alloc (.cells (row .u8 64 f) 40 (0, 0))).alloc (.cells (row .u32 8 fun _ => 0#32) 38 (0, 0)) := ⟨_, rfl⟩
  rw [← hw0] at H0 H1 H2 B0 S0
  have HH := Lib.hid (And.intro H0 (And.intro H1 (And.intro H2 (And.intro B0 S0))))
  have HW := Lib.hid hw0
  clear H0 H1 H2 B0 S0 hw0
  go_enter Tryd.func19, Tryd.ntmps19
  go_wp2_with (first | (refine wpList_load_row rfl 38 (.tmp 2) rfl w.heap.size rfl 38 _ (0, 0) _ (HW.out ▸ HH.out.1) Tryd.underlying38 rfl (by kernel_rfl) ?_) | (refine store_new rfl 38 (.tmp 5) (.tmp 9) rfl rfl w0 (row .u32 8 fun _ => 0#32) (row .u32 8 h) 38 (by rw [HW.out]; rfl) (show Value.pointer (some ⟨w.heap.size + 3, 0, none⟩) = Value.pointer (some ⟨w0.heap.size, 0, none⟩) from congrArg (fun n => Value.pointer (some ⟨n, 0, none⟩)) HH.out.2.2.2.2.symm) rfl (by kernel_rfl) rfl (row_one _ _ _) ?_; intro w1 hh1 hb1 hs1; rw [HH.out.2.2.2.2] at hh1 hb1 hs1; have HA := Lib.hid ((hb1.block w.heap.size (by omega)).trans HH.out.1); have H1' := Lib.hid ((hb1.block (w.heap.size + 1) (by omega)).trans HH.out.2.1); have HZ := Lib.hid ((hb1.block (w.heap.size + 2) (by omega)).trans HH.out.2.2.1); have B1 := HH.out.2.2.2.1.trans (hb1.mono (by omega)); have HR := Lib.hid hh1; clear hh1 hb1 HH HW) | (refine wpList_load_row rfl 40 (.tmp 3) rfl (w.heap.size + 1) rfl 40 _ (0, 0) _ H1'.out Tryd.underlying40 rfl (by kernel_rfl) ?_) | (go_at_call 22; refine (schedule_R f _).mono ?_; rintro e w2 ⟨rfl, hb2⟩; have HA2 := Lib.hid ((hb2.block w.heap.size (by omega)).trans HA.out); have HZ2 := Lib.hid ((hb2.block (w.heap.size + 2) (by omega)).trans HZ.out); have HR2 := Lib.hid ((hb2.block (w.heap.size + 3) (by omega)).trans HR.out); have B2 := B1.trans (hb2.mono (by omega)); have hs2 : w.heap.size + 4 ≤ w2.heap.size := Nat.le_trans hs1 hb2.size; clear HA H1' HZ HR B1 hb2 hs1))
  go_loopw [6, 7, 12] (fun _ _ c wr => ∃ k : Nat, k ≤ 64 ∧ c = .int .i64 k ∧ wr.heap[w.heap.size]? = some (.cells (row .u32 8 h) 38 (0, 0)) ∧ wr.heap[w.heap.size + 2]? = some (.cells (row .u32 8 fun _ => 0#32) 38 (0, 0)) ∧
      wr.heap[w.heap.size + 3]? = some (.cells (row .u32 8 (rounds h (sched f) k)) 38 (0, 0)) ∧ w.heap.size + 4 ≤ wr.heap.size ∧ Below w.heap.size w wr) (fun _ _ c _ => 64 - (intOf c).toNat)
  case atStart => exact ⟨0, by omega, rfl, HA2.out, HZ2.out, by rw [rounds_zero]; exact HR2.out, hs2, B2⟩
  case round =>
    clear HA2 HZ2 HR2 B2 hs2
    obtain ⟨k, hk, rfl, ha, hz, hr, hs, hb⟩ := hrel
    by_cases hlt : k < 64
    · have hix := index_words (sched f) k hlt
      have HK := Lib.hid (tab_keep tab hb (Nat.le_refl _))
      obtain ⟨c0, c1, c2, c3, c4, c5, c6, c7⟩ := cells8_of hr
      have HA := Lib.hid ha
      have HZ := Lib.hid hz
      have HR := Lib.hid hr
      clear ha hz hr
      go_wp2
      go_still_tail 4, (by kernel_rfl)
      still_call (k_still k hlt _ HK.out)
      repeat still_step
      refine wpStill_nil ?_
      change wpList _ _ _ _ _ wr.drew
      have ha : wr.drew.heap[w.heap.size]? = _ := HA.out
      have hz : wr.drew.heap[w.heap.size + 2]? = _ := HZ.out
      have hr : wr.drew.heap[w.heap.size + 3]? = _ := HR.out
      have hs : w.heap.size + 4 ≤ wr.drew.heap.size := hs
      have hb := below_draws hb 1
      change Below _ _ wr.drew at hb
      clear HA HZ HR c0 c1 c2 c3 c4 c5 c6 c7 HK hix
      generalize wr.drew = w3 at *
      have HA := Lib.hid ha
      have HZ := Lib.hid hz
      have HR := Lib.hid hr
      clear ha hz hr
      go_wp2_with (first | (go_at_call 23; refine (round_L' (rounds h (sched f) k) (kB k) (sched f k) _).mono ?_; rintro e w4 ⟨rfl, hb4⟩; have HA4 := Lib.hid ((hb4.block w.heap.size (by omega)).trans HA.out); have HZ4 := Lib.hid ((hb4.block (w.heap.size + 2) (by omega)).trans HZ.out); have HR4 := Lib.hid ((hb4.block (w.heap.size + 3) (by omega)).trans HR.out); have B4 := hb.trans (hb4.mono (by omega)); have hs4 : w.heap.size + 4 ≤ w4.heap.size := Nat.le_trans hs hb4.size; clear HA HZ HR hb hb4 hs) | (refine store_old rfl 38 (.tmp 5) (.tmp 20) rfl rfl (w.heap.size + 3) _ _ 38 HR4.out rfl rfl (by kernel_rfl) rfl (row_one _ _ _) ?_; intro w5 hh5 ho5 hs5 hb5; have HA5 := Lib.hid ((ho5 w.heap.size (by omega)).trans HA4.out); have HZ5 := Lib.hid ((ho5 (w.heap.size + 2) (by omega)).trans HZ4.out); have HR5 := Lib.hid hh5; have B5 := hb5 _ _ B4 (by omega); have hs6 := Nat.le_trans hs4 hs5; clear HA4 HZ4 HR4 hh5 ho5 hs5 hb5 B4 hs4))
      go_roundw
      case rel => exact ⟨k + 1, by omega, by go_num, HA5.out, HZ5.out, by rw [rounds_succ]; exact HR5.out, hs6, B5⟩
      case measure => simp [intOf]; omega
    · obtain rfl : k = 64 := by omega
      have HA := Lib.hid ha
      have HZ := Lib.hid hz
      have HR := Lib.hid hr
      clear ha hz hr
      go_wp2
      go_loopw [8, 22] (fun _ c wr => ∃ k : Nat, k ≤ 8 ∧ c = .int .i64 k ∧ wr.heap[w.heap.size]? = some (.cells (row .u32 8 h) 38 (0, 0)) ∧ wr.heap[w.heap.size + 2]? = some (.cells (row .u32 8 fun _ => 0#32) 38 (0, 0)) ∧
          wr.heap[w.heap.size + 3]? = some (.cells (row .u32 8 (mixTo (compressed h f) (rounds h (sched f) 64) k)) 38 (0, 0)) ∧ w.heap.size + 4 ≤ wr.heap.size ∧ Below w.heap.size w wr) (fun _ c _ => 8 - (intOf c).toNat)
      case atStart => exact ⟨0, by omega, rfl, HA.out, HZ.out, by rw [mix_zero]; exact HR.out, hs, hb⟩
      case round =>
        clear HA HZ HR hs hb
        obtain ⟨k, hk, rfl, ha, hz, hr, hs, hb⟩ := hrel
        by_cases hlt : k < 8
        · have q4 : (k : Int) < 8 := by omega
          have c0 := (cell_of_row wr _ k _ _ _ hr).trans (row_get .u32 8 _ k hlt)
          rw [mix_at] at c0
          have c1 := (cell_of_row wr _ k _ _ _ ha).trans (row_get .u32 8 h k hlt)
          have HA := Lib.hid ha
          have HZ := Lib.hid hz
          have HR := Lib.hid hr
          clear ha hz hr
          go_wp2
          go_still_tail 8, (by kernel_rfl)
          change wpList _ _ _ _ _ wr.drew
          have ha : wr.drew.heap[w.heap.size]? = _ := HA.out
          have hz : wr.drew.heap[w.heap.size + 2]? = _ := HZ.out
          have hr : wr.drew.heap[w.heap.size + 3]? = _ := HR.out
          have hs : w.heap.size + 4 ≤ wr.drew.heap.size := hs
          have hb := below_draws hb 1
          change Below _ _ wr.drew at hb
          clear HA HZ HR c0 c1
          generalize wr.drew = w3 at *
          have c0 := (cell_of_row w3 _ k _ _ _ hr).trans (row_get .u32 8 _ k hlt)
          have f0 := frozen_of_row w3 _ k _ _ hr
          have HA := Lib.hid ha
          have HZ := Lib.hid hz
          have HR := Lib.hid hr
          clear ha hz hr
          have HE := Lib.hid (compressed_def h f k)
          go_wp2
          go_roundw
          case rel =>
            (repeat apply Exists.intro)
            refine ⟨?_, rfl⟩
            rw [HE.out]
            refine ⟨k + 1, by omega, by go_num, ?_, ?_, ?_, by simpa using hs, hb.setCell (show w.heap.size ≤ w.heap.size + 3 by omega) _⟩
            · rw [heap_setCell_other _ _ _ _ (by simp; omega)]; exact HA.out
            · rw [heap_setCell_other _ _ _ _ (by simp)]; exact HZ.out
            · rw [← mix_set]; exact heap_setCell_same _ _ _ _ _ _ HR.out
          case measure => simp [intOf]; omega
        · obtain rfl : k = 8 := by omega
          rw [mix_full] at hr
          go_wp2_with (first | (refine wpList_load_row rfl 38 (.tmp 5) rfl (w.heap.size + 3) rfl 38 _ (0, 0) _ hr Tryd.underlying38 rfl (by kernel_rfl) ?_) | (refine wpList_store_row rfl 38 (.tmp 4) (.tmp 34) rfl (w.heap.size + 2) _ rfl rfl 38 _ hz (by kernel_rfl) ((row_size _ _ _).trans (row_size _ _ _).symm) (row_one _ _ _) ?_))
          exact bodyPost_ret (results_cell_row Tryd.results19 _ _ (w.heap.size + 2) 38 _ (0, 0) _ rfl (setRow_heap _ _ _ _ _ _ hz) Tryd.underlying38 rfl (by kernel_rfl)) rfl ⟨rfl, below_setRow hb (by omega) _⟩
end Go.Proofs.YtnfklikphkkpoaaDoor
