/-
What the document's own Compress returns: the words behind the rounds, and those from before them.
-/
import Derived.Test.YtnfklikphkkpoaaDoorRef02Walks
import Derived.Test.YtnfklikphkkpoaaDoorHeld
import Derived.StillTailTactics
namespace Go.Proofs.YtnfklikphkkpoaaDoor
open Go.RowKit
theorem ref2Round_L' (h : Nat → BitVec 32) (k x : BitVec 32) (w : World) : Calls Tryd.prog 27 #[.agg #[.int .u32 (u32 (h 0)), .int .u32 (u32 (h 1)), .int .u32 (u32 (h 2)), .int .u32 (u32 (h 3)), .int .u32 (u32 (h 4)), .int .u32 (u32 (h 5)), .int .u32 (u32 (h 6)), .int .u32 (u32 (h 7))], .int .u32 (u32 k), .int .u32 (u32 x)] w fun e w' => e = .returned (.agg (row .u32 8 (roundF h k x))) ∧ Below w.heap.size w w' := ref2Round_any h k x w
set_option maxHeartbeats 4000000 in
theorem ref2Compress_any (h f : Nat → BitVec 32) (hf : ∀ i, u32 (f i) < 256) (w : World) :
    Calls Tryd.prog 21 #[.agg (row .u32 8 h), .agg (row .u8 64 f)] w fun e w' => e = .returned (.agg (row .u32 8 (compressed h f))) ∧ Below w.heap.size w w' := by
  have H0 := alloc3_0 w (.cells (row .u32 8 h) 38 (0, 0)) (.cells (row .u8 64 f) 40 (0, 0)) (.cells (row .u32 8 fun _ => 0#32) 38 (0, 0))
  have H1 := alloc3_1 w (.cells (row .u32 8 h) 38 (0, 0)) (.cells (row .u8 64 f) 40 (0, 0)) (.cells (row .u32 8 fun _ => 0#32) 38 (0, 0))
  have H2 := alloc3_2 w (.cells (row .u32 8 h) 38 (0, 0)) (.cells (row .u8 64 f) 40 (0, 0)) (.cells (row .u32 8 fun _ => 0#32) 38 (0, 0))
  have B0 : Below w.heap.size w (((w.alloc (.cells (row .u32 8 h) 38 (0, 0))).alloc (.cells (row .u8 64 f) 40 (0, 0))).alloc (.cells (row .u32 8 fun _ => 0#32) 38 (0, 0))) :=
    (((Below.refl _ _).alloc (Nat.le_refl _) _).alloc (by simp) _).alloc (by simp; omega) _
  have S0 : (((w.alloc (.cells (row .u32 8 h) 38 (0, 0))).alloc (.cells (row .u8 64 f) 40 (0, 0))).alloc (.cells (row .u32 8 fun _ => 0#32) 38 (0, 0))).heap.size = w.heap.size + 3 := by simp
  obtain ⟨w0, hw0⟩ : ∃ w0, w0 = ((w.alloc (.cells (row .u32 8 h) 38 (0, 0))).alloc (.cells (row .u8 64 f) 40 (0, 0))).alloc (.cells (row .u32 8 fun _ => 0#32) 38 (0, 0)) := ⟨_, rfl⟩
  rw [← hw0] at H0 H1 H2 B0 S0
  have HH := Lib.hid (And.intro H0 (And.intro H1 (And.intro H2 (And.intro B0 S0))))
  have HW := Lib.hid hw0
  clear H0 H1 H2 B0 S0 hw0
  go_enter Tryd.func21, Tryd.ntmps21
  go_wp2_with (first | (refine wpList_load_row rfl 40 (.tmp 3) rfl (w.heap.size + 1) rfl 40 _ (0, 0) _ (HW.out ▸ HH.out.2.1) Tryd.underlying40 rfl (by kernel_rfl) ?_) | (go_at_call 25; refine (ref2Schedule_any f hf _).mono ?_; rintro e w1 ⟨rfl, hb1⟩; have hb1 : Below w0.heap.size w0 w1 := (by rw [HW.out]; exact hb1); rw [HH.out.2.2.2.2] at hb1; have HA1 := Lib.hid ((hb1.block w.heap.size (by omega)).trans HH.out.1); have HZ1 := Lib.hid ((hb1.block (w.heap.size + 2) (by omega)).trans HH.out.2.2.1); have B1 := HH.out.2.2.2.1.trans (hb1.mono (by omega)); have s1 : w.heap.size + 3 ≤ w1.heap.size := HH.out.2.2.2.2 ▸ hb1.size; clear hb1 HH HW) | (refine store_new rfl 46 (.tmp 5) (.tmp 11) rfl rfl w1 _ _ 46 rfl rfl rfl (by kernel_rfl) rfl (row_one _ _ _) ?_; intro w2 hh2 hb2 s2; have HA2 := Lib.hid ((hb2.block w.heap.size (by omega)).trans HA1.out); have HZ2 := Lib.hid ((hb2.block (w.heap.size + 2) (by omega)).trans HZ1.out); have B2 := below_next B1 hb2; have HS2 := Lib.hid hh2; clear HA1 HZ1 B1 hh2 hb2) | (go_at_call 26; refine (ref2Constants_any _).mono ?_; rintro e w3 ⟨rfl, hb3⟩; have HA3 := Lib.hid ((hb3.block w.heap.size (by omega)).trans HA2.out); have HZ3 := Lib.hid ((hb3.block (w.heap.size + 2) (by omega)).trans HZ2.out); have HS3 := Lib.hid ((hb3.block w1.heap.size s2).trans HS2.out); have B3 := below_next B2 hb3; have s3 : w1.heap.size < w3.heap.size := Nat.lt_of_lt_of_le s2 hb3.size; clear HA2 HZ2 HS2 B2 hb3 s2) | (refine store_new rfl 46 (.tmp 6) (.tmp 12) rfl rfl w3 _ _ 46 rfl rfl rfl (by kernel_rfl) rfl (row_one _ _ _) ?_; intro w4 hh4 hb4 s4; have HA4 := Lib.hid ((hb4.block w.heap.size (by omega)).trans HA3.out); have HZ4 := Lib.hid ((hb4.block (w.heap.size + 2) (by omega)).trans HZ3.out); have HS4 := Lib.hid ((hb4.block w1.heap.size s3).trans HS3.out); have HK4 := Lib.hid hh4; have B4 := below_next B3 hb4; clear HA3 HZ3 HS3 B3 hh4 hb4) | (refine wpList_load_row rfl 38 (.tmp 2) rfl w.heap.size rfl 38 _ (0, 0) _ HA4.out Tryd.underlying38 rfl (by kernel_rfl) ?_) | (refine store_new rfl 38 (.tmp 7) (.tmp 13) rfl rfl w4 _ _ 38 rfl rfl rfl (by kernel_rfl) rfl (row_one _ _ _) ?_; intro w5 hh5 hb5 s5; have HA5 := Lib.hid ((hb5.block w.heap.size (by omega)).trans HA4.out); have HZ5 := Lib.hid ((hb5.block (w.heap.size + 2) (by omega)).trans HZ4.out); have HS5 := Lib.hid ((hb5.block w1.heap.size (by omega)).trans HS4.out); have HK5 := Lib.hid ((hb5.block w3.heap.size s4).trans HK4.out); have HR5 := Lib.hid hh5; have B5 := below_next B4 hb5; clear HA4 HZ4 HS4 HK4 B4 hh5 hb5))
  have t3 : w.heap.size + 3 ≤ w3.heap.size := by omega
  have t4 : w.heap.size + 3 ≤ w4.heap.size := by omega
  have t5 : w1.heap.size < w4.heap.size := by omega
  go_loopw [8] (fun c wr => ∃ k : Nat, k ≤ 64 ∧ c = .int .i64 k ∧ wr.heap[w.heap.size]? = some (.cells (row .u32 8 h) 38 (0, 0)) ∧ wr.heap[w.heap.size + 2]? = some (.cells (row .u32 8 fun _ => 0#32) 38 (0, 0)) ∧ wr.heap[w1.heap.size]? = some (.cells (row .u32 64 (sched f)) 46 (0, 0)) ∧ wr.heap[w3.heap.size]? = some (.cells (row .u32 64 kB) 46 (0, 0)) ∧ wr.heap[w4.heap.size]? = some (.cells (row .u32 8 (rounds h (sched f) k)) 38 (0, 0)) ∧ w4.heap.size < wr.heap.size ∧ Below w.heap.size w wr) (fun c _ => 64 - (intOf c).toNat)
  case atStart => exact ⟨0, by omega, rfl, HA5.out, HZ5.out, HS5.out, HK5.out, by rw [rounds_zero]; exact HR5.out, s5, B5⟩
  case round =>
    clear HA5 HZ5 HS5 HK5 HR5 B5 s5
    obtain ⟨k, hk, rfl, ha, hz, hs, hc, hr, hl, hb⟩ := hrel
    by_cases hlt : k < 64
    · have q4 : (k : Int) < 64 := by omega
      obtain ⟨c0, c1, c2, c3, c4, c5, c6, c7⟩ := cells8_of hr
      have d0 := (cell_of_row wr _ k _ _ _ hs).trans (row_get .u32 64 _ k hlt)
      have d1 := (cell_of_row wr _ k _ _ _ hc).trans (row_get .u32 64 _ k hlt)
      have HA := Lib.hid ha
      have HZ := Lib.hid hz
      have HS := Lib.hid hs
      have HC := Lib.hid hc
      have HR := Lib.hid hr
      clear ha hz hs hc hr
      go_wp2
      go_still_tail 7, (by kernel_rfl)
      change wpList _ _ _ _ _ wr.drew
      have ha : wr.drew.heap[w.heap.size]? = _ := HA.out
      have hz : wr.drew.heap[w.heap.size + 2]? = _ := HZ.out
      have hs : wr.drew.heap[w1.heap.size]? = _ := HS.out
      have hc : wr.drew.heap[w3.heap.size]? = _ := HC.out
      have hr : wr.drew.heap[w4.heap.size]? = _ := HR.out
      have hl : w4.heap.size < wr.drew.heap.size := hl
      have hb := below_draws hb 1
      change Below _ _ wr.drew at hb
      clear HA HZ HS HC HR c0 c1 c2 c3 c4 c5 c6 c7 d0 d1
      generalize wr.drew = w6 at *
      have HA := Lib.hid ha
      have HZ := Lib.hid hz
      have HS := Lib.hid hs
      have HC := Lib.hid hc
      have HR := Lib.hid hr
      clear ha hz hs hc hr
      go_wp2_with (first | (go_at_call 27; refine (ref2Round_L' (rounds h (sched f) k) (kB k) (sched f k) _).mono ?_; rintro e w7 ⟨rfl, hb7⟩; have HA7 := Lib.hid ((hb7.block w.heap.size (by omega)).trans HA.out); have HZ7 := Lib.hid ((hb7.block (w.heap.size + 2) (by omega)).trans HZ.out); have HS7 := Lib.hid ((hb7.block w1.heap.size (by omega)).trans HS.out); have HC7 := Lib.hid ((hb7.block w3.heap.size (by omega)).trans HC.out); have HR7 := Lib.hid ((hb7.block w4.heap.size hl).trans HR.out); have B7 := below_next hb hb7; have hl7 : w4.heap.size < w7.heap.size := Nat.lt_of_lt_of_le hl hb7.size; clear HA HZ HS HC HR hb hb7 hl) | (refine store_old rfl 38 (.tmp 7) (.tmp 25) rfl rfl w4.heap.size _ _ 38 HR7.out rfl rfl (by kernel_rfl) ((row_size _ _ _).trans (row_size _ _ _).symm) (row_one _ _ _) ?_; intro w8 hh8 ho8 hs8 hb8; have HA8 := Lib.hid ((ho8 w.heap.size (by omega)).trans HA7.out); have HZ8 := Lib.hid ((ho8 (w.heap.size + 2) (by omega)).trans HZ7.out); have HS8 := Lib.hid ((ho8 w1.heap.size (by omega)).trans HS7.out); have HC8 := Lib.hid ((ho8 w3.heap.size (by omega)).trans HC7.out); have HR8 := Lib.hid hh8; have B8 := hb8 _ _ B7 (by omega); have hl8 : w4.heap.size < w8.heap.size := Nat.lt_of_lt_of_le hl7 hs8; clear HA7 HZ7 HS7 HC7 HR7 hh8 ho8 hs8 hb8 B7 hl7))
      go_roundw
      case rel => exact ⟨k + 1, by omega, by go_num, HA8.out, HZ8.out, HS8.out, HC8.out, by rw [rounds_succ]; exact HR8.out, hl8, B8⟩
      case measure => simp [intOf]; omega
    · obtain rfl : k = 64 := by omega
      have HA := Lib.hid ha
      have HZ := Lib.hid hz
      have HR := Lib.hid hr
      clear ha hz hr hs hc
      go_wp2
      go_loopw [9] (fun c wr => ∃ k : Nat, k ≤ 8 ∧ c = .int .i64 k ∧ wr.heap[w.heap.size]? = some (.cells (row .u32 8 h) 38 (0, 0)) ∧ wr.heap[w.heap.size + 2]? = some (.cells (row .u32 8 fun _ => 0#32) 38 (0, 0)) ∧ wr.heap[w4.heap.size]? = some (.cells (row .u32 8 (mixTo (compressed h f) (rounds h (sched f) 64) k)) 38 (0, 0)) ∧ w4.heap.size < wr.heap.size ∧ Below w.heap.size w wr) (fun c _ => 8 - (intOf c).toNat)
      case atStart => exact ⟨0, by omega, rfl, HA.out, HZ.out, by rw [mix_zero]; exact HR.out, hl, hb⟩
      case round =>
        clear HA HZ HR hl hb
        obtain ⟨k, hk, rfl, ha, hz, hr, hl, hb⟩ := hrel
        by_cases hlt : k < 8
        · have q4 : (k : Int) < 8 := by omega
          have c0 := (cell_of_row wr _ k _ _ _ hr).trans (row_get .u32 8 _ k hlt)
          rw [mix_at] at c0
          have c1 := (cell_of_row wr _ k _ _ _ ha).trans (row_get .u32 8 h k hlt)
          have HA := Lib.hid ha
          have HZ := Lib.hid hz
          have HR := Lib.hid hr
          clear ha hz hr
          go_wp2
          go_still_tail 9, (by kernel_rfl)
          change wpList _ _ _ _ _ wr.drew
          have ha : wr.drew.heap[w.heap.size]? = _ := HA.out
          have hz : wr.drew.heap[w.heap.size + 2]? = _ := HZ.out
          have hr : wr.drew.heap[w4.heap.size]? = _ := HR.out
          have hl : w4.heap.size < wr.drew.heap.size := hl
          have hb := below_draws hb 1
          change Below _ _ wr.drew at hb
          clear HA HZ HR c0 c1
          generalize wr.drew = w6 at *
          have c0 := (cell_of_row w6 _ k _ _ _ hr).trans (row_get .u32 8 _ k hlt)
          have f0 := frozen_of_row w6 _ k _ _ hr
          have HA := Lib.hid ha
          have HZ := Lib.hid hz
          have HR := Lib.hid hr
          clear ha hz hr
          have HE := Lib.hid (compressed_def h f k)
          go_wp2
          go_roundw
          case rel =>
            (repeat apply Exists.intro)
            refine ⟨?_, rfl⟩
            rw [HE.out]
            refine ⟨k + 1, by omega, by go_num, ?_, ?_, ?_, by simpa using hl, hb.setCell (show w.heap.size ≤ w4.heap.size by omega) _⟩
            · rw [heap_setCell_other _ _ _ _ (by simp; omega)]; exact HA.out
            · rw [heap_setCell_other _ _ _ _ (by simp; omega)]; exact HZ.out
            · rw [← mix_set]; exact heap_setCell_same _ _ _ _ _ _ HR.out
          case measure => simp [intOf]; omega
        · obtain rfl : k = 8 := by omega
          rw [mix_full] at hr
          go_wp2_with (first | (refine wpList_load_row rfl 38 (.tmp 7) rfl w4.heap.size rfl 38 _ (0, 0) _ hr Tryd.underlying38 rfl (by kernel_rfl) ?_) | (refine wpList_store_row rfl 38 (.tmp 4) (.tmp 39) rfl (w.heap.size + 2) _ rfl rfl 38 _ hz (by kernel_rfl) ((row_size _ _ _).trans (row_size _ _ _).symm) (row_one _ _ _) ?_))
          exact bodyPost_ret (results_cell_row Tryd.results21 _ _ (w.heap.size + 2) 38 _ (0, 0) _ rfl (setRow_heap _ _ _ _ _ _ hz) Tryd.underlying38 rfl (by kernel_rfl)) rfl ⟨rfl, below_setRow hb (by omega) _⟩
end Go.Proofs.YtnfklikphkkpoaaDoor
