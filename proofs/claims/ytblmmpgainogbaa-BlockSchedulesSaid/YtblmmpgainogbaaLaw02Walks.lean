/-
The walks of the statements of layer 2 on the schedule of a block.
-/
import Derived.Test.YtblmmpgainogbaaLaw02Awake
import Derived.Test.YtblmmpgainogbaaHeld
namespace Go.Proofs.Ytblmmpgainogbaa
open Go.RowKit
theorem schedule_V (f : Nat → BitVec 32) (w : World) : Calls Try.prog 8 #[.agg (rowL .u8 64 f).toArray] w fun e w' => e = .returned (rowV .u32 64 (sched f)) ∧ Below w.heap.size w w' := schedule_any f w
theorem ref2Schedule_V (f : Nat → BitVec 32) (hf : ∀ i, u32 (f i) < 256) (w : World) : Calls Try.prog 9 #[.agg (rowL .u8 64 f).toArray] w fun e w' => e = .returned (rowV .u32 64 (sched f)) ∧ Below w.heap.size w w' := ref2Schedule_any f hf w
theorem cells_u32 : Try.prog.cellsOf 24 = 1 := by kernel_rfl
theorem guard_64 : Try.prog.eqGuardType Try.prog.depth 25 = false := by kernel_rfl
theorem guard_8 : Try.prog.eqGuardType Try.prog.depth 28 = false := by kernel_rfl
theorem info_b64 : (Try.prog.info? 22).map (·.size) = some 64 := by kernel_rfl
set_option maxHeartbeats 1000000 in
theorem blockSchedules_walk (f : Nat → BitVec 32) (hf : ∀ i, u32 (f i) < 256) (w : World) :
    Calls Try.prog 3 #[.agg (row .u8 64 f)] w fun e w' => e = .returned (.bool true) ∧ Below w.heap.size w w' := by
  have hq := eql_rowV Try.underlying25 Try.underlying24 cells_u32 (sched f) (sched f) (sameRow_self 64 (sched f))
  have hg := guard_rowV guard_64 (.tmp 8) (.tmp 10) .u32 64 (sched f) (sched f)
  have hu := Try.underlying22
  have hi : (Try.prog.info? 22).map (·.size) = some (rowL .u8 64 f).length := by rw [rowL_length]; exact info_b64
  go_enter Try.func3, Try.ntmps3
  go_wp2_with (first | (go_at_call 7; refine (awake2_any _).mono ?_; rintro e w1 ⟨rfl, hb1⟩))
  have H0 := heap_last w (.cells (row .u8 64 f) 22 (0, 0))
  have hlt : w.heap.size < w1.heap.size := Nat.lt_of_lt_of_le (by simp) hb1.size
  have H1 := (hb1.block w.heap.size (by simp)).trans H0
  have B1 : Below w.heap.size w w1 := below_next ((Below.refl _ _).alloc (Nat.le_refl _) _) hb1
  have HS := Lib.hid (show w1.rangeAt w.heap.size 0 (rowL .u8 64 f) ∧ Below w1.heap.size w1 w1 from ⟨range_of_row H1, Below.refl _ _⟩)
  clear H0 H1 hb1
  refine wp_region_held_drew (S := fun w' => w'.rangeAt w.heap.size 0 (rowL .u8 64 f) ∧ Below w1.heap.size w1 w') (by kernel_rfl) (rangeS_draw HS.out) (fun hHeld => ?_)
  refine wpAnyH_take (i := 0) (v := .bool true) rfl (by kernel_rfl) (by kernel_rfl) (by kernel_rfl) (fun _ _ _ h => h) (sure_yes (by rfl) (fun w => by go_simp)) (by assumption) ?_
  refine wpAnyH_take (i := 1) (v := .bool true) rfl (by kernel_rfl) (by kernel_rfl) (by kernel_rfl) (fun _ _ _ h => h) (sure_yes (by rfl) (fun w => by go_simp)) (by assumption) ?_
  refine wpAnyH_take (i := 2) rfl (by kernel_rfl) (by kernel_rfl) (by kernel_rfl) (fun _ _ _ h => h) (yieldsIf_load_mid (by rfl) 22 (.tmp 1) rfl w.heap.size 0 rfl (rowL .u8 64 f) _ (fun _ h => h.1) hu rfl hi) (by assumption) ?_
  refine wpAnyH_take (i := 4) rfl (by kernel_rfl) (by kernel_rfl) (by kernel_rfl) (fun _ _ _ h => h) (yieldsIf_load_mid (by rfl) 22 (.tmp 1) rfl w.heap.size 0 rfl (rowL .u8 64 f) _ (fun _ h => h.1) hu rfl hi) (by assumption) ?_
  refine wpAnyH_ready (rs := [3]) (by kernel_rfl) (by simp) ?_
  refine AllReadyH.cons rfl (fun K hK => ?_) AllReadyH.nil
  go_simp
  go_at_call 8
  refine (schedule_V f _).mono ?_
  rintro e w2 ⟨rfl, hb2⟩
  go_wp2_with fail
  refine hK.out _ _ (rangeS_keep hlt (by assumption) hb2) (fun hHeld => ?_)
  clear hK K
  refine wpAnyH_ready (rs := [5]) (by kernel_rfl) (by simp) ?_
  refine AllReadyH.cons rfl (fun K hK => ?_) AllReadyH.nil
  go_simp
  go_at_call 9
  refine (ref2Schedule_V f hf _).mono ?_
  rintro e w3 ⟨rfl, hb3⟩
  go_wp2_with fail
  refine hK.out _ _ (rangeS_keep hlt (by assumption) hb3) (fun hHeld => ?_)
  clear hK K
  refine wpAnyH_take (i := 6) (v := .bool true) rfl (by kernel_rfl) (by kernel_rfl) (by kernel_rfl) (fun _ _ _ h => h) (sure_yes (by rfl) (fun w => by go_simp)) (by assumption) ?_
  refine wpAnyH_take (i := 7) (v := .bool true) rfl (by kernel_rfl) (by kernel_rfl) (by kernel_rfl) (fun _ _ _ h => h) (sure_yes (by rfl) (fun w => by go_simp)) (by assumption) ?_
  refine wpAnyH_take (i := 8) (v := .bool true) rfl (by kernel_rfl) (by kernel_rfl) (by kernel_rfl) (fun _ _ _ h => h) (sure_yes (by rfl) (fun w => by go_simp)) (by assumption) ?_
  refine wpAnyH_done (by kernel_rfl) ?_ _
  have hz : w3.rangeAt w.heap.size 0 (rowL .u8 64 f) ∧ Below w1.heap.size w1 w3 := by assumption
  have B3 := below_next B1 hz.2
  clear hz hb2 hb3
  go_wp2
  go_ret
  exact ⟨rfl, B3⟩
end Go.Proofs.Ytblmmpgainogbaa
