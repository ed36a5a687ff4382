/-
The walk of the statement of layer 2 on the compression of a block.
-/
import Derived.Test.YtblmmpgainogbaaDoorLaw02Awake
import Derived.Test.YtblmmpgainogbaaDoorCompress
import Derived.Test.YtblmmpgainogbaaDoorRef02Compress
namespace Go.Proofs.YtblmmpgainogbaaDoor
open Go.RowKit
theorem compress_V (h f : Nat → BitVec 32) (w : World) (tab : Tab w) : Calls Tryd.prog 6 #[.agg (rowL .u32 8 h).toArray, .agg (rowL .u8 64 f).toArray] w fun e w' => e = .returned (rowV .u32 8 (compressed h f)) ∧ Below w.heap.size w w' := compress_any h f w tab
theorem ref2Compress_V (h f : Nat → BitVec 32) (hf : ∀ i, u32 (f i) < 256) (w : World) : Calls Tryd.prog 7 #[.agg (rowL .u32 8 h).toArray, .agg (rowL .u8 64 f).toArray] w fun e w' => e = .returned (rowV .u32 8 (compressed h f)) ∧ Below w.heap.size w w' := ref2Compress_any h f hf w
theorem guard_8' : Tryd.prog.eqGuardType Tryd.prog.depth 23 = false := by kernel_rfl
theorem info_b64' : (Tryd.prog.info? 24).map (·.size) = some 64 := by kernel_rfl
theorem info_w8' : (Tryd.prog.info? 23).map (·.size) = some 8 := by kernel_rfl
set_option maxHeartbeats 1000000 in
theorem blockCompresses_walk (h f : Nat → BitVec 32) (hf : ∀ i, u32 (f i) < 256) (w : World) (tab : Tab w) :
    Calls Tryd.prog 3 #[.agg (row .u32 8 h), .agg (row .u8 64 f)] w fun e w' => e = .returned (.bool true) ∧ Below w.heap.size w w' := by
  have hC := fun (w : World) (t : Tab w) => compress_V h f w t
  have hR := fun (w : World) => ref2Compress_V h f hf w
  generalize compressed h f = c at hC hR
  have hq := eql_rowV Tryd.underlying23 Tryd.underlying22 cellsU32' c c (sameRow_self 8 c)
  have hg := guard_rowV guard_8' (.tmp 11) (.tmp 14) .u32 8 c c
  have HC := Lib.hid hC
  have HR := Lib.hid hR
  clear hC hR
  have hu := Tryd.underlying24
  have hu8 := Tryd.underlying23
  have hi : (Tryd.prog.info? 24).map (·.size) = some (rowL .u8 64 f).length := by rw [rowL_length]; exact info_b64'
  have hi8 : (Tryd.prog.info? 23).map (·.size) = some (rowL .u32 8 h).length := by rw [rowL_length]; exact info_w8'
  go_enter Tryd.func3, Tryd.ntmps3
  go_wp2_with (first | (go_at_call 5; refine (awake2_any _).mono ?_; rintro e w1 ⟨rfl, hb1⟩))
  have H0 := alloc2_0 w (.cells (row .u32 8 h) 23 (0, 0)) (.cells (row .u8 64 f) 24 (0, 0))
  have H1 := alloc2_1 w (.cells (row .u32 8 h) 23 (0, 0)) (.cells (row .u8 64 f) 24 (0, 0))
  have hs1 : w.heap.size + 2 ≤ w1.heap.size := by have := hb1.size; simpa using this
  have H0' := (hb1.block w.heap.size (by simp; omega)).trans H0
  have H1' := (hb1.block (w.heap.size + 1) (by simp)).trans H1
  have B1 : Below w.heap.size w w1 := below_next (((Below.refl _ _).alloc (Nat.le_refl _) _).alloc (by simp) _) hb1
  have HT := Lib.hid (tab_keep tab B1 (Nat.le_refl _))
  have HS := Lib.hid (show w1.rangeAt w.heap.size 0 (rowL .u32 8 h) ∧ w1.rangeAt (w.heap.size + 1) 0 (rowL .u8 64 f) ∧ Below w1.heap.size w1 w1 from ⟨range_of_row H0', range_of_row H1', Below.refl _ _⟩)
  have hl0 : w.heap.size < w1.heap.size := by omega
  have hl1 : w.heap.size + 1 < w1.heap.size := by omega
  clear H0 H1 H0' H1' hb1 hs1
  refine wp_region_held_drew (S := fun w' => w'.rangeAt w.heap.size 0 (rowL .u32 8 h) ∧ w'.rangeAt (w.heap.size + 1) 0 (rowL .u8 64 f) ∧ Below w1.heap.size w1 w') (by kernel_rfl) (range2S_draw HS.out) (fun hHeld => ?_)
  refine take_at (i := 0) (v := .bool true) 7 rfl rfl (by kernel_rfl) (by kernel_rfl) (by kernel_rfl) (fun _ _ _ h => h) (sure_yes (by rfl) (fun w => by go_simp)) (by assumption) ?_
  simp only [List.setIfInBounds_toArray, List.set_cons_zero, List.set_cons_succ]
  refine take_at (i := 1) (v := .bool true) 8 rfl rfl (by kernel_rfl) (by kernel_rfl) (by kernel_rfl) (fun _ _ _ h => h) (sure_yes (by rfl) (fun w => by go_simp)) (by assumption) ?_
  simp only [List.setIfInBounds_toArray, List.set_cons_zero, List.set_cons_succ]
  refine take_at (i := 2) 9 rfl rfl (by kernel_rfl) (by kernel_rfl) (by kernel_rfl) (fun _ _ _ h => h) (yieldsIf_load_mid (by rfl) 23 (.tmp 2) rfl (w.heap.size) 0 rfl (rowL .u32 8 h) _ (fun _ h => h.1) hu8 rfl hi8) (by assumption) ?_
  simp only [List.setIfInBounds_toArray, List.set_cons_zero, List.set_cons_succ]
  refine take_at (i := 3) 10 rfl rfl (by kernel_rfl) (by kernel_rfl) (by kernel_rfl) (fun _ _ _ h => h) (yieldsIf_load_mid (by rfl) 24 (.tmp 3) rfl (w.heap.size + 1) 0 rfl (rowL .u8 64 f) _ (fun _ h => h.2.1) hu rfl hi) (by assumption) ?_
  simp only [List.setIfInBounds_toArray, List.set_cons_zero, List.set_cons_succ]
  refine take_at (i := 5) 12 rfl rfl (by kernel_rfl) (by kernel_rfl) (by kernel_rfl) (fun _ _ _ h => h) (yieldsIf_load_mid (by rfl) 23 (.tmp 2) rfl (w.heap.size) 0 rfl (rowL .u32 8 h) _ (fun _ h => h.1) hu8 rfl hi8) (by assumption) ?_
  simp only [List.setIfInBounds_toArray, List.set_cons_zero, List.set_cons_succ]
  refine take_at (i := 6) 13 rfl rfl (by kernel_rfl) (by kernel_rfl) (by kernel_rfl) (fun _ _ _ h => h) (yieldsIf_load_mid (by rfl) 24 (.tmp 3) rfl (w.heap.size + 1) 0 rfl (rowL .u8 64 f) _ (fun _ h => h.2.1) hu rfl hi) (by assumption) ?_
  simp only [List.setIfInBounds_toArray, List.set_cons_zero, List.set_cons_succ]
  refine wpAnyH_ready (rs := [4]) (by kernel_rfl) (by simp) ?_
  refine AllReadyH.cons rfl (fun K hK => ?_) AllReadyH.nil
  go_simp
  go_at_call 6
  refine (HC.out _ (tab_keep HT.out hHeld.2.2 (Nat.le_refl _))).mono ?_
  rintro e w2 ⟨rfl, hb2⟩
  go_wp2_with fail
  refine hK.out _ _ (range2S_keep hl0 hl1 hHeld hb2) (fun hHeld => ?_)
  clear hK K
  refine wpAnyH_ready (rs := [7]) (by kernel_rfl) (by simp) ?_
  refine AllReadyH.cons rfl (fun K hK => ?_) AllReadyH.nil
  go_simp
  go_at_call 7
  refine (HR.out _).mono ?_
  rintro e w3 ⟨rfl, hb3⟩
  go_wp2_with fail
  refine hK.out _ _ (range2S_keep hl0 hl1 (by assumption) hb3) (fun hHeld => ?_)
  clear hK K
  refine take_at (i := 8) (v := .bool true) 15 rfl rfl (by kernel_rfl) (by kernel_rfl) (by kernel_rfl) (fun _ _ _ h => h) (sure_yes (by rfl) (eql_op rfl rfl rfl hg hq)) (by assumption) ?_
  simp only [List.setIfInBounds_toArray, List.set_cons_zero, List.set_cons_succ]
  refine take_at (i := 9) (v := .bool true) 16 rfl rfl (by kernel_rfl) (by kernel_rfl) (by kernel_rfl) (fun _ _ _ h => h) (sure_yes (by rfl) (fun w => by go_simp)) (by assumption) ?_
  simp only [List.setIfInBounds_toArray, List.set_cons_zero, List.set_cons_succ]
  refine take_at (i := 10) (v := .bool true) 4 rfl rfl (by kernel_rfl) (by kernel_rfl) (by kernel_rfl) (fun _ _ _ h => h) (sure_yes (by rfl) (fun w => by go_simp)) (by assumption) ?_
  simp only [List.setIfInBounds_toArray, List.set_cons_zero, List.set_cons_succ]
  refine wpAnyH_done (by kernel_rfl) ?_ _
  have hz : w3.rangeAt w.heap.size 0 (rowL .u32 8 h) ∧ w3.rangeAt (w.heap.size + 1) 0 (rowL .u8 64 f) ∧ Below w1.heap.size w1 w3 := by assumption
  have B3 := below_next B1 hz.2.2
  clear hz hb2 hb3
  go_wp2
  go_ret
  exact ⟨rfl, B3⟩
end Go.Proofs.YtblmmpgainogbaaDoor
