/-
The walk of the statement of layer 2 on blocks apart: of one block unlike words are compressed to unlike ones, less those.
-/
import Derived.Test.YtblmmpgainogbaaDoorLaw02Awake
import Derived.Test.YtblmmpgainogbaaDoorCompress
import Derived.StillTailTactics
namespace Go.Proofs.YtblmmpgainogbaaDoor
open Go.RowKit
theorem eql_rowL {P : Program} {t e : TypeId} {k : IntKind} {n : Nat} (ht : P.underlying t = some (.array n e)) (he : P.underlying e = some (.int k)) (hc : P.cellsOf e = 1) (f g : Nat → BitVec 32) {b : Bool} (hb : sameRow n f g = b) :
    ∀ w, (binOp .eql t (.agg (rowL k n f).toArray) (.agg (rowL k n g).toArray)).run P w = .ok (.bool b) w := eql_rowV ht he hc f g hb
theorem guard_rowL {P : Program} {t : TypeId} (hm : P.eqGuardType P.depth t = false) (x y : Operand) (k : IntKind) (n : Nat) (f g : Nat → BitVec 32) :
    ∀ w, (eqGuard .eql t x y (.agg (rowL k n f).toArray) (.agg (rowL k n g).toArray)).run P w = .ok () w := guard_rowV hm x y k n f g
theorem eql_bools (q : Bool) : ∀ w, (binOp .eql 4 (.bool q) (.bool q)).run Tryd.prog w = .ok (.bool true) w := fun w => by cases q <;> kernel_rfl
theorem guard_bools (q : Bool) (x y : Operand) : ∀ w, (eqGuard .eql 4 x y (.bool q) (.bool q)).run Tryd.prog w = .ok () w := fun w => by simp [eqGuard]
theorem guard_8a : Tryd.prog.eqGuardType Tryd.prog.depth 23 = false := by kernel_rfl
theorem info_w8a : (Tryd.prog.info? 23).map (·.size) = some 8 := by kernel_rfl
set_option maxHeartbeats 8000000 in
theorem blockApart_core (h g f X Y R R' : Nat → BitVec 32) (lX : ∀ i, X i - h i = R i) (lY : ∀ i, Y i - g i = R' i) (hS : sameRow 8 R R' = sameRow 8 h g) (hR : rounds h (sched f) 64 = R)
    (cX : ∀ w, Tab w → Calls Tryd.prog 6 #[.agg (row .u32 8 h), .agg (row .u8 64 f)] w fun e w' => e = .returned (.agg (row .u32 8 X)) ∧ Below w.heap.size w w')
    (cY : ∀ w, Tab w → Calls Tryd.prog 6 #[.agg (row .u32 8 g), .agg (row .u8 64 f)] w fun e w' => e = .returned (.agg (row .u32 8 Y)) ∧ Below w.heap.size w w')
    (w : World) (tab : Tab w) :
    Calls Tryd.prog 4 #[.agg (row .u32 8 h), .agg (row .u32 8 g), .agg (row .u8 64 f)] w fun e w' => e = .returned (.bool true) ∧ Below w.heap.size w w' := by
  have H0 := alloc3_0 w (.cells (row .u32 8 h) 23 (0, 0)) (.cells (row .u32 8 g) 23 (0, 0)) (.cells (row .u8 64 f) 24 (0, 0))
  have H1 := alloc3_1 w (.cells (row .u32 8 h) 23 (0, 0)) (.cells (row .u32 8 g) 23 (0, 0)) (.cells (row .u8 64 f) 24 (0, 0))
  have H2 := alloc3_2 w (.cells (row .u32 8 h) 23 (0, 0)) (.cells (row .u32 8 g) 23 (0, 0)) (.cells (row .u8 64 f) 24 (0, 0))
  have B0 : Below w.heap.size w (((w.alloc (.cells (row .u32 8 h) 23 (0, 0))).alloc (.cells (row .u32 8 g) 23 (0, 0))).alloc (.cells (row .u8 64 f) 24 (0, 0))) := (((Below.refl _ _).alloc (Nat.le_refl _) _).alloc (by simp) _).alloc (by simp; omega) _
  have S0 : (((w.alloc (.cells (row .u32 8 h) 23 (0, 0))).alloc (.cells (row .u32 8 g) 23 (0, 0))).alloc (.cells (row .u8 64 f) 24 (0, 0))).heap.size = w.heap.size + 3 := by simp
  obtain ⟨w0, hw0⟩ : ∃ w0, w0 = (((w.alloc (.cells (row .u32 8 h) 23 (0, 0))).alloc (.cells (row .u32 8 g) 23 (0, 0))).alloc (.cells (row .u8 64 f) 24 (0, 0))) := ⟨_, rfl⟩
  rw [← hw0] at H0 H1 H2 B0 S0
  have HH := Lib.hid (And.intro H0 (And.intro H1 (And.intro H2 (And.intro B0 S0))))
  have HW := Lib.hid hw0
  have CX := Lib.hid cX
  have CY := Lib.hid cY
  have LX := Lib.hid lX
  have LY := Lib.hid lY
  have HSAME := Lib.hid hS
  have HEND := Lib.hid hR
  have TB := Lib.hid tab
  clear H0 H1 H2 B0 S0 hw0 cX cY lX lY hS hR tab
  go_enter Tryd.func4, Tryd.ntmps4
  go_wp2_with (first | (go_at_call 5; refine (awake2_any _).mono ?_; rintro e w1 ⟨rfl, hb⟩; have hb : Below w0.heap.size w0 w1 := (by rw [HW.out]; exact hb); rw [HH.out.2.2.2.2] at hb; have HA := Lib.hid ((hb.block w.heap.size (by omega)).trans HH.out.1); have HG := Lib.hid ((hb.block (w.heap.size + 1) (by omega)).trans HH.out.2.1); have HB := Lib.hid ((hb.block (w.heap.size + 2) (by omega)).trans HH.out.2.2.1); have B := HH.out.2.2.2.1.trans (hb.mono (by omega)); have s1 : w.heap.size + 3 ≤ w1.heap.size := HH.out.2.2.2.2 ▸ hb.size; clear HH HW) | (refine wpList_load_row rfl 23 (.tmp 3) rfl (w.heap.size) rfl 23 _ (0, 0) _ HA.out Tryd.underlying23 rfl (by kernel_rfl) ?_) | (refine wpList_load_row rfl 23 (.tmp 4) rfl (w.heap.size + 1) rfl 23 _ (0, 0) _ HG.out Tryd.underlying23 rfl (by kernel_rfl) ?_) | (refine wpList_load_row rfl 24 (.tmp 5) rfl (w.heap.size + 2) rfl 24 _ (0, 0) _ HB.out Tryd.underlying24 rfl (by kernel_rfl) ?_) | (go_at_call 6; (with_reducible refine (CX.out _ (tab_keep TB.out B (Nat.le_refl _))).mono ?_); rintro e w2 ⟨rfl, hb⟩; replace HA := Lib.hid ((hb.block (w.heap.size) (by omega)).trans HA.out); replace HG := Lib.hid ((hb.block (w.heap.size + 1) (by omega)).trans HG.out); replace HB := Lib.hid ((hb.block (w.heap.size + 2) (by omega)).trans HB.out); replace B := below_next B hb; have s2 : w.heap.size + 3 ≤ w2.heap.size := Nat.le_trans s1 hb.size; clear hb) | (refine store_new rfl 23 (.tmp 8) (.tmp 18) rfl rfl w2 _ _ 23 rfl rfl rfl (by kernel_rfl) ((row_size _ _ _).symm) (row_one _ _ _) ?_; intro w3 hh hb s3; replace HA := Lib.hid ((hb.block (w.heap.size) (by omega)).trans HA.out); replace HG := Lib.hid ((hb.block (w.heap.size + 1) (by omega)).trans HG.out); replace HB := Lib.hid ((hb.block (w.heap.size + 2) (by omega)).trans HB.out); have HX := Lib.hid hh; replace B := below_next B hb; clear hh hb) | (go_at_call 6; (with_reducible refine (CY.out _ (tab_keep TB.out B (Nat.le_refl _))).mono ?_); rintro e w4 ⟨rfl, hb⟩; replace HA := Lib.hid ((hb.block (w.heap.size) (by omega)).trans HA.out); replace HG := Lib.hid ((hb.block (w.heap.size + 1) (by omega)).trans HG.out); replace HB := Lib.hid ((hb.block (w.heap.size + 2) (by omega)).trans HB.out); replace HX := Lib.hid ((hb.block (w2.heap.size) (by omega)).trans HX.out); replace B := below_next B hb; have s4 : w2.heap.size < w4.heap.size := Nat.lt_of_lt_of_le s3 hb.size; clear hb) | (refine store_new rfl 23 (.tmp 9) (.tmp 21) rfl rfl w4 _ _ 23 rfl rfl rfl (by kernel_rfl) ((row_size _ _ _).symm) (row_one _ _ _) ?_; intro w5 hh hb s5; replace HA := Lib.hid ((hb.block (w.heap.size) (by omega)).trans HA.out); replace HG := Lib.hid ((hb.block (w.heap.size + 1) (by omega)).trans HG.out); replace HB := Lib.hid ((hb.block (w.heap.size + 2) (by omega)).trans HB.out); replace HX := Lib.hid ((hb.block (w2.heap.size) (by omega)).trans HX.out); have HY := Lib.hid hh; replace B := below_next B hb; clear hh hb))
  go_loopw [10] (fun c wr => ∃ k : Nat, k ≤ 8 ∧ c = .int .i64 k ∧ wr.heap[w.heap.size]? = some (.cells (row .u32 8 (h)) 23 (0, 0)) ∧ wr.heap[w.heap.size + 1]? = some (.cells (row .u32 8 (g)) 23 (0, 0)) ∧ wr.heap[w.heap.size + 2]? = some (.cells (row .u8 64 (f)) 24 (0, 0)) ∧ wr.heap[w2.heap.size]? = some (.cells (row .u32 8 (mixTo R X k)) 23 (0, 0)) ∧ wr.heap[w4.heap.size]? = some (.cells (row .u32 8 (mixTo R' Y k)) 23 (0, 0)) ∧ w4.heap.size < wr.heap.size ∧ Below w.heap.size w wr) (fun c _ => 8 - (intOf c).toNat)
  case atStart => exact ⟨0, by omega, rfl, HA.out, HG.out, HB.out, by rw [mix_zero]; exact HX.out, by rw [mix_zero]; exact HY.out, s5, B⟩
  case round =>
    clear HA HG HB HX HY B s5
    obtain ⟨k, hk, rfl, ha, hg, hb8, hx, hy, hl, hb⟩ := hrel
    by_cases hlt : k < 8
    · have q4 : (k : Int) < 8 := by omega
      have c0 := (cell_of_row wr _ k _ _ _ hx).trans (row_get .u32 8 _ k hlt)
      rw [mix_at] at c0
      have c1 := (cell_of_row wr _ k _ _ _ ha).trans (row_get .u32 8 h k hlt)
      have HA := Lib.hid ha
      have HG := Lib.hid hg
      have HB := Lib.hid hb8
      have HX := Lib.hid hx
      have HY := Lib.hid hy
      clear ha hg hb8 hx hy
      go_wp2
      go_still_tail 9, (by kernel_rfl)
      change wpList _ _ _ _ _ wr.drew
      have ha : wr.drew.heap[w.heap.size]? = _ := HA.out
      have hg : wr.drew.heap[w.heap.size + 1]? = _ := HG.out
      have hb8 : wr.drew.heap[w.heap.size + 2]? = _ := HB.out
      have hx : wr.drew.heap[w2.heap.size]? = _ := HX.out
      have hy : wr.drew.heap[w4.heap.size]? = _ := HY.out
      have hl : w4.heap.size < wr.drew.heap.size := hl
      have hb := below_draws hb 1
      change Below _ _ wr.drew at hb
      clear HA HG HB HX HY c0 c1
      generalize wr.drew = w6 at *
      have c0 := (cell_of_row w6 _ k _ _ _ hx).trans (row_get .u32 8 _ k hlt)
      have f0 := frozen_of_row w6 _ k _ _ hx
      have HA := Lib.hid ha
      have HG := Lib.hid hg
      have HB := Lib.hid hb8
      have HX := Lib.hid hx
      have HY := Lib.hid hy
      clear ha hg hb8 hx hy
      go_wp2
      have hx : (w6.setCell ⟨w2.heap.size, k, none⟩ (.int .u32 (Go.Proofs.YtblmmpgainogbaaDoor.u32 (X k - h k)))).heap[w2.heap.size]? = some (.cells (row .u32 8 (mixTo R X (k + 1))) 23 (0, 0)) := by
        rw [LX.out, ← mix_set]; exact heap_setCell_same _ _ _ _ _ _ HX.out
      have ha : (w6.setCell ⟨w2.heap.size, k, none⟩ (.int .u32 (Go.Proofs.YtblmmpgainogbaaDoor.u32 (X k - h k)))).heap[w.heap.size]? = _ := (heap_setCell_other _ _ _ _ (by simp; omega)).trans HA.out
      have hg : (w6.setCell ⟨w2.heap.size, k, none⟩ (.int .u32 (Go.Proofs.YtblmmpgainogbaaDoor.u32 (X k - h k)))).heap[w.heap.size + 1]? = _ := (heap_setCell_other _ _ _ _ (by simp; omega)).trans HG.out
      have hb8 : (w6.setCell ⟨w2.heap.size, k, none⟩ (.int .u32 (Go.Proofs.YtblmmpgainogbaaDoor.u32 (X k - h k)))).heap[w.heap.size + 2]? = _ := (heap_setCell_other _ _ _ _ (by simp; omega)).trans HB.out
      have hy : (w6.setCell ⟨w2.heap.size, k, none⟩ (.int .u32 (Go.Proofs.YtblmmpgainogbaaDoor.u32 (X k - h k)))).heap[w4.heap.size]? = _ := (heap_setCell_other _ _ _ _ (by simp; omega)).trans HY.out
      have hl : w4.heap.size < (w6.setCell ⟨w2.heap.size, k, none⟩ (.int .u32 (Go.Proofs.YtblmmpgainogbaaDoor.u32 (X k - h k)))).heap.size := by simpa using hl
      have hb : Below w.heap.size w (w6.setCell ⟨w2.heap.size, k, none⟩ (.int .u32 (Go.Proofs.YtblmmpgainogbaaDoor.u32 (X k - h k)))) := hb.setCell (show w.heap.size ≤ w2.heap.size by omega) _
      clear HA HG HB HX HY c0 f0
      generalize w6.setCell ⟨w2.heap.size, k, none⟩ (.int .u32 (Go.Proofs.YtblmmpgainogbaaDoor.u32 (X k - h k))) = w7 at *
      have c0 := (cell_of_row w7 _ k _ _ _ hy).trans (row_get .u32 8 _ k hlt)
      rw [mix_at] at c0
      have c1 := (cell_of_row w7 _ k _ _ _ hg).trans (row_get .u32 8 g k hlt)
      have HA := Lib.hid ha
      have HG := Lib.hid hg
      have HB := Lib.hid hb8
      have HX := Lib.hid hx
      have HY := Lib.hid hy
      clear ha hg hb8 hx hy
      go_still_tail 9, (by kernel_rfl)
      change wpList _ _ _ _ _ w7.drew
      have ha : w7.drew.heap[w.heap.size]? = _ := HA.out
      have hg : w7.drew.heap[w.heap.size + 1]? = _ := HG.out
      have hb8 : w7.drew.heap[w.heap.size + 2]? = _ := HB.out
      have hx : w7.drew.heap[w2.heap.size]? = _ := HX.out
      have hy : w7.drew.heap[w4.heap.size]? = _ := HY.out
      have hl : w4.heap.size < w7.drew.heap.size := hl
      have hb := below_draws hb 1
      change Below _ _ w7.drew at hb
      clear HA HG HB HX HY c0 c1
      generalize w7.drew = w8 at *
      have c0 := (cell_of_row w8 _ k _ _ _ hy).trans (row_get .u32 8 _ k hlt)
      have f0 := frozen_of_row w8 _ k _ _ hy
      have HA := Lib.hid ha
      have HG := Lib.hid hg
      have HB := Lib.hid hb8
      have HX := Lib.hid hx
      have HY := Lib.hid hy
      clear ha hg hb8 hx hy
      go_wp2
      go_roundw
      case rel =>
        rw [LY.out]
        refine ⟨k + 1, by omega, by go_num, ?_, ?_, ?_, ?_, ?_, by simpa using hl, hb.setCell (show w.heap.size ≤ w4.heap.size by omega) _⟩
        · rw [heap_setCell_other _ _ _ _ (by simp; omega)]; exact HA.out
        · rw [heap_setCell_other _ _ _ _ (by simp; omega)]; exact HG.out
        · rw [heap_setCell_other _ _ _ _ (by simp; omega)]; exact HB.out
        · rw [heap_setCell_other _ _ _ _ (by simp; omega)]; exact HX.out
        · rw [← mix_set]; exact heap_setCell_same _ _ _ _ _ _ HY.out
      case measure => simp [intOf]; omega
    · obtain rfl : k = 8 := by omega
      rw [mix_full] at hx hy
      have HA := Lib.hid ha
      have HG := Lib.hid hg
      have HB := Lib.hid hb8
      have HX := Lib.hid hx
      have HY := Lib.hid hy
      have B := hb
      have sr := hl
      clear ha hg hb8 hx hy hb hl
      clear CX CY LX LY TB
      go_wp2_with (first | (refine wpList_load_row rfl 23 (.tmp 3) rfl (w.heap.size) rfl 23 _ (0, 0) _ HA.out Tryd.underlying23 rfl (by kernel_rfl) ?_) | (refine wpList_load_row rfl 24 (.tmp 5) rfl (w.heap.size + 2) rfl 24 _ (0, 0) _ HB.out Tryd.underlying24 rfl (by kernel_rfl) ?_) | (go_at_call 8; refine (schedule_any f _).mono ?_; rintro e wa ⟨rfl, hb⟩; replace HA := Lib.hid ((hb.block (w.heap.size) (by omega)).trans HA.out); replace HG := Lib.hid ((hb.block (w.heap.size + 1) (by omega)).trans HG.out); replace HB := Lib.hid ((hb.block (w.heap.size + 2) (by omega)).trans HB.out); replace HX := Lib.hid ((hb.block (w2.heap.size) (by omega)).trans HX.out); replace HY := Lib.hid ((hb.block (w4.heap.size) (by omega)).trans HY.out); replace B := below_next B hb; have sa : w4.heap.size < wa.heap.size := Nat.lt_of_lt_of_le sr hb.size; clear hb) | (refine store_new rfl 28 (.tmp 11) (.tmp 45) rfl rfl wa _ _ 28 rfl rfl rfl (by kernel_rfl) ((row_size _ _ _).symm) (row_one _ _ _) ?_; intro wb hh hb sb; replace HA := Lib.hid ((hb.block (w.heap.size) (by omega)).trans HA.out); replace HG := Lib.hid ((hb.block (w.heap.size + 1) (by omega)).trans HG.out); replace HB := Lib.hid ((hb.block (w.heap.size + 2) (by omega)).trans HB.out); replace HX := Lib.hid ((hb.block (w2.heap.size) (by omega)).trans HX.out); replace HY := Lib.hid ((hb.block (w4.heap.size) (by omega)).trans HY.out); have HS := Lib.hid hh; replace B := below_next B hb; clear hh hb) | (refine store_new rfl 23 (.tmp 12) (.tmp 46) rfl rfl wb _ _ 23 rfl rfl rfl (by kernel_rfl) ((row_size _ _ _).symm) (row_one _ _ _) ?_; intro wc hh hb sc; replace HA := Lib.hid ((hb.block (w.heap.size) (by omega)).trans HA.out); replace HG := Lib.hid ((hb.block (w.heap.size + 1) (by omega)).trans HG.out); replace HB := Lib.hid ((hb.block (w.heap.size + 2) (by omega)).trans HB.out); replace HX := Lib.hid ((hb.block (w2.heap.size) (by omega)).trans HX.out); replace HY := Lib.hid ((hb.block (w4.heap.size) (by omega)).trans HY.out); replace HS := Lib.hid ((hb.block (wa.heap.size) (by omega)).trans HS.out); have HZ := Lib.hid hh; replace B := below_next B hb; clear hh hb) | (go_at_call 9; refine (ref2Constants_any _).mono ?_; rintro e wd ⟨rfl, hb⟩; replace HA := Lib.hid ((hb.block (w.heap.size) (by omega)).trans HA.out); replace HG := Lib.hid ((hb.block (w.heap.size + 1) (by omega)).trans HG.out); replace HB := Lib.hid ((hb.block (w.heap.size + 2) (by omega)).trans HB.out); replace HX := Lib.hid ((hb.block (w2.heap.size) (by omega)).trans HX.out); replace HY := Lib.hid ((hb.block (w4.heap.size) (by omega)).trans HY.out); replace HS := Lib.hid ((hb.block (wa.heap.size) (by omega)).trans HS.out); replace HZ := Lib.hid ((hb.block (wb.heap.size) (by omega)).trans HZ.out); replace B := below_next B hb; have sd : wb.heap.size < wd.heap.size := Nat.lt_of_lt_of_le sc hb.size; clear hb) | (refine store_new rfl 28 (.tmp 13) (.tmp 47) rfl rfl wd _ _ 28 rfl rfl rfl (by kernel_rfl) ((row_size _ _ _).symm) (row_one _ _ _) ?_; intro we hh hb se; replace HA := Lib.hid ((hb.block (w.heap.size) (by omega)).trans HA.out); replace HG := Lib.hid ((hb.block (w.heap.size + 1) (by omega)).trans HG.out); replace HB := Lib.hid ((hb.block (w.heap.size + 2) (by omega)).trans HB.out); replace HX := Lib.hid ((hb.block (w2.heap.size) (by omega)).trans HX.out); replace HY := Lib.hid ((hb.block (w4.heap.size) (by omega)).trans HY.out); replace HS := Lib.hid ((hb.block (wa.heap.size) (by omega)).trans HS.out); replace HZ := Lib.hid ((hb.block (wb.heap.size) (by omega)).trans HZ.out); have HC := Lib.hid hh; replace B := below_next B hb; clear hh hb))
      have u1 : w4.heap.size < wb.heap.size := by omega
      have u2 : w4.heap.size < wd.heap.size := by omega
      have u3 : wa.heap.size < wd.heap.size := by omega
      go_loopw [14] (fun c wr => ∃ k : Nat, k ≤ 64 ∧ c = .int .i64 k ∧ wr.heap[w.heap.size]? = some (.cells (row .u32 8 (h)) 23 (0, 0)) ∧ wr.heap[w.heap.size + 1]? = some (.cells (row .u32 8 (g)) 23 (0, 0)) ∧ wr.heap[w2.heap.size]? = some (.cells (row .u32 8 (R)) 23 (0, 0)) ∧ wr.heap[w4.heap.size]? = some (.cells (row .u32 8 (R')) 23 (0, 0)) ∧ wr.heap[wa.heap.size]? = some (.cells (row .u32 64 (sched f)) 28 (0, 0)) ∧ wr.heap[wd.heap.size]? = some (.cells (row .u32 64 (kB)) 28 (0, 0)) ∧ wr.heap[wb.heap.size]? = some (.cells (row .u32 8 (rounds h (sched f) k)) 23 (0, 0)) ∧ wd.heap.size < wr.heap.size ∧ Below w.heap.size w wr) (fun c _ => 64 - (intOf c).toNat)
      case atStart => exact ⟨0, by omega, rfl, HA.out, HG.out, HX.out, HY.out, HS.out, HC.out, by rw [rounds_zero]; exact HZ.out, se, B⟩
      case round =>
        clear HA HG HB HX HY HS HC HZ B se
        obtain ⟨k, hk, rfl, ha, hg, hx, hy, hs, hc, hz, hl, hb⟩ := hrel
        by_cases hlt : k < 64
        · have q4 : (k : Int) < 64 := by omega
          obtain ⟨c0, c1, c2, c3, c4, c5, c6, c7⟩ := cells8_of hz
          have d0 := (cell_of_row wr _ k _ _ _ hs).trans (row_get .u32 64 _ k hlt)
          have d1 := (cell_of_row wr _ k _ _ _ hc).trans (row_get .u32 64 _ k hlt)
          have HA := Lib.hid ha
          have HG := Lib.hid hg
          have HX := Lib.hid hx
          have HY := Lib.hid hy
          have HS := Lib.hid hs
          have HC := Lib.hid hc
          have HZ := Lib.hid hz
          clear ha hg hx hy hs hc hz
          go_wp2
          go_still_tail 7, (by kernel_rfl)
          change wpList _ _ _ _ _ wr.drew
          have ha : wr.drew.heap[w.heap.size]? = _ := HA.out
          have hg : wr.drew.heap[w.heap.size + 1]? = _ := HG.out
          have hx : wr.drew.heap[w2.heap.size]? = _ := HX.out
          have hy : wr.drew.heap[w4.heap.size]? = _ := HY.out
          have hs : wr.drew.heap[wa.heap.size]? = _ := HS.out
          have hc : wr.drew.heap[wd.heap.size]? = _ := HC.out
          have hz : wr.drew.heap[wb.heap.size]? = _ := HZ.out
          have hl : wd.heap.size < wr.drew.heap.size := hl
          have hb := below_draws hb 1
          change Below _ _ wr.drew at hb
          clear HA HG HX HY HS HC HZ c0 c1 c2 c3 c4 c5 c6 c7 d0 d1
          generalize wr.drew = w6 at *
          have HA := Lib.hid ha
          have HG := Lib.hid hg
          have HX := Lib.hid hx
          have HY := Lib.hid hy
          have HS := Lib.hid hs
          have HC := Lib.hid hc
          have HZ := Lib.hid hz
          clear ha hg hx hy hs hc hz
          go_wp2_with (first | (go_at_call 10; refine (round_L' (rounds h (sched f) k) (kB k) (sched f k) _).mono ?_; rintro e w7 ⟨rfl, hb7⟩; have HA7 := Lib.hid ((hb7.block (w.heap.size) (by omega)).trans HA.out); have HG7 := Lib.hid ((hb7.block (w.heap.size + 1) (by omega)).trans HG.out); have HX7 := Lib.hid ((hb7.block (w2.heap.size) (by omega)).trans HX.out); have HY7 := Lib.hid ((hb7.block (w4.heap.size) (by omega)).trans HY.out); have HS7 := Lib.hid ((hb7.block (wa.heap.size) (by omega)).trans HS.out); have HC7 := Lib.hid ((hb7.block (wd.heap.size) (by omega)).trans HC.out); have HZ7 := Lib.hid ((hb7.block (wb.heap.size) (by omega)).trans HZ.out); have B7 := below_next hb hb7; have hl7 : wd.heap.size < w7.heap.size := Nat.lt_of_lt_of_le hl hb7.size; clear HA HG HX HY HS HC HZ hb hb7 hl) | (refine store_old rfl 23 (.tmp 12) (.tmp 59) rfl rfl wb.heap.size _ _ 23 HZ7.out rfl rfl (by kernel_rfl) ((row_size _ _ _).trans (row_size _ _ _).symm) (row_one _ _ _) ?_; intro w8 hh8 ho8 hs8 hb8; have HA8 := Lib.hid ((ho8 (w.heap.size) (by omega)).trans HA7.out); have HG8 := Lib.hid ((ho8 (w.heap.size + 1) (by omega)).trans HG7.out); have HX8 := Lib.hid ((ho8 (w2.heap.size) (by omega)).trans HX7.out); have HY8 := Lib.hid ((ho8 (w4.heap.size) (by omega)).trans HY7.out); have HS8 := Lib.hid ((ho8 (wa.heap.size) (by omega)).trans HS7.out); have HC8 := Lib.hid ((ho8 (wd.heap.size) (by omega)).trans HC7.out); have HZ8 := Lib.hid hh8; have B8 := hb8 _ _ B7 (by omega); have hl8 : wd.heap.size < w8.heap.size := Nat.lt_of_lt_of_le hl7 hs8; clear HA7 HG7 HX7 HY7 HS7 HC7 HZ7 hh8 ho8 hs8 hb8 B7 hl7))
          go_roundw
          case rel => exact ⟨k + 1, by omega, by go_num, HA8.out, HG8.out, HX8.out, HY8.out, HS8.out, HC8.out, by rw [rounds_succ]; exact HZ8.out, hl8, B8⟩
          case measure => simp [intOf]; omega
        · have hk64 : k = 64 := by omega
          rw [hk64, HEND.out] at hz
          clear hs hc
          have RX := range_of_row hx
          have RY := range_of_row hy
          have RA := range_of_row ha
          have RG := range_of_row hg
          have RZ := range_of_row hz
          have HR5 := Lib.hid (And.intro RX (And.intro RY (And.intro RA (And.intro RG RZ))))
          clear RX RY RA RG RZ hx hy ha hg hz
          have q : (64 : Int) ≤ (k : Int) := by omega
          have hk1 : decide ((k : Int) < 64) = false := decide_eq_false (by omega)
          go_wp2
          have hu8 := Tryd.underlying23
          have hi8 : ∀ f, (Tryd.prog.info? 23).map (·.size) = some (rowL .u32 8 f).length := fun f => by rw [rowL_length]; exact info_w8a
          have hsame := HSAME.out
          generalize hq : sameRow 8 h g = q at hsame
          refine wp_region_held_drew (S := fun w' => w'.rangeAt (w2.heap.size) 0 (rowL .u32 8 R) ∧ w'.rangeAt (w4.heap.size) 0 (rowL .u32 8 R') ∧ w'.rangeAt (w.heap.size) 0 (rowL .u32 8 h) ∧ w'.rangeAt (w.heap.size + 1) 0 (rowL .u32 8 g) ∧ w'.rangeAt (wb.heap.size) 0 (rowL .u32 8 R)) (by kernel_rfl) HR5.out (fun hHeld => ?_)
          refine take_at (i := 0) (v := .bool true) 60 rfl rfl (by kernel_rfl) (by kernel_rfl) (by kernel_rfl) (fun _ _ _ h => h) (sure_yes (by rfl) (fun w => by go_simp)) (by assumption) ?_
          simp only [List.setIfInBounds_toArray, List.set_cons_zero, List.set_cons_succ]
          refine take_at (i := 1) (v := .bool true) 61 rfl rfl (by kernel_rfl) (by kernel_rfl) (by kernel_rfl) (fun _ _ _ h => h) (sure_yes (by rfl) (fun w => by go_simp)) (by assumption) ?_
          simp only [List.setIfInBounds_toArray, List.set_cons_zero, List.set_cons_succ]
          refine take_at (i := 2) 62 rfl rfl (by kernel_rfl) (by kernel_rfl) (by kernel_rfl) (fun _ _ _ h => h) (yieldsIf_load_mid (by rfl) 23 (.tmp 8) rfl (w2.heap.size) 0 rfl (rowL .u32 8 R) _ (fun _ h => h.1) hu8 rfl (hi8 R)) (by assumption) ?_
          simp only [List.setIfInBounds_toArray, List.set_cons_zero, List.set_cons_succ]
          refine take_at (i := 3) 63 rfl rfl (by kernel_rfl) (by kernel_rfl) (by kernel_rfl) (fun _ _ _ h => h) (yieldsIf_load_mid (by rfl) 23 (.tmp 9) rfl (w4.heap.size) 0 rfl (rowL .u32 8 R') _ (fun _ h => h.2.1) hu8 rfl (hi8 R')) (by assumption) ?_
          simp only [List.setIfInBounds_toArray, List.set_cons_zero, List.set_cons_succ]
          refine take_at (i := 4) (v := .bool q) 64 rfl rfl (by kernel_rfl) (by kernel_rfl) (by kernel_rfl) (fun _ _ _ h => h) (sure_yes (by rfl) (eql_op rfl rfl rfl (guard_rowL guard_8a (.tmp 62) (.tmp 63) .u32 8 R R') (eql_rowL Tryd.underlying23 Tryd.underlying22 cellsU32' R R' hsame))) (by assumption) ?_
          simp only [List.setIfInBounds_toArray, List.set_cons_zero, List.set_cons_succ]
          refine take_at (i := 5) 65 rfl rfl (by kernel_rfl) (by kernel_rfl) (by kernel_rfl) (fun _ _ _ h => h) (yieldsIf_load_mid (by rfl) 23 (.tmp 3) rfl (w.heap.size) 0 rfl (rowL .u32 8 h) _ (fun _ h => h.2.2.1) hu8 rfl (hi8 h)) (by assumption) ?_
          simp only [List.setIfInBounds_toArray, List.set_cons_zero, List.set_cons_succ]
          refine take_at (i := 6) 66 rfl rfl (by kernel_rfl) (by kernel_rfl) (by kernel_rfl) (fun _ _ _ h => h) (yieldsIf_load_mid (by rfl) 23 (.tmp 4) rfl (w.heap.size + 1) 0 rfl (rowL .u32 8 g) _ (fun _ h => h.2.2.2.1) hu8 rfl (hi8 g)) (by assumption) ?_
          simp only [List.setIfInBounds_toArray, List.set_cons_zero, List.set_cons_succ]
          refine take_at (i := 7) (v := .bool q) 67 rfl rfl (by kernel_rfl) (by kernel_rfl) (by kernel_rfl) (fun _ _ _ h => h) (sure_yes (by rfl) (eql_op rfl rfl rfl (guard_rowL guard_8a (.tmp 65) (.tmp 66) .u32 8 h g) (eql_rowL Tryd.underlying23 Tryd.underlying22 cellsU32' h g hq))) (by assumption) ?_
          simp only [List.setIfInBounds_toArray, List.set_cons_zero, List.set_cons_succ]
          refine take_at (i := 8) (v := .bool true) 68 rfl rfl (by kernel_rfl) (by kernel_rfl) (by kernel_rfl) (fun _ _ _ h => h) (sure_yes (by rfl) (eql_op rfl rfl rfl (guard_bools q (.tmp 64) (.tmp 67)) (eql_bools q))) (by assumption) ?_
          simp only [List.setIfInBounds_toArray, List.set_cons_zero, List.set_cons_succ]
          refine take_at (i := 9) (v := .bool true) 69 rfl rfl (by kernel_rfl) (by kernel_rfl) (by kernel_rfl) (fun _ _ _ h => h) (sure_yes (by rfl) (fun w => by go_simp)) (by assumption) ?_
          simp only [List.setIfInBounds_toArray, List.set_cons_zero, List.set_cons_succ]
          refine take_at (i := 10) (v := .bool true) 70 rfl rfl (by kernel_rfl) (by kernel_rfl) (by kernel_rfl) (fun _ _ _ h => h) (sure_yes (by rfl) (fun w => by go_simp)) (by assumption) ?_
          simp only [List.setIfInBounds_toArray, List.set_cons_zero, List.set_cons_succ]
          refine take_at (i := 11) 71 rfl rfl (by kernel_rfl) (by kernel_rfl) (by kernel_rfl) (fun _ _ _ h => h) (yieldsIf_load_mid (by rfl) 23 (.tmp 8) rfl (w2.heap.size) 0 rfl (rowL .u32 8 R) _ (fun _ h => h.1) hu8 rfl (hi8 R)) (by assumption) ?_
          simp only [List.setIfInBounds_toArray, List.set_cons_zero, List.set_cons_succ]
          refine take_at (i := 12) 72 rfl rfl (by kernel_rfl) (by kernel_rfl) (by kernel_rfl) (fun _ _ _ h => h) (yieldsIf_load_mid (by rfl) 23 (.tmp 12) rfl (wb.heap.size) 0 rfl (rowL .u32 8 R) _ (fun _ h => h.2.2.2.2) hu8 rfl (hi8 R)) (by assumption) ?_
          simp only [List.setIfInBounds_toArray, List.set_cons_zero, List.set_cons_succ]
          refine take_at (i := 13) (v := .bool true) 73 rfl rfl (by kernel_rfl) (by kernel_rfl) (by kernel_rfl) (fun _ _ _ h => h) (sure_yes (by rfl) (eql_op rfl rfl rfl (guard_rowL guard_8a (.tmp 71) (.tmp 72) .u32 8 R R) (eql_rowL Tryd.underlying23 Tryd.underlying22 cellsU32' R R (sameRow_self 8 R)))) (by assumption) ?_
          simp only [List.setIfInBounds_toArray, List.set_cons_zero, List.set_cons_succ]
          refine take_at (i := 14) (v := .bool true) 74 rfl rfl (by kernel_rfl) (by kernel_rfl) (by kernel_rfl) (fun _ _ _ h => h) (sure_yes (by rfl) (fun w => by go_simp)) (by assumption) ?_
          simp only [List.setIfInBounds_toArray, List.set_cons_zero, List.set_cons_succ]
          refine take_at (i := 15) (v := .bool true) 6 rfl rfl (by kernel_rfl) (by kernel_rfl) (by kernel_rfl) (fun _ _ _ h => h) (sure_yes (by rfl) (fun w => by go_simp)) (by assumption) ?_
          simp only [List.setIfInBounds_toArray, List.set_cons_zero, List.set_cons_succ]
          refine wpAnyH_done (by kernel_rfl) ?_ _
          have hb := below_draws hb 1
          change Below _ _ wr.drew at hb
          clear hHeld hi8 hu8
          go_wp2
          go_ret
          exact ⟨rfl, hb⟩
theorem blockApart_walk (h g f : Nat → BitVec 32) (w : World) (tab : Tab w) :
    Calls Tryd.prog 4 #[.agg (row .u32 8 h), .agg (row .u32 8 g), .agg (row .u8 64 f)] w fun e w' => e = .returned (.bool true) ∧ Below w.heap.size w w' :=
  blockApart_core h g f (compressed h f) (compressed g f) (rounds h (sched f) 64) (rounds g (sched f) 64) (compressed_less h f) (compressed_less g f) (rounds_same h g (sched f) 64) rfl (compress_any h f) (compress_any g f) w tab
end Go.Proofs.YtblmmpgainogbaaDoor
