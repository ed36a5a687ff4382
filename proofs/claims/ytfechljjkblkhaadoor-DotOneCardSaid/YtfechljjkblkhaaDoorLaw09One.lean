/-
The walk of the statement that dots are in one order.
-/
import Derived.Test.YtfechljjkblkhaaDoorLaw09Texts
namespace Go.Proofs.YtfechljjkblkhaaDoor
open Go.RowKit
theorem three_boxes (w : World) (a b c d e f : Int) : (((w.alloc (dotO a b)).alloc (dotO c d)).alloc (dotO e f)).heap[w.heap.size]? = some (dotO a b) ∧ (((w.alloc (dotO a b)).alloc (dotO c d)).alloc (dotO e f)).heap[w.heap.size + 1]? = some (dotO c d) ∧ (((w.alloc (dotO a b)).alloc (dotO c d)).alloc (dotO e f)).heap[w.heap.size + 1 + 1]? = some (dotO e f) := by
  obtain ⟨h1, h2⟩ := two_boxes w a b c d
  refine ⟨?_, ?_, ?_⟩
  · rw [heap_at_alloc, if_neg (by simp; omega)]; exact h1
  · rw [heap_at_alloc, if_neg (by simp)]; exact h2
  · have := heap_last ((w.alloc (dotO a b)).alloc (dotO c d)) (dotO e f); rwa [World.size_alloc, World.size_alloc] at this
theorem one_order (r q r' q' r2 q2 : Int) : cmpD r' q' r q = -cmpD r q r' q' ∧ (cmpD r q r' q' = 0 ↔ r = r' ∧ q = q') ∧ (0 < cmpD r q r' q' ∨ 0 < cmpD r' q' r2 q2 ∨ cmpD r q r2 q2 ≤ 0) ∧ (0 ≤ cmpD r q r' q' ∨ 0 ≤ cmpD r' q' r2 q2 ∨ cmpD r q r2 q2 < 0) ∧ -1 ≤ cmpD r q r' q' ∧ cmpD r q r' q' ≤ 1 := by
  have h1 := cmp_cases r q r' q'
  have h2 := cmp_cases r' q' r2 q2
  have h3 := cmp_cases r q r2 q2
  have h4 := cmp_cases r' q' r q
  refine ⟨by omega, by omega, by omega, by omega, by omega, by omega⟩
theorem cmp_three (r q r' q' : Int) : cmpD r q r' q' = -1 ∨ cmpD r q r' q' = 0 ∨ cmpD r q r' q' = 1 := by
  have := cmp_cases r q r' q'; omega
set_option maxRecDepth 100000 in
set_option maxHeartbeats 32000000 in
theorem dotOne_walk (F : DotFace) (r q r' q' r2 q2 : Int) (hr : I64 r) (hq : I64 q) (hr' : I64 r') (hq' : I64 q') (hr2 : I64 r2) (hq2 : I64 q2) (w : World) (hT : PowTab w) :
    Calls Tryd.prog 5 #[.agg #[.int .i64 r, .int .i64 q], .agg #[.int .i64 r', .int .i64 q'], .agg #[.int .i64 r2, .int .i64 q2]] w fun e w' => e = .returned (.bool true) ∧ Below w.heap.size w w' := by
  have HT := Lib.hid hT
  have AW := Lib.hid (fun w hT => awake9_any F w hT)
  have C1 := Lib.hid (fun w => F.compare w r q r' q' hr hq hr' hq')
  have C2 := Lib.hid (fun w => F.compare w r' q' r2 q2 hr' hq' hr2 hq2)
  have C3 := Lib.hid (fun w => F.compare w r q r2 q2 hr hq hr2 hq2)
  have C4 := Lib.hid (fun w => F.compare w r' q' r q hr' hq' hr hq)
  obtain ⟨o1, o2, o3, o4, o5, o6⟩ := one_order r q r' q' r2 q2
  have HX := Lib.hid (cmp_three r q r' q')
  have HY := Lib.hid (cmp_three r' q' r2 q2)
  have HZ := Lib.hid (cmp_three r q r2 q2)
  obtain ⟨h1, h2, h3⟩ := three_boxes w r q r' q' r2 q2
  have E0 := Lib.hid h1
  have D0 := Lib.hid h2
  have G0 := Lib.hid h3
  have B0 := Lib.hid ((((Below.refl w.heap.size w).alloc (Nat.le_refl _) (dotO r q)).alloc (by simp) (dotO r' q')).alloc (by simp; omega) (dotO r2 q2))
  rw [o1] at C4
  clear h1 h2 h3 hT hr hq hr' hq' hr2 hq2 o1
  generalize cmpD r q r' q' = x at *
  generalize cmpD r' q' r2 q2 = y at *
  generalize cmpD r q r2 q2 = z at *
  have HO := Lib.hid (And.intro o3 (And.intro o4 o2))
  clear o2 o3 o4 o5 o6
  unfold dotO at *
  go_enter Tryd.func5, Tryd.ntmps5
  go_upto_region 1 with fail
  generalize ((w.alloc (.cells #[.int .i64 r, .int .i64 q] 23 (0, 0))).alloc (.cells #[.int .i64 r', .int .i64 q'] 23 (0, 0))).alloc (.cells #[.int .i64 r2, .int .i64 q2] 23 (0, 0)) = W0 at *
  go_upto_region 2 with (first | (go_at_call 9; refine (AW.out _ (powTab_below HT.out B0.out)).mono ?_; rintro e w1 ⟨rfl, hb⟩; have E1 := Lib.hid (row_kept E0.out hb); have D1 := Lib.hid (row_kept D0.out hb); have G1 := Lib.hid (row_kept G0.out hb); have B1 := Lib.hid (B0.out.trans (hb.mono B0.out.size)); clear hb))
  go_upto_region 3 with (first
    | (refine load_row_on (by rfl) 23 (.tmp 3) rfl w.heap.size rfl 23 _ (0, 0) _ E1.out Tryd.underlying23 rfl (by kernel_rfl) ?_)
    | (refine load_row_on (by rfl) 23 (.tmp 4) rfl (w.heap.size + 1) rfl 23 _ (0, 0) _ D1.out Tryd.underlying23 rfl (by kernel_rfl) ?_)
    | (go_at_call 12; refine (C1.out _).mono ?_; rintro e w2 ⟨rfl, hb⟩; have E2 := Lib.hid (row_kept E1.out hb); have D2 := Lib.hid (row_kept D1.out hb); have G2 := Lib.hid (row_kept G1.out hb); have B2 := Lib.hid (below_next B1.out hb); clear hb))
  go_upto_region 4 with (first
    | (refine load_row_on (by rfl) 23 (.tmp 4) rfl (w.heap.size + 1) rfl 23 _ (0, 0) _ D2.out Tryd.underlying23 rfl (by kernel_rfl) ?_)
    | (refine load_row_on (by rfl) 23 (.tmp 5) rfl (w.heap.size + 1 + 1) rfl 23 _ (0, 0) _ G2.out Tryd.underlying23 rfl (by kernel_rfl) ?_)
    | (go_at_call 12; refine (C2.out _).mono ?_; rintro e w3 ⟨rfl, hb⟩; have E3 := Lib.hid (row_kept E2.out hb); have D3 := Lib.hid (row_kept D2.out hb); have G3 := Lib.hid (row_kept G2.out hb); have B3 := Lib.hid (below_next B2.out hb); clear hb))
  go_upto_region 5 with (first
    | (refine load_row_on (by rfl) 23 (.tmp 3) rfl w.heap.size rfl 23 _ (0, 0) _ E3.out Tryd.underlying23 rfl (by kernel_rfl) ?_)
    | (refine load_row_on (by rfl) 23 (.tmp 5) rfl (w.heap.size + 1 + 1) rfl 23 _ (0, 0) _ G3.out Tryd.underlying23 rfl (by kernel_rfl) ?_)
    | (go_at_call 12; refine (C3.out _).mono ?_; rintro e w4 ⟨rfl, hb⟩; have E4 := Lib.hid (row_kept E3.out hb); have D4 := Lib.hid (row_kept D3.out hb); have G4 := Lib.hid (row_kept G3.out hb); have B4 := Lib.hid (below_next B3.out hb); clear hb))
  rcases HX.out with rfl | rfl | rfl <;> rcases HY.out with rfl | rfl | rfl <;> rcases HZ.out with rfl | rfl | rfl <;> first | (exfalso; have := HO.out; omega) | skip
  all_goals
    go_wp2_with (first
      | (go_at_call 12; refine (C4.out _).mono ?_; rintro e w5 ⟨rfl, hb⟩; have E5 := Lib.hid (row_kept E4.out hb); have D5 := Lib.hid (row_kept D4.out hb); have G5 := Lib.hid (row_kept G4.out hb); have B5 := Lib.hid (below_next B4.out hb); clear hb)
      | (refine load_row_on (by rfl) 23 (.tmp 4) rfl (w.heap.size + 1) rfl 23 _ (0, 0) _ D4.out Tryd.underlying23 rfl (by kernel_rfl) ?_)
      | (refine load_row_on (by rfl) 23 (.tmp 3) rfl w.heap.size rfl 23 _ (0, 0) _ E4.out Tryd.underlying23 rfl (by kernel_rfl) ?_)
      | (refine load_row_on (by rfl) 23 (.tmp 4) rfl (w.heap.size + 1) rfl 23 _ (0, 0) _ D5.out Tryd.underlying23 rfl (by kernel_rfl) ?_)
      | (refine load_row_on (by rfl) 23 (.tmp 3) rfl w.heap.size rfl 23 _ (0, 0) _ E5.out Tryd.underlying23 rfl (by kernel_rfl) ?_))
    all_goals first
      | (exfalso; have := HO.out; omega)
      | (go_ret; exact ⟨rfl, B5.out⟩)
      | (go_ret; refine ⟨congrArg Ending.returned (show Value.bool _ = Value.bool _ from congrArg Value.bool ?_), B5.out⟩; simp_all; exact HO.out.elim)
      | (go_ret; refine ⟨congrArg Ending.returned (show Value.bool _ = Value.bool _ from congrArg Value.bool ?_), B5.out⟩; simp_all)
end Go.Proofs.YtfechljjkblkhaaDoor
