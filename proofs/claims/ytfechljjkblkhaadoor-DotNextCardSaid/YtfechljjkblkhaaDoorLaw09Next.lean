/-
The walk of the statement on the next dot.
-/
import Derived.Test.YtfechljjkblkhaaDoorLaw09Texts
namespace Go.Proofs.YtfechljjkblkhaaDoor
open Go.RowKit
theorem next_order (r q r' q' : Int) (h : nextErr r q = 0) : cmpD r (q + 1) r q = 1 ∧ mayD r (q + 1) = true ∧ (cmpD r' q' r q ≤ 0 ∨ 0 ≤ cmpD r' q' r (q + 1)) := by
  have hn := next_cases r q
  have h1 := cmp_cases r (q + 1) r q
  have h2 := cmp_cases r' q' r q
  have h3 := cmp_cases r' q' r (q + 1)
  refine ⟨by omega, ?_, by omega⟩
  unfold mayD
  exact decide_eq_true (by omega)
theorem next_bad (r q : Int) (h : nextErr r q ≠ 0) : nextR r q = 0 ∧ nextQ r q = 0 ∧ (q < 0 ∨ 1099511627776 ≤ q ∨ r < 0 ∨ 31 < r) := by
  have hn := next_cases r q
  exact ⟨by rw [nextR, if_neg h], by rw [nextQ, if_neg h], by omega⟩
set_option maxRecDepth 100000 in
set_option maxHeartbeats 32000000 in
theorem dotNext_walk (F : DotFace) (r q r' q' : Int) (hr : I64 r) (hq : I64 q) (hr' : I64 r') (hq' : I64 q') (w : World) (hT : PowTab w) :
    Calls Tryd.prog 6 #[.agg #[.int .i64 r, .int .i64 q], .agg #[.int .i64 r', .int .i64 q']] w fun e w' => e = .returned (.bool true) ∧ Below w.heap.size w w' := by
  have HT := Lib.hid hT
  have AW := Lib.hid (fun w hT => awake9_any F w hT)
  have X1 := Lib.hid (fun w => F.next w r q hr hq)
  obtain ⟨h1, h2⟩ := two_boxes w r q r' q'
  have E0 := Lib.hid h1
  have D0 := Lib.hid h2
  have B0 := Lib.hid (((Below.refl w.heap.size w).alloc (Nat.le_refl _) (dotO r q)).alloc (by simp) (dotO r' q'))
  clear h1 h2 hT
  by_cases h0 : nextErr r q = 0
  · have hc := next_cases r q
    have hz : I64 (q + 1) := by unfold I64; omega
    obtain ⟨o1, o2, o3⟩ := next_order r q r' q' h0
    rw [show nextR r q = r by rw [nextR, if_pos h0], show nextQ r q = q + 1 by rw [nextQ, if_pos h0], h0] at X1
    have K1 := Lib.hid (fun w => F.compare w r (q + 1) r q hr hz hr hq)
    have MY := Lib.hid (fun w => F.may w r (q + 1) hr hz)
    have K2 := Lib.hid (fun w => F.compare w r' q' r q hr' hq' hr hq)
    have K3 := Lib.hid (fun w => F.compare w r' q' r (q + 1) hr' hq' hr hz)
    rw [o1] at K1
    rw [o2] at MY
    clear o1 o2 hc hr hq hr' hq' hz h0
    generalize cmpD r' q' r q = x at *
    generalize cmpD r' q' r (q + 1) = y at *
    generalize q + 1 = z at *
    unfold dotO at *
    go_enter Tryd.func6, Tryd.ntmps6
    go_upto_region 1 with fail
    generalize (w.alloc (.cells #[.int .i64 r, .int .i64 q] 23 (0, 0))).alloc (.cells #[.int .i64 r', .int .i64 q'] 23 (0, 0)) = W0 at *
    go_upto_region 2 with (first | (go_at_call 9; refine (AW.out _ (powTab_below HT.out B0.out)).mono ?_; rintro e w1 ⟨rfl, hb⟩; have E1 := Lib.hid (row_kept E0.out hb); have D1 := Lib.hid (row_kept D0.out hb); have B1 := Lib.hid (B0.out.trans (hb.mono B0.out.size)); clear hb))
    go_upto_region 3 with (first
      | (refine load_row_on (by rfl) 23 (.tmp 2) rfl w.heap.size rfl 23 _ (0, 0) _ E1.out Tryd.underlying23 rfl (by kernel_rfl) ?_)
      | (go_at_call 10; refine (X1.out _).mono ?_; rintro e w2 ⟨rfl, hb⟩; have E2 := Lib.hid (row_kept E1.out hb); have D2 := Lib.hid (row_kept D1.out hb); have B2 := Lib.hid (below_next B1.out hb); clear hb))
    have K0 := Lib.hid ((Below.refl w2.heap.size w2).alloc (Nat.le_refl _) (.cells #[.int .i64 r, .int .i64 z] 23 (0, 0)))
    have G4 := Lib.hid (heap_last w2 (.cells #[.int .i64 r, .int .i64 z] 23 (0, 0)))
    generalize w2.alloc (.cells #[.int .i64 r, .int .i64 z] 23 (0, 0)) = w4 at *
    have E4 := Lib.hid (row_kept E2.out K0.out)
    have D4 := Lib.hid (row_kept D2.out K0.out)
    have B4 := Lib.hid (below_next B2.out K0.out)
    go_upto_region 5 with fail
    by_cases hx : x ≤ 0
    · clear o3
      go_wp2_with (first
        | (refine load_row_on (by rfl) 23 (.tmp 6) rfl w2.heap.size rfl 23 _ (0, 0) _ G4.out Tryd.underlying23 rfl (by kernel_rfl) ?_)
        | (refine load_row_on (by rfl) 23 (.tmp 2) rfl w.heap.size rfl 23 _ (0, 0) _ E4.out Tryd.underlying23 rfl (by kernel_rfl) ?_)
        | (go_at_call 12; with_reducible refine (K1.out w4).mono ?_; rintro e w5 ⟨rfl, hb⟩; have E5 := Lib.hid (row_kept E4.out hb); have D5 := Lib.hid (row_kept D4.out hb); have G5 := Lib.hid (row_kept G4.out hb); have B5 := Lib.hid (below_next B4.out hb); clear hb)
        | (refine load_row_on (by rfl) 23 (.tmp 6) rfl w2.heap.size rfl 23 _ (0, 0) _ G5.out Tryd.underlying23 rfl (by kernel_rfl) ?_)
        | (go_at_call 14; with_reducible refine (MY.out w5).mono ?_; rintro e w6 ⟨rfl, hb⟩; have E6 := Lib.hid (row_kept E5.out hb); have D6 := Lib.hid (row_kept D5.out hb); have G6 := Lib.hid (row_kept G5.out hb); have B6 := Lib.hid (below_next B5.out hb); obtain ⟨g1, g2⟩ := dot_cells (show _ = some (dotO r z) from G6.out); obtain ⟨a1, a2⟩ := dot_cells (show _ = some (dotO r q) from E6.out); clear hb)
        | (refine load_row_on (by rfl) 23 (.tmp 3) rfl (w.heap.size + 1) rfl 23 _ (0, 0) _ D6.out Tryd.underlying23 rfl (by kernel_rfl) ?_)
        | (refine load_row_on (by rfl) 23 (.tmp 2) rfl w.heap.size rfl 23 _ (0, 0) _ E6.out Tryd.underlying23 rfl (by kernel_rfl) ?_)
        | (go_at_call 12; with_reducible refine (K2.out w6).mono ?_; rintro e w7 ⟨rfl, hb⟩; have E7 := Lib.hid (row_kept E6.out hb); have D7 := Lib.hid (row_kept D6.out hb); have G7 := Lib.hid (row_kept G6.out hb); have B7 := Lib.hid (below_next B6.out hb); clear hb))
      go_ret
      exact ⟨rfl, B7.out⟩
    · have dy : decide (y ≥ 0) = true := decide_eq_true (by omega)
      have dx : decide (x ≤ 0) = false := decide_eq_false hx
      clear o3 hx
      go_wp2_with (first
        | (refine load_row_on (by rfl) 23 (.tmp 6) rfl w2.heap.size rfl 23 _ (0, 0) _ G4.out Tryd.underlying23 rfl (by kernel_rfl) ?_)
        | (refine load_row_on (by rfl) 23 (.tmp 2) rfl w.heap.size rfl 23 _ (0, 0) _ E4.out Tryd.underlying23 rfl (by kernel_rfl) ?_)
        | (go_at_call 12; with_reducible refine (K1.out w4).mono ?_; rintro e w5 ⟨rfl, hb⟩; have E5 := Lib.hid (row_kept E4.out hb); have D5 := Lib.hid (row_kept D4.out hb); have G5 := Lib.hid (row_kept G4.out hb); have B5 := Lib.hid (below_next B4.out hb); clear hb)
        | (refine load_row_on (by rfl) 23 (.tmp 6) rfl w2.heap.size rfl 23 _ (0, 0) _ G5.out Tryd.underlying23 rfl (by kernel_rfl) ?_)
        | (go_at_call 14; with_reducible refine (MY.out w5).mono ?_; rintro e w6 ⟨rfl, hb⟩; have E6 := Lib.hid (row_kept E5.out hb); have D6 := Lib.hid (row_kept D5.out hb); have G6 := Lib.hid (row_kept G5.out hb); have B6 := Lib.hid (below_next B5.out hb); obtain ⟨g1, g2⟩ := dot_cells (show _ = some (dotO r z) from G6.out); obtain ⟨a1, a2⟩ := dot_cells (show _ = some (dotO r q) from E6.out); clear hb)
        | (refine load_row_on (by rfl) 23 (.tmp 3) rfl (w.heap.size + 1) rfl 23 _ (0, 0) _ D6.out Tryd.underlying23 rfl (by kernel_rfl) ?_)
        | (refine load_row_on (by rfl) 23 (.tmp 2) rfl w.heap.size rfl 23 _ (0, 0) _ E6.out Tryd.underlying23 rfl (by kernel_rfl) ?_)
        | (go_at_call 12; with_reducible refine (K2.out w6).mono ?_; rintro e w7 ⟨rfl, hb⟩; have E7 := Lib.hid (row_kept E6.out hb); have D7 := Lib.hid (row_kept D6.out hb); have G7 := Lib.hid (row_kept G6.out hb); have B7 := Lib.hid (below_next B6.out hb); clear hb)
        | (refine load_row_on (by rfl) 23 (.tmp 3) rfl (w.heap.size + 1) rfl 23 _ (0, 0) _ D7.out Tryd.underlying23 rfl (by kernel_rfl) ?_)
        | (refine load_row_on (by rfl) 23 (.tmp 6) rfl w2.heap.size rfl 23 _ (0, 0) _ G7.out Tryd.underlying23 rfl (by kernel_rfl) ?_)
        | (go_at_call 12; with_reducible refine (K3.out w7).mono ?_; rintro e w8 ⟨rfl, hb⟩; have E8 := Lib.hid (row_kept E7.out hb); have D8 := Lib.hid (row_kept D7.out hb); have G8 := Lib.hid (row_kept G7.out hb); have B8 := Lib.hid (below_next B7.out hb); clear hb))
      go_ret
      exact ⟨rfl, B8.out⟩
  · obtain ⟨o1, o2, o3⟩ := next_bad r q h0
    rw [o1, o2] at X1
    have tE : (nextErr r q != 0) = true := bne_iff_ne.2 h0
    have HO3 := Lib.hid o3
    clear o3
    generalize nextErr r q = ne at *
    clear o1 o2 h0 hr hq hr' hq'
    unfold dotO at *
    go_enter Tryd.func6, Tryd.ntmps6
    go_upto_region 1 with fail
    generalize (w.alloc (.cells #[.int .i64 r, .int .i64 q] 23 (0, 0))).alloc (.cells #[.int .i64 r', .int .i64 q'] 23 (0, 0)) = W0 at *
    go_upto_region 2 with (first | (go_at_call 9; refine (AW.out _ (powTab_below HT.out B0.out)).mono ?_; rintro e w1 ⟨rfl, hb⟩; have E1 := Lib.hid (row_kept E0.out hb); have B1 := Lib.hid (B0.out.trans (hb.mono B0.out.size)); clear hb))
    go_upto_region 3 with (first
      | (refine load_row_on (by rfl) 23 (.tmp 2) rfl w.heap.size rfl 23 _ (0, 0) _ E1.out Tryd.underlying23 rfl (by kernel_rfl) ?_)
      | (go_at_call 10; refine (X1.out _).mono ?_; rintro e w2 ⟨rfl, hb⟩; have E2 := Lib.hid (row_kept E1.out hb); have B2 := Lib.hid (below_next B1.out hb); clear hb))
    have K0 := Lib.hid ((Below.refl w2.heap.size w2).alloc (Nat.le_refl _) (.cells #[.int .i64 0, .int .i64 0] 23 (0, 0)))
    have G4 := Lib.hid (heap_last w2 (.cells #[.int .i64 0, .int .i64 0] 23 (0, 0)))
    generalize w2.alloc (.cells #[.int .i64 0, .int .i64 0] 23 (0, 0)) = w4 at *
    have E4 := Lib.hid (row_kept E2.out K0.out)
    have B4 := Lib.hid (below_next B2.out K0.out)
    obtain ⟨a1, a2⟩ := dot_cells (show _ = some (dotO r q) from E4.out)
    go_wp2_with (first
      | (refine load_row_on (by rfl) 23 (.tmp 6) rfl w2.heap.size rfl 23 _ (0, 0) _ G4.out Tryd.underlying23 rfl (by kernel_rfl) ?_)
      | (refine build_on (by rfl) 23 #[] rfl _ _ dot_built0 (by simp [Act.eval]) ?_))
    all_goals
      go_ret
      refine ⟨congrArg Ending.returned (show Value.bool _ = Value.bool _ from congrArg Value.bool ?_), B4.out⟩
      have h3 := HO3.out
      first
        | rfl
        | (rw [decide_eq_true_eq]; omega)
        | (simp; omega)
end Go.Proofs.YtfechljjkblkhaaDoor
