/-
The walk of the statement on dots' texts.
-/
import Derived.Test.YtfechljjkblkhaaDoorLaw09Orders
namespace Go.Proofs.YtfechljjkblkhaaDoor
open Go.RowKit
set_option maxRecDepth 100000 in
set_option maxHeartbeats 8000000 in
theorem dotTexts_walk (F : DotFace) (r q : Int) (s : List UInt8) (hr : I64 r) (hq : I64 q) (hs : s.length < 1152921504606846976) (w : World) (hT : PowTab w) :
    Calls Tryd.prog 4 #[.agg #[.int .i64 r, .int .i64 q], .string (str s)] w fun e w' => e = .returned (.bool true) ∧ Below w.heap.size w w' := by
  have HT := Lib.hid hT
  have AW := Lib.hid (fun w hT => awake9_any F w hT)
  have X1 := Lib.hid (fun w => F.parse w s hs)
  have X2 := Lib.hid (fun w => refParse_any9 s (by omega) w)
  have T1 := Lib.hid (fun w hT => F.text w r q hr hq hT)
  have T2 := Lib.hid (fun w => refText_any9 r q hr hq w)
  have A0 := Lib.hid (one_box w r q)
  have B0 := Lib.hid ((Below.refl w.heap.size w).alloc (Nat.le_refl _) (dotO r q))
  have hl : (str (textD r q)).toList = textD r q := str_toList _
  clear hT hr hq hs
  generalize textD r q = t at *
  generalize parR s = nr at *
  generalize parQ s = nq at *
  generalize parErr s = ne at *
  unfold dotO at *
  go_enter Tryd.func4, Tryd.ntmps4
  go_upto_region 1 with fail
  generalize w.alloc (.cells #[.int .i64 r, .int .i64 q] 23 (0, 0)) = W0 at *
  go_upto_region 2 with (first | (go_at_call 9; refine (AW.out _ (powTab_below HT.out B0.out)).mono ?_; rintro e w1 ⟨rfl, hb⟩; have A1 := Lib.hid (row_kept A0.out hb); have B1 := Lib.hid (B0.out.trans (hb.mono B0.out.size)); clear hb))
  go_upto_region 3 with (first
    | (go_at_call 16; refine (X1.out _).mono ?_; rintro e w2 ⟨rfl, hb⟩; have A2 := Lib.hid (row_kept A1.out hb); have B2 := Lib.hid (below_next B1.out hb); clear hb))
  have K3 := Lib.hid ((Below.refl w2.heap.size w2).alloc (Nat.le_refl _) (.cells #[.int .i64 nr, .int .i64 nq] 23 (0, 0)))
  have N3 := Lib.hid (heap_last w2 (.cells #[.int .i64 nr, .int .i64 nq] 23 (0, 0)))
  generalize w2.alloc (.cells #[.int .i64 nr, .int .i64 nq] 23 (0, 0)) = W3 at *
  have A3 := Lib.hid (row_kept A2.out K3.out)
  have B3 := Lib.hid (below_next B2.out K3.out)
  go_upto_region 4 with (first
    | (go_at_call 17; refine (X2.out _).mono ?_; rintro e w4 ⟨rfl, hb⟩; have A4 := Lib.hid (row_kept A3.out hb); have N4 := Lib.hid (row_kept N3.out hb); have B4 := Lib.hid (below_next B3.out hb); clear hb))
  have K5 := Lib.hid ((Below.refl w4.heap.size w4).alloc (Nat.le_refl _) (.cells #[.int .i64 nr, .int .i64 nq] 23 (0, 0)))
  have M5 := Lib.hid (heap_last w4 (.cells #[.int .i64 nr, .int .i64 nq] 23 (0, 0)))
  generalize w4.alloc (.cells #[.int .i64 nr, .int .i64 nq] 23 (0, 0)) = W5 at *
  have A5 := Lib.hid (row_kept A4.out K5.out)
  have N5 := Lib.hid (row_kept N4.out K5.out)
  have B5 := Lib.hid (below_next B4.out K5.out)
  refine wp_region_held_drew (S := fun w' => Below W5.heap.size W5 w') (by kernel_rfl) (below_draws (Below.refl _ _) 1) (fun hHeld => ?_)
  generalize W5.drew = wd at hHeld ⊢
  refine take_at (i := 0) 21 rfl rfl (by kernel_rfl) (by kernel_rfl) (by kernel_rfl) (fun _ _ _ h => h) (sure_yes (by rfl) (fun w => by go_simp; try with_reducible rfl)) hHeld ?_
  simp only [List.setIfInBounds_toArray, List.set_cons_zero, List.set_cons_succ]
  refine take_at (i := 1) 22 rfl rfl (by kernel_rfl) (by kernel_rfl) (by kernel_rfl) (fun _ _ _ h => h) (sure_yes (by rfl) (fun w => by go_simp; try with_reducible rfl)) hHeld ?_
  simp only [List.setIfInBounds_toArray, List.set_cons_zero, List.set_cons_succ]
  refine take_at (i := 2) 23 rfl rfl (by kernel_rfl) (by kernel_rfl) (by kernel_rfl) (fun _ _ _ h => h) (row_yields (by rfl) 23 (.tmp 2) rfl w.heap.size rfl 23 _ (0, 0) _ Tryd.underlying23 rfl (by kernel_rfl) (fun _ h => row_kept A5.out h)) hHeld ?_
  simp only [List.setIfInBounds_toArray, List.set_cons_zero, List.set_cons_succ]
  refine take_at (i := 4) 25 rfl rfl (by kernel_rfl) (by kernel_rfl) (by kernel_rfl) (fun _ _ _ h => h) (row_yields (by rfl) 23 (.tmp 2) rfl w.heap.size rfl 23 _ (0, 0) _ Tryd.underlying23 rfl (by kernel_rfl) (fun _ h => row_kept A5.out h)) hHeld ?_
  simp only [List.setIfInBounds_toArray, List.set_cons_zero, List.set_cons_succ]
  refine wpAnyH_ready (rs := [3]) (by kernel_rfl) (by simp) ?_
  refine AllReadyH.cons rfl (fun K hK => ?_) AllReadyH.nil
  go_simp
  go_at_call 18
  refine (T1.out _ (powTab_below HT.out (below_next B5.out hHeld))).mono ?_
  rintro e w6 ⟨rfl, hb⟩
  dsimp only
  refine hK.out _ _ (below_next hHeld hb) (fun hHeld => ?_)
  clear hK K hb
  refine wpAnyH_ready (rs := [5]) (by kernel_rfl) (by simp) ?_
  refine AllReadyH.cons rfl (fun K hK => ?_) AllReadyH.nil
  go_simp
  go_at_call 19
  refine (T2.out _).mono ?_
  rintro e w6 ⟨rfl, hb⟩
  dsimp only
  refine hK.out _ _ (below_next hHeld hb) (fun hHeld => ?_)
  clear hK K hb
  refine take_at (i := 6) 27 rfl rfl (by kernel_rfl) (by kernel_rfl) (by kernel_rfl) (fun _ _ _ h => h) (sure_yes (by rfl) (fun w => by go_simp; try with_reducible rfl)) hHeld ?_
  simp only [List.setIfInBounds_toArray, List.set_cons_zero, List.set_cons_succ]
  refine take_at (i := 7) 28 rfl rfl (by kernel_rfl) (by kernel_rfl) (by kernel_rfl) (fun _ _ _ h => h) (sure_yes (by rfl) (fun w => by go_simp; try with_reducible rfl)) hHeld ?_
  simp only [List.setIfInBounds_toArray, List.set_cons_zero, List.set_cons_succ]
  refine take_at (i := 8) 29 rfl rfl (by kernel_rfl) (by kernel_rfl) (by kernel_rfl) (fun _ _ _ h => h) (sure_yes (by rfl) (fun w => by go_simp; try with_reducible rfl)) hHeld ?_
  simp only [List.setIfInBounds_toArray, List.set_cons_zero, List.set_cons_succ]
  refine take_at (i := 9) 30 rfl rfl (by kernel_rfl) (by kernel_rfl) (by kernel_rfl) (fun _ _ _ h => h) (row_yields (by rfl) 23 (.tmp 6) rfl w2.heap.size rfl 23 _ (0, 0) _ Tryd.underlying23 rfl (by kernel_rfl) (fun _ h => row_kept N5.out h)) hHeld ?_
  simp only [List.setIfInBounds_toArray, List.set_cons_zero, List.set_cons_succ]
  refine take_at (i := 10) 31 rfl rfl (by kernel_rfl) (by kernel_rfl) (by kernel_rfl) (fun _ _ _ h => h) (row_yields (by rfl) 23 (.tmp 8) rfl w4.heap.size rfl 23 _ (0, 0) _ Tryd.underlying23 rfl (by kernel_rfl) (fun _ h => row_kept M5.out h)) hHeld ?_
  simp only [List.setIfInBounds_toArray, List.set_cons_zero, List.set_cons_succ]
  refine take_at (i := 11) 32 rfl rfl (by kernel_rfl) (by kernel_rfl) (by kernel_rfl) (fun _ _ _ h => h) (sure_yes (by rfl) (fun w => by go_simp; try with_reducible rfl)) hHeld ?_
  simp only [List.setIfInBounds_toArray, List.set_cons_zero, List.set_cons_succ]
  refine take_at (i := 12) 33 rfl rfl (by kernel_rfl) (by kernel_rfl) (by kernel_rfl) (fun _ _ _ h => h) (sure_yes (by rfl) (fun w => by go_simp; try with_reducible rfl)) hHeld ?_
  simp only [List.setIfInBounds_toArray, List.set_cons_zero, List.set_cons_succ]
  refine take_at (i := 13) 34 rfl rfl (by kernel_rfl) (by kernel_rfl) (by kernel_rfl) (fun _ _ _ h => h) (sure_yes (by rfl) (fun w => by go_simp; try with_reducible rfl)) hHeld ?_
  simp only [List.setIfInBounds_toArray, List.set_cons_zero, List.set_cons_succ]
  refine take_at (i := 14) 35 rfl rfl (by kernel_rfl) (by kernel_rfl) (by kernel_rfl) (fun _ _ _ h => h) (sure_yes (by rfl) (fun w => by go_simp; try with_reducible rfl)) hHeld ?_
  simp only [List.setIfInBounds_toArray, List.set_cons_zero, List.set_cons_succ]
  refine take_at (i := 15) 36 rfl rfl (by kernel_rfl) (by kernel_rfl) (by kernel_rfl) (fun _ _ _ h => h) (sure_yes (by rfl) (fun w => by go_simp; try with_reducible rfl)) hHeld ?_
  simp only [List.setIfInBounds_toArray, List.set_cons_zero, List.set_cons_succ]
  refine take_at (i := 16) 37 rfl rfl (by kernel_rfl) (by kernel_rfl) (by kernel_rfl) (fun _ _ _ h => h) (sure_yes (by rfl) (fun w => by go_simp; try with_reducible rfl)) hHeld ?_
  simp only [List.setIfInBounds_toArray, List.set_cons_zero, List.set_cons_succ]
  refine take_at (i := 17) 38 rfl rfl (by kernel_rfl) (by kernel_rfl) (by kernel_rfl) (fun _ _ _ h => h) (sure_yes (by rfl) (fun w => by go_simp; try with_reducible rfl)) hHeld ?_
  simp only [List.setIfInBounds_toArray, List.set_cons_zero, List.set_cons_succ]
  refine take_at (i := 18) 4 rfl rfl (by kernel_rfl) (by kernel_rfl) (by kernel_rfl) (fun _ _ _ h => h) (sure_yes (by rfl) (fun w => by go_simp; try with_reducible rfl)) hHeld ?_
  simp only [List.setIfInBounds_toArray, List.set_cons_zero, List.set_cons_succ]
  refine wpAnyH_done (by kernel_rfl) ?_ _
  go_wp2
  go_ret
  exact ⟨rfl, below_next B5.out hHeld⟩
end Go.Proofs.YtfechljjkblkhaaDoor
