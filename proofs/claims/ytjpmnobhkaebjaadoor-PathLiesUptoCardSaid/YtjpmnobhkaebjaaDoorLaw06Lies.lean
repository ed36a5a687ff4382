/-
The walk of the statement on what lies below what, on parents and on copies.
-/
import Derived.Test.YtjpmnobhkaebjaaDoorLaw06Texts
namespace Go.Proofs.YtjpmnobhkaebjaaDoor
open Go.RowKit
set_option maxRecDepth 100000 in
set_option maxHeartbeats 8000000 in
theorem pathLies_walk (F : PathFace) (s d : List UInt8) (r q : Int) (hs : s.length < 1099511627776) (hd : d.length < 1152921504606846976) (hr : -9223372036854775808 ≤ r ∧ r < 9223372036854775808) (hq : -9223372036854775808 ≤ q ∧ q < 9223372036854775808) (w : World) (hT : PowTab w) :
    Calls Tryd.prog 4 #[.string (str s), .string (str d), .agg #[.int .i64 r, .int .i64 q]] w fun e w' => e = .returned (.bool true) ∧ Below w.heap.size w w' := by
  have HT := Lib.hid hT
  have AW := Lib.hid (fun w hT => awake6_any F w hT)
  have U1 := Lib.hid (fun w => F.under w s d (by omega) hd)
  have U2 := Lib.hid (refUnder_any s d hd)
  have P1 := Lib.hid (fun w => F.parents w s hs)
  have P2 := Lib.hid (refParents_any s hs)
  have C1 := Lib.hid (fun w hT => F.copy w s r q (by omega) hr.1 hr.2 hq.1 hq.2 hT)
  have C2 := Lib.hid (refCopy_any s r q (by omega) hr hq)
  have HPL := Lib.hid (show (parL s).length < 4611686018427387904 by have := parTo_length s s.length; rw [parL]; omega)
  have hl : (str (copyL s r q)).toList = copyL s r q := str_toList _
  clear hs hd hr hq hT
  generalize underP s d = u at *
  generalize copyL s r q = c at *
  have R0 := Lib.hid (show (w.alloc (.cells #[.int .i64 r, .int .i64 q] 35 (0, 0))).rangeAt w.heap.size 0 [.int .i64 r, .int .i64 q] from fun j v hv => by
    rw [Nat.zero_add, cell_of_row _ _ j _ _ _ (heap_last w _)]; simpa using hv)
  have B0 := Lib.hid ((Below.refl w.heap.size w).alloc (Nat.le_refl _) (.cells #[.int .i64 r, .int .i64 q] 35 (0, 0)))
  go_enter Tryd.func4, Tryd.ntmps4
  go_wp2_with (first
    | (go_at_call 9; refine (AW.out _ (powTab_below HT.out B0.out)).mono ?_; rintro e w1 ⟨rfl, hb⟩; have HB1 := Lib.hid (below_next B0.out hb); have hgs : w.heap.size < w1.heap.size := Nat.lt_of_lt_of_le (by simp) hb.size; have R1 := Lib.hid (show w1.rangeAt w.heap.size 0 [.int .i64 r, .int .i64 q] from fun j v hv => by rw [cell_same (hb.block w.heap.size (by simp))]; exact R0.out j v hv); clear hb R0 B0))
  refine wp_region_held_drew (S := fun w' => w'.rangeAt w.heap.size 0 [.int .i64 r, .int .i64 q] ∧ Below w1.heap.size w1 w') (by kernel_rfl) ⟨R1.out, below_draws (Below.refl _ _) 1⟩ (fun hHeld => ?_)
  generalize w1.drew = wd at hHeld ⊢
  refine take_at (i := 0) 9 rfl rfl (by kernel_rfl) (by kernel_rfl) (by kernel_rfl) (fun _ _ _ h => h) (sure_yes (by rfl) (fun w => by go_simp; try with_reducible rfl)) hHeld ?_
  simp only [List.setIfInBounds_toArray, List.set_cons_zero, List.set_cons_succ]
  refine take_at (i := 1) 10 rfl rfl (by kernel_rfl) (by kernel_rfl) (by kernel_rfl) (fun _ _ _ h => h) (sure_yes (by rfl) (fun w => by go_simp; try with_reducible rfl)) hHeld ?_
  simp only [List.setIfInBounds_toArray, List.set_cons_zero, List.set_cons_succ]
  refine take_at (i := 2) 11 rfl rfl (by kernel_rfl) (by kernel_rfl) (by kernel_rfl) (fun _ _ _ h => h) (sure_yes (by rfl) (fun w => by go_simp; try with_reducible rfl)) hHeld ?_
  simp only [List.setIfInBounds_toArray, List.set_cons_zero, List.set_cons_succ]
  refine take_at (i := 3) 12 rfl rfl (by kernel_rfl) (by kernel_rfl) (by kernel_rfl) (fun _ _ _ h => h) (sure_yes (by rfl) (fun w => by go_simp; try with_reducible rfl)) hHeld ?_
  simp only [List.setIfInBounds_toArray, List.set_cons_zero, List.set_cons_succ]
  refine take_at (i := 5) 14 rfl rfl (by kernel_rfl) (by kernel_rfl) (by kernel_rfl) (fun _ _ _ h => h) (sure_yes (by rfl) (fun w => by go_simp; try with_reducible rfl)) hHeld ?_
  simp only [List.setIfInBounds_toArray, List.set_cons_zero, List.set_cons_succ]
  refine take_at (i := 6) 15 rfl rfl (by kernel_rfl) (by kernel_rfl) (by kernel_rfl) (fun _ _ _ h => h) (sure_yes (by rfl) (fun w => by go_simp; try with_reducible rfl)) hHeld ?_
  simp only [List.setIfInBounds_toArray, List.set_cons_zero, List.set_cons_succ]
  refine wpAnyH_ready (rs := [4]) (by kernel_rfl) (by simp) ?_
  refine AllReadyH.cons rfl (fun K hK => ?_) AllReadyH.nil
  go_simp
  go_at_call 18
  refine (U1.out _).mono ?_
  rintro e w2 ⟨rfl, hb⟩
  dsimp only
  refine hK.out _ _ (rangeS_keep hgs hHeld hb) (fun hHeld => ?_)
  clear hK K hb
  refine wpAnyH_ready (rs := [7]) (by kernel_rfl) (by simp) ?_
  refine AllReadyH.cons rfl (fun K hK => ?_) AllReadyH.nil
  go_simp
  go_at_call 19
  refine (U2.out _).mono ?_
  rintro e w2 ⟨rfl, rfl⟩
  dsimp only
  refine hK.out _ _ hHeld (fun hHeld => ?_)
  clear hK K
  refine take_at (i := 8) 17 rfl rfl (by kernel_rfl) (by kernel_rfl) (by kernel_rfl) (fun _ _ _ h => h) (sure_yes (by rfl) (fun w => by go_simp; try with_reducible rfl)) hHeld ?_
  simp only [List.setIfInBounds_toArray, List.set_cons_zero, List.set_cons_succ]
  refine take_at (i := 9) 18 rfl rfl (by kernel_rfl) (by kernel_rfl) (by kernel_rfl) (fun _ _ _ h => h) (sure_yes (by rfl) (fun w => by go_simp; try with_reducible rfl)) hHeld ?_
  simp only [List.setIfInBounds_toArray, List.set_cons_zero, List.set_cons_succ]
  refine take_at (i := 10) 19 rfl rfl (by kernel_rfl) (by kernel_rfl) (by kernel_rfl) (fun _ _ _ h => h) (sure_yes (by rfl) (fun w => by go_simp; try with_reducible rfl)) hHeld ?_
  simp only [List.setIfInBounds_toArray, List.set_cons_zero, List.set_cons_succ]
  refine take_at (i := 11) 20 rfl rfl (by kernel_rfl) (by kernel_rfl) (by kernel_rfl) (fun _ _ _ h => h) (sure_yes (by rfl) (fun w => by go_simp; try with_reducible rfl)) hHeld ?_
  simp only [List.setIfInBounds_toArray, List.set_cons_zero, List.set_cons_succ]
  refine take_at (i := 13) 22 rfl rfl (by kernel_rfl) (by kernel_rfl) (by kernel_rfl) (fun _ _ _ h => h) (sure_yes (by rfl) (fun w => by go_simp; try with_reducible rfl)) hHeld ?_
  simp only [List.setIfInBounds_toArray, List.set_cons_zero, List.set_cons_succ]
  refine wpAnyH_ready (rs := [12]) (by kernel_rfl) (by simp) ?_
  refine AllReadyH.cons rfl (fun K hK => ?_) AllReadyH.nil
  go_simp
  go_at_call 21
  refine (P1.out _).mono ?_
  rintro e w3 ⟨va, rfl, hta, hb⟩
  dsimp only
  refine hK.out _ _ (rangeS_keep hgs hHeld hb) (fun hHeld => ?_)
  have TA := Lib.hid hta
  clear hta
  clear hK K hb
  refine wpAnyH_ready (rs := [14]) (by kernel_rfl) (by simp) ?_
  refine AllReadyH.cons rfl (fun K hK => ?_) AllReadyH.nil
  go_simp
  go_at_call 22
  refine (P2.out _).mono ?_
  rintro e w4 ⟨vb, rfl, htb, hb⟩
  dsimp only
  refine hK.out _ _ (rangeS_keep hgs hHeld hb) (fun hHeld => ?_)
  have TB := Lib.hid htb
  have TA2 := Lib.hid (texts_below TA.out hb)
  clear htb TA
  clear hK K hb
  refine wpAnyH_ready (rs := [15]) (by kernel_rfl) (by simp) ?_
  refine AllReadyH.cons rfl (fun K hK => ?_) AllReadyH.nil
  go_simp
  go_at_call 20
  refine (texts_same (parL s) HPL.out va vb _ TA2.out TB.out).mono ?_
  rintro e w5 ⟨rfl, hb⟩
  dsimp only
  refine hK.out _ _ (rangeS_keep hgs hHeld hb) (fun hHeld => ?_)
  clear hK K hb
  refine take_at (i := 16) 25 rfl rfl (by kernel_rfl) (by kernel_rfl) (by kernel_rfl) (fun _ _ _ h => h) (sure_yes (by rfl) (fun w => by go_simp; try with_reducible rfl)) hHeld ?_
  simp only [List.setIfInBounds_toArray, List.set_cons_zero, List.set_cons_succ]
  refine take_at (i := 17) 26 rfl rfl (by kernel_rfl) (by kernel_rfl) (by kernel_rfl) (fun _ _ _ h => h) (sure_yes (by rfl) (fun w => by go_simp; try with_reducible rfl)) hHeld ?_
  simp only [List.setIfInBounds_toArray, List.set_cons_zero, List.set_cons_succ]
  refine take_at (i := 18) 27 rfl rfl (by kernel_rfl) (by kernel_rfl) (by kernel_rfl) (fun _ _ _ h => h) (sure_yes (by rfl) (fun w => by go_simp; try with_reducible rfl)) hHeld ?_
  simp only [List.setIfInBounds_toArray, List.set_cons_zero, List.set_cons_succ]
  refine take_at (i := 21) 30 rfl rfl (by kernel_rfl) (by kernel_rfl) (by kernel_rfl) (fun _ _ _ h => h) (sure_yes (by rfl) (fun w => by go_simp; try with_reducible rfl)) hHeld ?_
  simp only [List.setIfInBounds_toArray, List.set_cons_zero, List.set_cons_succ]
  refine take_at (i := 19) 28 rfl rfl (by kernel_rfl) (by kernel_rfl) (by kernel_rfl) (fun _ _ _ h => h) (yieldsIf_load_mid (by rfl) 35 (.tmp 5) rfl w.heap.size 0 rfl [.int .i64 r, .int .i64 q] _ (fun _ h => h.1) Tryd.underlying35 rfl (by kernel_rfl)) hHeld ?_
  simp only [List.setIfInBounds_toArray, List.set_cons_zero, List.set_cons_succ]
  refine take_at (i := 22) 31 rfl rfl (by kernel_rfl) (by kernel_rfl) (by kernel_rfl) (fun _ _ _ h => h) (yieldsIf_load_mid (by rfl) 35 (.tmp 5) rfl w.heap.size 0 rfl [.int .i64 r, .int .i64 q] _ (fun _ h => h.1) Tryd.underlying35 rfl (by kernel_rfl)) hHeld ?_
  simp only [List.setIfInBounds_toArray, List.set_cons_zero, List.set_cons_succ]
  refine wpAnyH_ready (rs := [20]) (by kernel_rfl) (by simp) ?_
  refine AllReadyH.cons rfl (fun K hK => ?_) AllReadyH.nil
  go_simp
  go_at_call 23
  refine (C1.out _ (powTab_below HT.out (below_next HB1.out hHeld.2))).mono ?_
  rintro e w6 ⟨rfl, hb⟩
  dsimp only
  refine hK.out _ _ (rangeS_keep hgs hHeld hb) (fun hHeld => ?_)
  clear hK K hb
  refine wpAnyH_ready (rs := [23]) (by kernel_rfl) (by simp) ?_
  refine AllReadyH.cons rfl (fun K hK => ?_) AllReadyH.nil
  go_simp
  go_at_call 24
  refine (C2.out _).mono ?_
  rintro e w7 ⟨rfl, hb⟩
  dsimp only
  refine hK.out _ _ (rangeS_keep hgs hHeld hb) (fun hHeld => ?_)
  clear hK K hb
  refine take_at (i := 24) 33 rfl rfl (by kernel_rfl) (by kernel_rfl) (by kernel_rfl) (fun _ _ _ h => h) (sure_yes (by rfl) (fun w => by go_simp; try with_reducible rfl)) hHeld ?_
  simp only [List.setIfInBounds_toArray, List.set_cons_zero, List.set_cons_succ]
  refine take_at (i := 25) 34 rfl rfl (by kernel_rfl) (by kernel_rfl) (by kernel_rfl) (fun _ _ _ h => h) (sure_yes (by rfl) (fun w => by go_simp; try with_reducible rfl)) hHeld ?_
  simp only [List.setIfInBounds_toArray, List.set_cons_zero, List.set_cons_succ]
  refine take_at (i := 26) 6 rfl rfl (by kernel_rfl) (by kernel_rfl) (by kernel_rfl) (fun _ _ _ h => h) (sure_yes (by rfl) (fun w => by go_simp; try with_reducible rfl)) hHeld ?_
  simp only [List.setIfInBounds_toArray, List.set_cons_zero, List.set_cons_succ]
  refine wpAnyH_done (by kernel_rfl) ?_ _
  go_wp2
  go_ret
  exact ⟨rfl, below_next HB1.out hHeld.2⟩
end Go.Proofs.YtjpmnobhkaebjaaDoor
