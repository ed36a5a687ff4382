/-
The walk of the statement on two dots' order, on whether one may be, and on the next one.
-/
import Derived.Test.YtfechljjkblkhaaDoorDotFace
namespace Go.Proofs.YtfechljjkblkhaaDoor
open Go.RowKit
theorem row_yields {P : Program} {ops : Array Oper} {S : World → Prop} {o : Oper} {a : Act} (hw : Region.wanted o (yielded ops a.tmps) = true) (ty : TypeId) (x : Operand) (ho : o.op = .load ty x) (g : Nat) (hx : a.eval x = .pointer (some ⟨g, 0, none⟩)) (t : TypeId) (cs : Array Value) (fr : Nat × Nat) (d : TypeDesc)
    (hu : P.underlying ty = some d) (hd : (match d with | .struct _ | .array _ _ => true | _ => false) = true) (hi : (P.info? ty).map (·.size) = some cs.size) (hS : ∀ w, S w → w.heap[g]? = some (.cells cs t fr)) : YieldsIf P ops S o (.agg cs) a :=
  .inl ⟨hw, fun w h => by
    unfold execOp
    simp [ho, hx, Instr.loadAt, Instr.sureAddr, run_loadVar_row w g t ty cs fr d (hS w h) hu hd hi]⟩
set_option maxRecDepth 100000 in
set_option maxHeartbeats 8000000 in
theorem dotOrders_walk (F : DotFace) (r q r' q' : Int) (hr : I64 r) (hq : I64 q) (hr' : I64 r') (hq' : I64 q') (w : World) (hT : PowTab w) :
    Calls Tryd.prog 3 #[.agg #[.int .i64 r, .int .i64 q], .agg #[.int .i64 r', .int .i64 q']] w fun e w' => e = .returned (.bool true) ∧ Below w.heap.size w w' := by
  have HT := Lib.hid hT
  have AW := Lib.hid (fun w hT => awake9_any F w hT)
  have X1 := Lib.hid (fun w => F.next w r q hr hq)
  have X2 := Lib.hid (fun w => refNext_any r q w)
  have C1 := Lib.hid (fun w => F.compare w r q r' q' hr hq hr' hq')
  have C2 := Lib.hid (fun w => refCompare_any r q r' q' w)
  have M1 := Lib.hid (fun w => F.may w r q hr hq)
  have M2 := Lib.hid (fun w => refMay_any9 r q w)
  obtain ⟨h1, h2⟩ := two_boxes w r q r' q'
  have A0 := Lib.hid h1
  have D0 := Lib.hid h2
  have B0 := Lib.hid (((Below.refl w.heap.size w).alloc (Nat.le_refl _) (dotO r q)).alloc (by simp) (dotO r' q'))
  clear h1 h2 hT hr hq hr' hq'
  generalize cmpD r q r' q' = C at *
  generalize mayD r q = M at *
  generalize nextR r q = nr at *
  generalize nextQ r q = nq at *
  generalize nextErr r q = ne at *
  unfold dotO at *
  go_enter Tryd.func3, Tryd.ntmps3
  go_upto_region 1 with fail
  generalize (w.alloc (.cells #[.int .i64 r, .int .i64 q] 23 (0, 0))).alloc (.cells #[.int .i64 r', .int .i64 q'] 23 (0, 0)) = W0 at *
  go_upto_region 2 with (first | (go_at_call 9; refine (AW.out _ (powTab_below HT.out B0.out)).mono ?_; rintro e w1 ⟨rfl, hb⟩; have A1 := Lib.hid (row_kept A0.out hb); have D1 := Lib.hid (row_kept D0.out hb); have B1 := Lib.hid (B0.out.trans (hb.mono B0.out.size)); clear hb))
  go_upto_region 3 with (first
    | (refine load_row_on (by rfl) 23 (.tmp 2) rfl w.heap.size rfl 23 _ (0, 0) _ A1.out Tryd.underlying23 rfl (by kernel_rfl) ?_)
    | (go_at_call 10; refine (X1.out _).mono ?_; rintro e w2 ⟨rfl, hb⟩; have A2 := Lib.hid (row_kept A1.out hb); have D2 := Lib.hid (row_kept D1.out hb); have B2 := Lib.hid (below_next B1.out hb); clear hb))
  have K3 := Lib.hid ((Below.refl w2.heap.size w2).alloc (Nat.le_refl _) (.cells #[.int .i64 nr, .int .i64 nq] 23 (0, 0)))
  have N3 := Lib.hid (heap_last w2 (.cells #[.int .i64 nr, .int .i64 nq] 23 (0, 0)))
  generalize w2.alloc (.cells #[.int .i64 nr, .int .i64 nq] 23 (0, 0)) = W3 at *
  have A3 := Lib.hid (row_kept A2.out K3.out)
  have D3 := Lib.hid (row_kept D2.out K3.out)
  have B3 := Lib.hid (below_next B2.out K3.out)
  go_upto_region 4 with (first
    | (refine load_row_on (by rfl) 23 (.tmp 2) rfl w.heap.size rfl 23 _ (0, 0) _ A3.out Tryd.underlying23 rfl (by kernel_rfl) ?_)
    | (go_at_call 11; refine (X2.out _).mono ?_; rintro e w4 ⟨rfl, hb⟩; have A4 := Lib.hid (row_kept A3.out hb); have D4 := Lib.hid (row_kept D3.out hb); have N4 := Lib.hid (row_kept N3.out hb); have B4 := Lib.hid (below_next B3.out hb); clear hb))
  have K5 := Lib.hid ((Below.refl w4.heap.size w4).alloc (Nat.le_refl _) (.cells #[.int .i64 nr, .int .i64 nq] 23 (0, 0)))
  have M5 := Lib.hid (heap_last w4 (.cells #[.int .i64 nr, .int .i64 nq] 23 (0, 0)))
  generalize w4.alloc (.cells #[.int .i64 nr, .int .i64 nq] 23 (0, 0)) = W5 at *
  have A5 := Lib.hid (row_kept A4.out K5.out)
  have D5 := Lib.hid (row_kept D4.out K5.out)
  have N5 := Lib.hid (row_kept N4.out K5.out)
  have B5 := Lib.hid (below_next B4.out K5.out)
  refine wp_region_held_drew (S := fun w' => Below W5.heap.size W5 w') (by kernel_rfl) (below_draws (Below.refl _ _) 1) (fun hHeld => ?_)
  generalize W5.drew = wd at hHeld ⊢
  refine take_at (i := 0) 21 rfl rfl (by kernel_rfl) (by kernel_rfl) (by kernel_rfl) (fun _ _ _ h => h) (sure_yes (by rfl) (fun w => by go_simp; try with_reducible rfl)) hHeld ?_
  simp only [List.setIfInBounds_toArray, List.set_cons_zero, List.set_cons_succ]
  refine take_at (i := 1) 22 rfl rfl (by kernel_rfl) (by kernel_rfl) (by kernel_rfl) (fun _ _ _ h => h) (sure_yes (by rfl) (fun w => by go_simp; try with_reducible rfl)) hHeld ?_
  simp only [List.setIfInBounds_toArray, List.set_cons_zero, List.set_cons_succ]
  refine take_at (i := 2) 23 rfl rfl (by kernel_rfl) (by kernel_rfl) (by kernel_rfl) (fun _ _ _ h => h) (row_yields (by rfl) 23 (.tmp 2) rfl w.heap.size rfl 23 _ (0, 0) _ Tryd.underlying23 rfl (by kernel_rfl) (fun _ h => row_kept A5.out h)) hHeld ?_
  simp only [List.setIfInBounds_toArray, List.set_cons_zero, List.set_cons_succ]
  refine take_at (i := 3) 24 rfl rfl (by kernel_rfl) (by kernel_rfl) (by kernel_rfl) (fun _ _ _ h => h) (row_yields (by rfl) 23 (.tmp 3) rfl (w.heap.size + 1) rfl 23 _ (0, 0) _ Tryd.underlying23 rfl (by kernel_rfl) (fun _ h => row_kept D5.out h)) hHeld ?_
  simp only [List.setIfInBounds_toArray, List.set_cons_zero, List.set_cons_succ]
  refine take_at (i := 5) 26 rfl rfl (by kernel_rfl) (by kernel_rfl) (by kernel_rfl) (fun _ _ _ h => h) (row_yields (by rfl) 23 (.tmp 2) rfl w.heap.size rfl 23 _ (0, 0) _ Tryd.underlying23 rfl (by kernel_rfl) (fun _ h => row_kept A5.out h)) hHeld ?_
  simp only [List.setIfInBounds_toArray, List.set_cons_zero, List.set_cons_succ]
  refine take_at (i := 6) 27 rfl rfl (by kernel_rfl) (by kernel_rfl) (by kernel_rfl) (fun _ _ _ h => h) (row_yields (by rfl) 23 (.tmp 3) rfl (w.heap.size + 1) rfl 23 _ (0, 0) _ Tryd.underlying23 rfl (by kernel_rfl) (fun _ h => row_kept D5.out h)) hHeld ?_
  simp only [List.setIfInBounds_toArray, List.set_cons_zero, List.set_cons_succ]
  refine wpAnyH_ready (rs := [4]) (by kernel_rfl) (by simp) ?_
  refine AllReadyH.cons rfl (fun K hK => ?_) AllReadyH.nil
  go_simp
  go_at_call 12
  refine (C1.out _).mono ?_
  rintro e w6 ⟨rfl, hb⟩
  dsimp only
  refine hK.out _ _ (below_next hHeld hb) (fun hHeld => ?_)
  clear hK K hb
  refine wpAnyH_ready (rs := [7]) (by kernel_rfl) (by simp) ?_
  refine AllReadyH.cons rfl (fun K hK => ?_) AllReadyH.nil
  go_simp
  go_at_call 13
  refine (C2.out _).mono ?_
  rintro e w6 ⟨rfl, hb⟩
  dsimp only
  refine hK.out _ _ (below_next hHeld hb) (fun hHeld => ?_)
  clear hK K hb
  refine take_at (i := 8) 29 rfl rfl (by kernel_rfl) (by kernel_rfl) (by kernel_rfl) (fun _ _ _ h => h) (sure_yes (by rfl) (fun w => by go_simp; try with_reducible rfl)) hHeld ?_
  simp only [List.setIfInBounds_toArray, List.set_cons_zero, List.set_cons_succ]
  refine take_at (i := 9) 30 rfl rfl (by kernel_rfl) (by kernel_rfl) (by kernel_rfl) (fun _ _ _ h => h) (sure_yes (by rfl) (fun w => by go_simp; try with_reducible rfl)) hHeld ?_
  simp only [List.setIfInBounds_toArray, List.set_cons_zero, List.set_cons_succ]
  refine take_at (i := 10) 31 rfl rfl (by kernel_rfl) (by kernel_rfl) (by kernel_rfl) (fun _ _ _ h => h) (sure_yes (by rfl) (fun w => by go_simp; try with_reducible rfl)) hHeld ?_
  simp only [List.setIfInBounds_toArray, List.set_cons_zero, List.set_cons_succ]
  refine take_at (i := 11) 32 rfl rfl (by kernel_rfl) (by kernel_rfl) (by kernel_rfl) (fun _ _ _ h => h) (row_yields (by rfl) 23 (.tmp 2) rfl w.heap.size rfl 23 _ (0, 0) _ Tryd.underlying23 rfl (by kernel_rfl) (fun _ h => row_kept A5.out h)) hHeld ?_
  simp only [List.setIfInBounds_toArray, List.set_cons_zero, List.set_cons_succ]
  refine take_at (i := 13) 34 rfl rfl (by kernel_rfl) (by kernel_rfl) (by kernel_rfl) (fun _ _ _ h => h) (row_yields (by rfl) 23 (.tmp 2) rfl w.heap.size rfl 23 _ (0, 0) _ Tryd.underlying23 rfl (by kernel_rfl) (fun _ h => row_kept A5.out h)) hHeld ?_
  simp only [List.setIfInBounds_toArray, List.set_cons_zero, List.set_cons_succ]
  refine wpAnyH_ready (rs := [12]) (by kernel_rfl) (by simp) ?_
  refine AllReadyH.cons rfl (fun K hK => ?_) AllReadyH.nil
  go_simp
  go_at_call 14
  refine (M1.out _).mono ?_
  rintro e w6 ⟨rfl, hb⟩
  dsimp only
  refine hK.out _ _ (below_next hHeld hb) (fun hHeld => ?_)
  clear hK K hb
  refine wpAnyH_ready (rs := [14]) (by kernel_rfl) (by simp) ?_
  refine AllReadyH.cons rfl (fun K hK => ?_) AllReadyH.nil
  go_simp
  go_at_call 15
  refine (M2.out _).mono ?_
  rintro e w6 ⟨rfl, hb⟩
  dsimp only
  refine hK.out _ _ (below_next hHeld hb) (fun hHeld => ?_)
  clear hK K hb
  refine take_at (i := 15) 36 rfl rfl (by kernel_rfl) (by kernel_rfl) (by kernel_rfl) (fun _ _ _ h => h) (sure_yes (by rfl) (fun w => by go_simp; try with_reducible rfl)) hHeld ?_
  simp only [List.setIfInBounds_toArray, List.set_cons_zero, List.set_cons_succ]
  refine take_at (i := 16) 37 rfl rfl (by kernel_rfl) (by kernel_rfl) (by kernel_rfl) (fun _ _ _ h => h) (sure_yes (by rfl) (fun w => by go_simp; try with_reducible rfl)) hHeld ?_
  simp only [List.setIfInBounds_toArray, List.set_cons_zero, List.set_cons_succ]
  refine take_at (i := 17) 38 rfl rfl (by kernel_rfl) (by kernel_rfl) (by kernel_rfl) (fun _ _ _ h => h) (sure_yes (by rfl) (fun w => by go_simp; try with_reducible rfl)) hHeld ?_
  simp only [List.setIfInBounds_toArray, List.set_cons_zero, List.set_cons_succ]
  refine take_at (i := 18) 39 rfl rfl (by kernel_rfl) (by kernel_rfl) (by kernel_rfl) (fun _ _ _ h => h) (row_yields (by rfl) 23 (.tmp 6) rfl w2.heap.size rfl 23 _ (0, 0) _ Tryd.underlying23 rfl (by kernel_rfl) (fun _ h => row_kept N5.out h)) hHeld ?_
  simp only [List.setIfInBounds_toArray, List.set_cons_zero, List.set_cons_succ]
  refine take_at (i := 19) 40 rfl rfl (by kernel_rfl) (by kernel_rfl) (by kernel_rfl) (fun _ _ _ h => h) (row_yields (by rfl) 23 (.tmp 8) rfl w4.heap.size rfl 23 _ (0, 0) _ Tryd.underlying23 rfl (by kernel_rfl) (fun _ h => row_kept M5.out h)) hHeld ?_
  simp only [List.setIfInBounds_toArray, List.set_cons_zero, List.set_cons_succ]
  refine take_at (i := 20) 41 rfl rfl (by kernel_rfl) (by kernel_rfl) (by kernel_rfl) (fun _ _ _ h => h) (sure_yes (by rfl) (fun w => by go_simp; try with_reducible rfl)) hHeld ?_
  simp only [List.setIfInBounds_toArray, List.set_cons_zero, List.set_cons_succ]
  refine take_at (i := 21) 42 rfl rfl (by kernel_rfl) (by kernel_rfl) (by kernel_rfl) (fun _ _ _ h => h) (sure_yes (by rfl) (fun w => by go_simp; try with_reducible rfl)) hHeld ?_
  simp only [List.setIfInBounds_toArray, List.set_cons_zero, List.set_cons_succ]
  refine take_at (i := 22) 43 rfl rfl (by kernel_rfl) (by kernel_rfl) (by kernel_rfl) (fun _ _ _ h => h) (sure_yes (by rfl) (fun w => by go_simp; try with_reducible rfl)) hHeld ?_
  simp only [List.setIfInBounds_toArray, List.set_cons_zero, List.set_cons_succ]
  refine take_at (i := 23) 44 rfl rfl (by kernel_rfl) (by kernel_rfl) (by kernel_rfl) (fun _ _ _ h => h) (sure_yes (by rfl) (fun w => by go_simp; try with_reducible rfl)) hHeld ?_
  simp only [List.setIfInBounds_toArray, List.set_cons_zero, List.set_cons_succ]
  refine take_at (i := 24) 45 rfl rfl (by kernel_rfl) (by kernel_rfl) (by kernel_rfl) (fun _ _ _ h => h) (sure_yes (by rfl) (fun w => by go_simp; try with_reducible rfl)) hHeld ?_
  simp only [List.setIfInBounds_toArray, List.set_cons_zero, List.set_cons_succ]
  refine take_at (i := 25) 46 rfl rfl (by kernel_rfl) (by kernel_rfl) (by kernel_rfl) (fun _ _ _ h => h) (sure_yes (by rfl) (fun w => by go_simp; try with_reducible rfl)) hHeld ?_
  simp only [List.setIfInBounds_toArray, List.set_cons_zero, List.set_cons_succ]
  refine take_at (i := 26) 47 rfl rfl (by kernel_rfl) (by kernel_rfl) (by kernel_rfl) (fun _ _ _ h => h) (sure_yes (by rfl) (fun w => by go_simp; try with_reducible rfl)) hHeld ?_
  simp only [List.setIfInBounds_toArray, List.set_cons_zero, List.set_cons_succ]
  refine take_at (i := 27) 4 rfl rfl (by kernel_rfl) (by kernel_rfl) (by kernel_rfl) (fun _ _ _ h => h) (sure_yes (by rfl) (fun w => by go_simp; try with_reducible rfl)) hHeld ?_
  simp only [List.setIfInBounds_toArray, List.set_cons_zero, List.set_cons_succ]
  refine wpAnyH_done (by kernel_rfl) ?_ _
  go_wp2
  go_ret
  exact ⟨rfl, below_next B5.out hHeld⟩
end Go.Proofs.YtfechljjkblkhaaDoor
