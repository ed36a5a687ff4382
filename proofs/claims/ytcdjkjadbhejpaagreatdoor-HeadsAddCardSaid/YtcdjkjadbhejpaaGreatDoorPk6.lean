/-
Texts that all claims of this seat share, part 6: Ref12, RefLast.
-/
import Derived.Test.YtcdjkjadbhejpaaGreatDoorPk5
namespace Go.Proofs.YtcdjkjadbhejpaaGreatDoor
open Go.RowKit
theorem str_yieldsR {P : Program} {ops : Array Oper} {S : World → Prop} {o : Oper} {a : Act} (hw : Region.wanted o (yielded ops a.tmps) = true) (ty : TypeId) (x : Operand) (ho : o.op = .load ty x)
    (ad : Addr) (hx : a.eval x = .pointer (some ad)) (s : ByteArray) (hu : P.underlying ty = some .string) (hS : ∀ w, S w → w.cell? ad = some (.string s)) : YieldsIf P ops S o (.string s) a :=
  .inl ⟨hw, fun w h => by
    have hc := hS w h
    unfold execOp
    simp [ho, hx, Instr.loadAt, Instr.sureAddr, loadVar, isAgg, run_underlying hu, hc]⟩
theorem slice_yieldsR {P : Program} {ops : Array Oper} {S : World → Prop} {o : Oper} {a : Act} (hw : Region.wanted o (yielded ops a.tmps) = true) (ty : TypeId) (x : Operand) (ho : o.op = .load ty x)
    (A : Addr) (hx : a.eval x = .pointer (some A)) (ao : Option Addr) (n c : Nat) {e : TypeId} (hu : P.underlying ty = some (.slice e)) (hS : ∀ w, S w → w.cell? A = some (.slice ao n c)) : YieldsIf P ops S o (.slice ao n c) a :=
  .inl ⟨hw, fun w h => by
    have hc := hS w h
    unfold execOp
    simp [ho, hx, Instr.loadAt, Instr.sureAddr, loadVar, isAgg, run_underlying hu, hc]⟩
set_option maxRecDepth 100000 in
set_option maxHeartbeats 16000000 in
theorem refMay_any12 (e : Ev) (hl : e.deps.length < 2000000) (hp : e.path.length < 1152921504606846976) (v : Value) (w : World) (hv : HasDots w v e.deps) : Calls Tryz.prog 39 #[.agg (evC e v)] w fun x w' => x = .returned (.bool (mayE e)) ∧ Below w.heap.size w w' := by
  have HV := Lib.hid hv
  obtain ⟨n, hn⟩ : ∃ n, n = e.deps.length := ⟨_, rfl⟩
  obtain ⟨ao, cap, rfl⟩ := dots_shape hv n hn
  have E0 := Lib.hid (box_ev w 30 e (.slice ao n cap))
  have B0 := Lib.hid ((Below.refl w.heap.size w).alloc (Nat.le_refl _) (.cells (evC e (.slice ao n cap)) 30 (0, 0)))
  have MD := Lib.hid (fun w => refMay_any9 e.r e.q w)
  have MV := Lib.hid (fun w hv => refMay_any10 e.deps hl (.slice ao n cap) w hv)
  have GV := Lib.hid (fun w hv => refGet_any10 e.deps hl e.r (.slice ao n cap) w hv)
  have OW := Lib.hid (fun w => refOwn_any e.path hp w)
  cases h1 : mayD e.r e.q with
  | false =>
    have HM := Lib.hid (show mayE e = false by simp [mayE, h1])
    rw [h1] at MD
    clear h1 hv hl hp hn
    go_enter Tryz.func39, Tryz.ntmps39
    go_upto_region 1 with fail
    generalize w.alloc (.cells (evC e (.slice ao n cap)) 30 (0, 0)) = W0 at *
    refine wp_region_held_drew (S := fun w' => Below w.heap.size w w' ∧ EvAt w' w.heap.size 30 e (.slice ao n cap)) (by kernel_rfl) ⟨drawS B0.out, E0.out⟩ (fun hHeld => ?_)
    generalize W0.drew = wd at hHeld ⊢
    refine take_at (i := 0) 3 rfl rfl (by kernel_rfl) (by kernel_rfl) (by kernel_rfl) (fun _ _ _ h => h) (sure_yes (by rfl) (fun w => by go_simp; try with_reducible rfl)) hHeld ?_
    simp only [List.setIfInBounds_toArray, List.set_cons_zero, List.set_cons_succ]
    refine take_at (i := 1) 4 rfl rfl (by kernel_rfl) (by kernel_rfl) (by kernel_rfl) (fun _ _ _ h => h) (dot_yields (by rfl) 24 (.tmp 3) rfl ⟨w.heap.size, 0, none⟩ rfl e.r e.q Tryz.underlying24 (by kernel_rfl) (fun _ h => evAt_dot h.2)) hHeld ?_
    simp only [List.setIfInBounds_toArray, List.set_cons_zero, List.set_cons_succ]
    refine wpAnyH_ready (rs := [2]) (by kernel_rfl) (by simp) ?_
    refine AllReadyH.cons rfl (fun CONT hCONT => ?_) AllReadyH.nil
    go_simp
    go_at_call 74
    refine (MD.out _).mono ?_
    rintro x wz ⟨rfl, hb⟩
    dsimp only
    refine hCONT.out _ _ ⟨below_next hHeld.1 hb, evAt_kept hHeld.2 hb⟩ (fun hHeld => ?_)
    clear hCONT CONT hb
    refine take_at (i := 3) 6 rfl rfl (by kernel_rfl) (by kernel_rfl) (by kernel_rfl) (fun _ _ _ h => h) (sure_yes (by rfl) (fun w => by go_simp; try with_reducible rfl)) hHeld ?_
    simp only [List.setIfInBounds_toArray, List.set_cons_zero, List.set_cons_succ]
    refine take_at (i := 4) 7 rfl rfl (by kernel_rfl) (by kernel_rfl) (by kernel_rfl) (fun _ _ _ h => h) (sure_yes (by rfl) (fun w => by go_simp; try with_reducible rfl)) hHeld ?_
    simp only [List.setIfInBounds_toArray, List.set_cons_zero, List.set_cons_succ]
    refine take_at (i := 5) 8 rfl rfl (by kernel_rfl) (by kernel_rfl) (by kernel_rfl) (fun _ _ _ h => h) (.inr ⟨by rfl, rfl⟩) hHeld ?_
    simp only [List.setIfInBounds_toArray, List.set_cons_zero, List.set_cons_succ]
    refine take_at (i := 6) 9 rfl rfl (by kernel_rfl) (by kernel_rfl) (by kernel_rfl) (fun _ _ _ h => h) (.inr ⟨by rfl, rfl⟩) hHeld ?_
    simp only [List.setIfInBounds_toArray, List.set_cons_zero, List.set_cons_succ]
    refine take_at (i := 7) 10 rfl rfl (by kernel_rfl) (by kernel_rfl) (by kernel_rfl) (fun _ _ _ h => h) (.inr ⟨by rfl, rfl⟩) hHeld ?_
    simp only [List.setIfInBounds_toArray, List.set_cons_zero, List.set_cons_succ]
    refine take_at (i := 8) 11 rfl rfl (by kernel_rfl) (by kernel_rfl) (by kernel_rfl) (fun _ _ _ h => h) (.inr ⟨by rfl, rfl⟩) hHeld ?_
    simp only [List.setIfInBounds_toArray, List.set_cons_zero, List.set_cons_succ]
    refine take_at (i := 9) 12 rfl rfl (by kernel_rfl) (by kernel_rfl) (by kernel_rfl) (fun _ _ _ h => h) (sure_yes (by rfl) (fun w => by go_simp; try with_reducible rfl)) hHeld ?_
    simp only [List.setIfInBounds_toArray, List.set_cons_zero, List.set_cons_succ]
    refine take_at (i := 10) 13 rfl rfl (by kernel_rfl) (by kernel_rfl) (by kernel_rfl) (fun _ _ _ h => h) (sure_yes (by rfl) (fun w => by go_simp; try with_reducible rfl)) hHeld ?_
    simp only [List.setIfInBounds_toArray, List.set_cons_zero, List.set_cons_succ]
    refine take_at (i := 11) 14 rfl rfl (by kernel_rfl) (by kernel_rfl) (by kernel_rfl) (fun _ _ _ h => h) (.inr ⟨by rfl, rfl⟩) hHeld ?_
    simp only [List.setIfInBounds_toArray, List.set_cons_zero, List.set_cons_succ]
    refine take_at (i := 12) 15 rfl rfl (by kernel_rfl) (by kernel_rfl) (by kernel_rfl) (fun _ _ _ h => h) (.inr ⟨by rfl, rfl⟩) hHeld ?_
    simp only [List.setIfInBounds_toArray, List.set_cons_zero, List.set_cons_succ]
    refine take_at (i := 13) 16 rfl rfl (by kernel_rfl) (by kernel_rfl) (by kernel_rfl) (fun _ _ _ h => h) (.inr ⟨by rfl, rfl⟩) hHeld ?_
    simp only [List.setIfInBounds_toArray, List.set_cons_zero, List.set_cons_succ]
    refine take_at (i := 14) 17 rfl rfl (by kernel_rfl) (by kernel_rfl) (by kernel_rfl) (fun _ _ _ h => h) (.inr ⟨by rfl, rfl⟩) hHeld ?_
    simp only [List.setIfInBounds_toArray, List.set_cons_zero, List.set_cons_succ]
    refine take_at (i := 15) 18 rfl rfl (by kernel_rfl) (by kernel_rfl) (by kernel_rfl) (fun _ _ _ h => h) (.inr ⟨by rfl, rfl⟩) hHeld ?_
    simp only [List.setIfInBounds_toArray, List.set_cons_zero, List.set_cons_succ]
    refine take_at (i := 16) 19 rfl rfl (by kernel_rfl) (by kernel_rfl) (by kernel_rfl) (fun _ _ _ h => h) (.inr ⟨by rfl, rfl⟩) hHeld ?_
    simp only [List.setIfInBounds_toArray, List.set_cons_zero, List.set_cons_succ]
    refine take_at (i := 17) 20 rfl rfl (by kernel_rfl) (by kernel_rfl) (by kernel_rfl) (fun _ _ _ h => h) (.inr ⟨by rfl, rfl⟩) hHeld ?_
    simp only [List.setIfInBounds_toArray, List.set_cons_zero, List.set_cons_succ]
    refine take_at (i := 18) 21 rfl rfl (by kernel_rfl) (by kernel_rfl) (by kernel_rfl) (fun _ _ _ h => h) (.inr ⟨by rfl, rfl⟩) hHeld ?_
    simp only [List.setIfInBounds_toArray, List.set_cons_zero, List.set_cons_succ]
    refine take_at (i := 19) 22 rfl rfl (by kernel_rfl) (by kernel_rfl) (by kernel_rfl) (fun _ _ _ h => h) (.inr ⟨by rfl, rfl⟩) hHeld ?_
    simp only [List.setIfInBounds_toArray, List.set_cons_zero, List.set_cons_succ]
    refine take_at (i := 20) 23 rfl rfl (by kernel_rfl) (by kernel_rfl) (by kernel_rfl) (fun _ _ _ h => h) (.inr ⟨by rfl, rfl⟩) hHeld ?_
    simp only [List.setIfInBounds_toArray, List.set_cons_zero, List.set_cons_succ]
    refine take_at (i := 21) 24 rfl rfl (by kernel_rfl) (by kernel_rfl) (by kernel_rfl) (fun _ _ _ h => h) (.inr ⟨by rfl, rfl⟩) hHeld ?_
    simp only [List.setIfInBounds_toArray, List.set_cons_zero, List.set_cons_succ]
    refine take_at (i := 22) 25 rfl rfl (by kernel_rfl) (by kernel_rfl) (by kernel_rfl) (fun _ _ _ h => h) (sure_yes (by rfl) (fun w => by go_simp; try with_reducible rfl)) hHeld ?_
    simp only [List.setIfInBounds_toArray, List.set_cons_zero, List.set_cons_succ]
    refine take_at (i := 23) 26 rfl rfl (by kernel_rfl) (by kernel_rfl) (by kernel_rfl) (fun _ _ _ h => h) (sure_yes (by rfl) (fun w => by go_simp; try with_reducible rfl)) hHeld ?_
    simp only [List.setIfInBounds_toArray, List.set_cons_zero, List.set_cons_succ]
    refine take_at (i := 24) 27 rfl rfl (by kernel_rfl) (by kernel_rfl) (by kernel_rfl) (fun _ _ _ h => h) (.inr ⟨by rfl, rfl⟩) hHeld ?_
    simp only [List.setIfInBounds_toArray, List.set_cons_zero, List.set_cons_succ]
    refine take_at (i := 25) 28 rfl rfl (by kernel_rfl) (by kernel_rfl) (by kernel_rfl) (fun _ _ _ h => h) (.inr ⟨by rfl, rfl⟩) hHeld ?_
    simp only [List.setIfInBounds_toArray, List.set_cons_zero, List.set_cons_succ]
    refine take_at (i := 26) 29 rfl rfl (by kernel_rfl) (by kernel_rfl) (by kernel_rfl) (fun _ _ _ h => h) (.inr ⟨by rfl, rfl⟩) hHeld ?_
    simp only [List.setIfInBounds_toArray, List.set_cons_zero, List.set_cons_succ]
    refine take_at (i := 27) 30 rfl rfl (by kernel_rfl) (by kernel_rfl) (by kernel_rfl) (fun _ _ _ h => h) (.inr ⟨by rfl, rfl⟩) hHeld ?_
    simp only [List.setIfInBounds_toArray, List.set_cons_zero, List.set_cons_succ]
    refine take_at (i := 28) 31 rfl rfl (by kernel_rfl) (by kernel_rfl) (by kernel_rfl) (fun _ _ _ h => h) (sure_yes (by rfl) (fun w => by go_simp; try with_reducible rfl)) hHeld ?_
    simp only [List.setIfInBounds_toArray, List.set_cons_zero, List.set_cons_succ]
    refine wpAnyH_done (by kernel_rfl) ?_ _
    go_wp2
    go_ret
    exact ⟨by rw [HM.out]; rfl, hHeld.1⟩
  | true =>
    obtain ⟨p, hpq⟩ : ∃ p, e.q - 1 = p := ⟨_, rfl⟩
    have hq0 := mayT_bd (d := (e.r, e.q)) h1
    have hw : IntKind.i64.wrap (e.q - 1) = p := by dsimp only at hq0; rw [hpq, IntKind.wrap_i64]; omega
    rw [h1] at MD
    cases h2 : mayV e.deps with
    | false =>
      have HM := Lib.hid (show mayE e = false by simp [mayE, knownE, h2])
      rw [h2] at MV
      clear h1 h2 hv hl hp hn hpq hq0 hw
      go_enter Tryz.func39, Tryz.ntmps39
      go_upto_region 1 with fail
      generalize w.alloc (.cells (evC e (.slice ao n cap)) 30 (0, 0)) = W0 at *
      refine wp_region_held_drew (S := fun w' => Below w.heap.size w w' ∧ EvAt w' w.heap.size 30 e (.slice ao n cap)) (by kernel_rfl) ⟨drawS B0.out, E0.out⟩ (fun hHeld => ?_)
      generalize W0.drew = wd at hHeld ⊢
      refine take_at (i := 0) 3 rfl rfl (by kernel_rfl) (by kernel_rfl) (by kernel_rfl) (fun _ _ _ h => h) (sure_yes (by rfl) (fun w => by go_simp; try with_reducible rfl)) hHeld ?_
      simp only [List.setIfInBounds_toArray, List.set_cons_zero, List.set_cons_succ]
      refine take_at (i := 1) 4 rfl rfl (by kernel_rfl) (by kernel_rfl) (by kernel_rfl) (fun _ _ _ h => h) (dot_yields (by rfl) 24 (.tmp 3) rfl ⟨w.heap.size, 0, none⟩ rfl e.r e.q Tryz.underlying24 (by kernel_rfl) (fun _ h => evAt_dot h.2)) hHeld ?_
      simp only [List.setIfInBounds_toArray, List.set_cons_zero, List.set_cons_succ]
      refine wpAnyH_ready (rs := [2]) (by kernel_rfl) (by simp) ?_
      refine AllReadyH.cons rfl (fun CONT hCONT => ?_) AllReadyH.nil
      go_simp
      go_at_call 74
      refine (MD.out _).mono ?_
      rintro x wz ⟨rfl, hb⟩
      dsimp only
      refine hCONT.out _ _ ⟨below_next hHeld.1 hb, evAt_kept hHeld.2 hb⟩ (fun hHeld => ?_)
      clear hCONT CONT hb
      refine take_at (i := 3) 6 rfl rfl (by kernel_rfl) (by kernel_rfl) (by kernel_rfl) (fun _ _ _ h => h) (sure_yes (by rfl) (fun w => by go_simp; try with_reducible rfl)) hHeld ?_
      simp only [List.setIfInBounds_toArray, List.set_cons_zero, List.set_cons_succ]
      refine take_at (i := 4) 7 rfl rfl (by kernel_rfl) (by kernel_rfl) (by kernel_rfl) (fun _ _ _ h => h) (sure_yes (by rfl) (fun w => by go_simp; try with_reducible rfl)) hHeld ?_
      simp only [List.setIfInBounds_toArray, List.set_cons_zero, List.set_cons_succ]
      refine take_at (i := 5) 8 rfl rfl (by kernel_rfl) (by kernel_rfl) (by kernel_rfl) (fun _ _ _ h => h) (sure_yes (by rfl) (fun w => by go_simp; try with_reducible rfl)) hHeld ?_
      simp only [List.setIfInBounds_toArray, List.set_cons_zero, List.set_cons_succ]
      refine take_at (i := 6) 9 rfl rfl (by kernel_rfl) (by kernel_rfl) (by kernel_rfl) (fun _ _ _ h => h) (slice_yieldsR (by rfl) 26 (.tmp 8) rfl ⟨w.heap.size, 2, none⟩ rfl ao n cap Tryz.underlying26 (fun _ h => (evAt_cells h.2).2.2.1)) hHeld ?_
      simp only [List.setIfInBounds_toArray, List.set_cons_zero, List.set_cons_succ]
      refine wpAnyH_ready (rs := [7]) (by kernel_rfl) (by simp) ?_
      refine AllReadyH.cons rfl (fun CONT hCONT => ?_) AllReadyH.nil
      go_simp
      go_at_call 75
      refine (MV.out _ (dots_below HV.out hHeld.1)).mono ?_
      rintro x wz ⟨rfl, hb⟩
      dsimp only
      refine hCONT.out _ _ ⟨below_next hHeld.1 hb, evAt_kept hHeld.2 hb⟩ (fun hHeld => ?_)
      clear hCONT CONT hb
      refine take_at (i := 8) 11 rfl rfl (by kernel_rfl) (by kernel_rfl) (by kernel_rfl) (fun _ _ _ h => h) (sure_yes (by rfl) (fun w => by go_simp; try with_reducible rfl)) hHeld ?_
      simp only [List.setIfInBounds_toArray, List.set_cons_zero, List.set_cons_succ]
      refine take_at (i := 9) 12 rfl rfl (by kernel_rfl) (by kernel_rfl) (by kernel_rfl) (fun _ _ _ h => h) (sure_yes (by rfl) (fun w => by go_simp; try with_reducible rfl)) hHeld ?_
      simp only [List.setIfInBounds_toArray, List.set_cons_zero, List.set_cons_succ]
      refine take_at (i := 10) 13 rfl rfl (by kernel_rfl) (by kernel_rfl) (by kernel_rfl) (fun _ _ _ h => h) (sure_yes (by rfl) (fun w => by go_simp; try with_reducible rfl)) hHeld ?_
      simp only [List.setIfInBounds_toArray, List.set_cons_zero, List.set_cons_succ]
      refine take_at (i := 11) 14 rfl rfl (by kernel_rfl) (by kernel_rfl) (by kernel_rfl) (fun _ _ _ h => h) (.inr ⟨by rfl, rfl⟩) hHeld ?_
      simp only [List.setIfInBounds_toArray, List.set_cons_zero, List.set_cons_succ]
      refine take_at (i := 12) 15 rfl rfl (by kernel_rfl) (by kernel_rfl) (by kernel_rfl) (fun _ _ _ h => h) (.inr ⟨by rfl, rfl⟩) hHeld ?_
      simp only [List.setIfInBounds_toArray, List.set_cons_zero, List.set_cons_succ]
      refine take_at (i := 13) 16 rfl rfl (by kernel_rfl) (by kernel_rfl) (by kernel_rfl) (fun _ _ _ h => h) (.inr ⟨by rfl, rfl⟩) hHeld ?_
      simp only [List.setIfInBounds_toArray, List.set_cons_zero, List.set_cons_succ]
      refine take_at (i := 14) 17 rfl rfl (by kernel_rfl) (by kernel_rfl) (by kernel_rfl) (fun _ _ _ h => h) (.inr ⟨by rfl, rfl⟩) hHeld ?_
      simp only [List.setIfInBounds_toArray, List.set_cons_zero, List.set_cons_succ]
      refine take_at (i := 15) 18 rfl rfl (by kernel_rfl) (by kernel_rfl) (by kernel_rfl) (fun _ _ _ h => h) (.inr ⟨by rfl, rfl⟩) hHeld ?_
      simp only [List.setIfInBounds_toArray, List.set_cons_zero, List.set_cons_succ]
      refine take_at (i := 16) 19 rfl rfl (by kernel_rfl) (by kernel_rfl) (by kernel_rfl) (fun _ _ _ h => h) (.inr ⟨by rfl, rfl⟩) hHeld ?_
      simp only [List.setIfInBounds_toArray, List.set_cons_zero, List.set_cons_succ]
      refine take_at (i := 17) 20 rfl rfl (by kernel_rfl) (by kernel_rfl) (by kernel_rfl) (fun _ _ _ h => h) (.inr ⟨by rfl, rfl⟩) hHeld ?_
      simp only [List.setIfInBounds_toArray, List.set_cons_zero, List.set_cons_succ]
      refine take_at (i := 18) 21 rfl rfl (by kernel_rfl) (by kernel_rfl) (by kernel_rfl) (fun _ _ _ h => h) (.inr ⟨by rfl, rfl⟩) hHeld ?_
      simp only [List.setIfInBounds_toArray, List.set_cons_zero, List.set_cons_succ]
      refine take_at (i := 19) 22 rfl rfl (by kernel_rfl) (by kernel_rfl) (by kernel_rfl) (fun _ _ _ h => h) (.inr ⟨by rfl, rfl⟩) hHeld ?_
      simp only [List.setIfInBounds_toArray, List.set_cons_zero, List.set_cons_succ]
      refine take_at (i := 20) 23 rfl rfl (by kernel_rfl) (by kernel_rfl) (by kernel_rfl) (fun _ _ _ h => h) (.inr ⟨by rfl, rfl⟩) hHeld ?_
      simp only [List.setIfInBounds_toArray, List.set_cons_zero, List.set_cons_succ]
      refine take_at (i := 21) 24 rfl rfl (by kernel_rfl) (by kernel_rfl) (by kernel_rfl) (fun _ _ _ h => h) (.inr ⟨by rfl, rfl⟩) hHeld ?_
      simp only [List.setIfInBounds_toArray, List.set_cons_zero, List.set_cons_succ]
      refine take_at (i := 22) 25 rfl rfl (by kernel_rfl) (by kernel_rfl) (by kernel_rfl) (fun _ _ _ h => h) (sure_yes (by rfl) (fun w => by go_simp; try with_reducible rfl)) hHeld ?_
      simp only [List.setIfInBounds_toArray, List.set_cons_zero, List.set_cons_succ]
      refine take_at (i := 23) 26 rfl rfl (by kernel_rfl) (by kernel_rfl) (by kernel_rfl) (fun _ _ _ h => h) (sure_yes (by rfl) (fun w => by go_simp; try with_reducible rfl)) hHeld ?_
      simp only [List.setIfInBounds_toArray, List.set_cons_zero, List.set_cons_succ]
      refine take_at (i := 24) 27 rfl rfl (by kernel_rfl) (by kernel_rfl) (by kernel_rfl) (fun _ _ _ h => h) (.inr ⟨by rfl, rfl⟩) hHeld ?_
      simp only [List.setIfInBounds_toArray, List.set_cons_zero, List.set_cons_succ]
      refine take_at (i := 25) 28 rfl rfl (by kernel_rfl) (by kernel_rfl) (by kernel_rfl) (fun _ _ _ h => h) (.inr ⟨by rfl, rfl⟩) hHeld ?_
      simp only [List.setIfInBounds_toArray, List.set_cons_zero, List.set_cons_succ]
      refine take_at (i := 26) 29 rfl rfl (by kernel_rfl) (by kernel_rfl) (by kernel_rfl) (fun _ _ _ h => h) (.inr ⟨by rfl, rfl⟩) hHeld ?_
      simp only [List.setIfInBounds_toArray, List.set_cons_zero, List.set_cons_succ]
      refine take_at (i := 27) 30 rfl rfl (by kernel_rfl) (by kernel_rfl) (by kernel_rfl) (fun _ _ _ h => h) (.inr ⟨by rfl, rfl⟩) hHeld ?_
      simp only [List.setIfInBounds_toArray, List.set_cons_zero, List.set_cons_succ]
      refine take_at (i := 28) 31 rfl rfl (by kernel_rfl) (by kernel_rfl) (by kernel_rfl) (fun _ _ _ h => h) (sure_yes (by rfl) (fun w => by go_simp; try with_reducible rfl)) hHeld ?_
      simp only [List.setIfInBounds_toArray, List.set_cons_zero, List.set_cons_succ]
      refine wpAnyH_done (by kernel_rfl) ?_ _
      go_wp2
      go_ret
      exact ⟨by rw [HM.out]; rfl, hHeld.1⟩
    | true =>
      rw [h2] at MV
      by_cases h3 : getV e.deps e.r = p
      · rw [h3] at GV
        have q5 : (p != p) = false := by simp
        cases h4 : ownP e.path with
        | false =>
          have HM := Lib.hid (show mayE e = false by simp [mayE, h4])
          rw [h4] at OW
          clear h1 h2 h3 h4 hv hl hp hn hpq hq0
          go_enter Tryz.func39, Tryz.ntmps39
          go_upto_region 1 with fail
          generalize w.alloc (.cells (evC e (.slice ao n cap)) 30 (0, 0)) = W0 at *
          refine wp_region_held_drew (S := fun w' => Below w.heap.size w w' ∧ EvAt w' w.heap.size 30 e (.slice ao n cap)) (by kernel_rfl) ⟨drawS B0.out, E0.out⟩ (fun hHeld => ?_)
          generalize W0.drew = wd at hHeld ⊢
          refine take_at (i := 0) 3 rfl rfl (by kernel_rfl) (by kernel_rfl) (by kernel_rfl) (fun _ _ _ h => h) (sure_yes (by rfl) (fun w => by go_simp; try with_reducible rfl)) hHeld ?_
          simp only [List.setIfInBounds_toArray, List.set_cons_zero, List.set_cons_succ]
          refine take_at (i := 1) 4 rfl rfl (by kernel_rfl) (by kernel_rfl) (by kernel_rfl) (fun _ _ _ h => h) (dot_yields (by rfl) 24 (.tmp 3) rfl ⟨w.heap.size, 0, none⟩ rfl e.r e.q Tryz.underlying24 (by kernel_rfl) (fun _ h => evAt_dot h.2)) hHeld ?_
          simp only [List.setIfInBounds_toArray, List.set_cons_zero, List.set_cons_succ]
          refine wpAnyH_ready (rs := [2]) (by kernel_rfl) (by simp) ?_
          refine AllReadyH.cons rfl (fun CONT hCONT => ?_) AllReadyH.nil
          go_simp
          go_at_call 74
          refine (MD.out _).mono ?_
          rintro x wz ⟨rfl, hb⟩
          dsimp only
          refine hCONT.out _ _ ⟨below_next hHeld.1 hb, evAt_kept hHeld.2 hb⟩ (fun hHeld => ?_)
          clear hCONT CONT hb
          refine take_at (i := 3) 6 rfl rfl (by kernel_rfl) (by kernel_rfl) (by kernel_rfl) (fun _ _ _ h => h) (sure_yes (by rfl) (fun w => by go_simp; try with_reducible rfl)) hHeld ?_
          simp only [List.setIfInBounds_toArray, List.set_cons_zero, List.set_cons_succ]
          refine take_at (i := 4) 7 rfl rfl (by kernel_rfl) (by kernel_rfl) (by kernel_rfl) (fun _ _ _ h => h) (sure_yes (by rfl) (fun w => by go_simp; try with_reducible rfl)) hHeld ?_
          simp only [List.setIfInBounds_toArray, List.set_cons_zero, List.set_cons_succ]
          refine take_at (i := 5) 8 rfl rfl (by kernel_rfl) (by kernel_rfl) (by kernel_rfl) (fun _ _ _ h => h) (sure_yes (by rfl) (fun w => by go_simp; try with_reducible rfl)) hHeld ?_
          simp only [List.setIfInBounds_toArray, List.set_cons_zero, List.set_cons_succ]
          refine take_at (i := 6) 9 rfl rfl (by kernel_rfl) (by kernel_rfl) (by kernel_rfl) (fun _ _ _ h => h) (slice_yieldsR (by rfl) 26 (.tmp 8) rfl ⟨w.heap.size, 2, none⟩ rfl ao n cap Tryz.underlying26 (fun _ h => (evAt_cells h.2).2.2.1)) hHeld ?_
          simp only [List.setIfInBounds_toArray, List.set_cons_zero, List.set_cons_succ]
          refine wpAnyH_ready (rs := [7]) (by kernel_rfl) (by simp) ?_
          refine AllReadyH.cons rfl (fun CONT hCONT => ?_) AllReadyH.nil
          go_simp
          go_at_call 75
          refine (MV.out _ (dots_below HV.out hHeld.1)).mono ?_
          rintro x wz ⟨rfl, hb⟩
          dsimp only
          refine hCONT.out _ _ ⟨below_next hHeld.1 hb, evAt_kept hHeld.2 hb⟩ (fun hHeld => ?_)
          clear hCONT CONT hb
          refine take_at (i := 8) 11 rfl rfl (by kernel_rfl) (by kernel_rfl) (by kernel_rfl) (fun _ _ _ h => h) (sure_yes (by rfl) (fun w => by go_simp; try with_reducible rfl)) hHeld ?_
          simp only [List.setIfInBounds_toArray, List.set_cons_zero, List.set_cons_succ]
          refine take_at (i := 9) 12 rfl rfl (by kernel_rfl) (by kernel_rfl) (by kernel_rfl) (fun _ _ _ h => h) (sure_yes (by rfl) (fun w => by go_simp; try with_reducible rfl)) hHeld ?_
          simp only [List.setIfInBounds_toArray, List.set_cons_zero, List.set_cons_succ]
          refine take_at (i := 10) 13 rfl rfl (by kernel_rfl) (by kernel_rfl) (by kernel_rfl) (fun _ _ _ h => h) (sure_yes (by rfl) (fun w => by go_simp; try with_reducible rfl)) hHeld ?_
          simp only [List.setIfInBounds_toArray, List.set_cons_zero, List.set_cons_succ]
          refine take_at (i := 11) 14 rfl rfl (by kernel_rfl) (by kernel_rfl) (by kernel_rfl) (fun _ _ _ h => h) (sure_yes (by rfl) (fun w => by go_simp; try with_reducible rfl)) hHeld ?_
          simp only [List.setIfInBounds_toArray, List.set_cons_zero, List.set_cons_succ]
          refine take_at (i := 13) 16 rfl rfl (by kernel_rfl) (by kernel_rfl) (by kernel_rfl) (fun _ _ _ h => h) (sure_yes (by rfl) (fun w => by go_simp; try with_reducible rfl)) hHeld ?_
          simp only [List.setIfInBounds_toArray, List.set_cons_zero, List.set_cons_succ]
          refine take_at (i := 14) 17 rfl rfl (by kernel_rfl) (by kernel_rfl) (by kernel_rfl) (fun _ _ _ h => h) (sure_yes (by rfl) (fun w => by go_simp; try with_reducible rfl)) hHeld ?_
          simp only [List.setIfInBounds_toArray, List.set_cons_zero, List.set_cons_succ]
          refine take_at (i := 17) 20 rfl rfl (by kernel_rfl) (by kernel_rfl) (by kernel_rfl) (fun _ _ _ h => h) (sure_yes (by rfl) (fun w => by go_simp; try with_reducible rfl)) hHeld ?_
          simp only [List.setIfInBounds_toArray, List.set_cons_zero, List.set_cons_succ]
          refine take_at (i := 18) 21 rfl rfl (by kernel_rfl) (by kernel_rfl) (by kernel_rfl) (fun _ _ _ h => h) (sure_yes (by rfl) (fun w => by go_simp; try with_reducible rfl)) hHeld ?_
          simp only [List.setIfInBounds_toArray, List.set_cons_zero, List.set_cons_succ]
          refine take_at (i := 12) 15 rfl rfl (by kernel_rfl) (by kernel_rfl) (by kernel_rfl) (fun _ _ _ h => h) (slice_yieldsR (by rfl) 26 (.tmp 14) rfl ⟨w.heap.size, 2, none⟩ rfl ao n cap Tryz.underlying26 (fun _ h => (evAt_cells h.2).2.2.1)) hHeld ?_
          simp only [List.setIfInBounds_toArray, List.set_cons_zero, List.set_cons_succ]
          refine take_at (i := 15) 18 rfl rfl (by kernel_rfl) (by kernel_rfl) (by kernel_rfl) (fun _ _ _ h => h) (cell_yields (by rfl) 3 (.tmp 17) rfl w.heap.size 0 rfl .i64 _ Tryz.underlying3 (fun _ h => (evAt_cells h.2).1)) hHeld ?_
          simp only [List.setIfInBounds_toArray, List.set_cons_zero, List.set_cons_succ]
          refine take_at (i := 19) 22 rfl rfl (by kernel_rfl) (by kernel_rfl) (by kernel_rfl) (fun _ _ _ h => h) (cell_yields (by rfl) 2 (.tmp 21) rfl w.heap.size 1 rfl .i64 _ Tryz.underlying2 (fun _ h => (evAt_cells h.2).2.1)) hHeld ?_
          simp only [List.setIfInBounds_toArray, List.set_cons_zero, List.set_cons_succ]
          refine take_at (i := 20) 23 rfl rfl (by kernel_rfl) (by kernel_rfl) (by kernel_rfl) (fun _ _ _ h => h) (sure_yes (by rfl) (fun w => by go_simp; try with_reducible rfl)) hHeld ?_
          simp only [List.setIfInBounds_toArray, List.set_cons_zero, List.set_cons_succ]
          refine wpAnyH_ready (rs := [16]) (by kernel_rfl) (by simp) ?_
          refine AllReadyH.cons rfl (fun CONT hCONT => ?_) AllReadyH.nil
          go_simp
          go_at_call 53
          refine (GV.out _ (dots_below HV.out hHeld.1)).mono ?_
          rintro x wz ⟨rfl, hb⟩
          dsimp only
          refine hCONT.out _ _ ⟨below_next hHeld.1 hb, evAt_kept hHeld.2 hb⟩ (fun hHeld => ?_)
          clear hCONT CONT hb
          refine take_at (i := 21) 24 rfl rfl (by kernel_rfl) (by kernel_rfl) (by kernel_rfl) (fun _ _ _ h => h) (sure_yes (by rfl) (fun w => by go_simp; try with_reducible rfl)) hHeld ?_
          simp only [List.setIfInBounds_toArray, List.set_cons_zero, List.set_cons_succ]
          refine take_at (i := 22) 25 rfl rfl (by kernel_rfl) (by kernel_rfl) (by kernel_rfl) (fun _ _ _ h => h) (sure_yes (by rfl) (fun w => by go_simp; try with_reducible rfl)) hHeld ?_
          simp only [List.setIfInBounds_toArray, List.set_cons_zero, List.set_cons_succ]
          refine take_at (i := 23) 26 rfl rfl (by kernel_rfl) (by kernel_rfl) (by kernel_rfl) (fun _ _ _ h => h) (sure_yes (by rfl) (fun w => by go_simp; try with_reducible rfl)) hHeld ?_
          simp only [List.setIfInBounds_toArray, List.set_cons_zero, List.set_cons_succ]
          refine take_at (i := 24) 27 rfl rfl (by kernel_rfl) (by kernel_rfl) (by kernel_rfl) (fun _ _ _ h => h) (sure_yes (by rfl) (fun w => by go_simp; try with_reducible rfl)) hHeld ?_
          simp only [List.setIfInBounds_toArray, List.set_cons_zero, List.set_cons_succ]
          refine take_at (i := 25) 28 rfl rfl (by kernel_rfl) (by kernel_rfl) (by kernel_rfl) (fun _ _ _ h => h) (str_yieldsR (by rfl) 9 (.tmp 27) rfl ⟨w.heap.size, 4, none⟩ rfl _ Tryz.underlying9 (fun _ h => (evAt_cells h.2).2.2.2.2.1)) hHeld ?_
          simp only [List.setIfInBounds_toArray, List.set_cons_zero, List.set_cons_succ]
          refine wpAnyH_ready (rs := [26]) (by kernel_rfl) (by simp) ?_
          refine AllReadyH.cons rfl (fun CONT hCONT => ?_) AllReadyH.nil
          go_simp
          go_at_call 76
          refine (OW.out _).mono ?_
          rintro x wz ⟨rfl, hb⟩
          dsimp only
          refine hCONT.out _ _ ⟨below_next hHeld.1 hb, evAt_kept hHeld.2 hb⟩ (fun hHeld => ?_)
          clear hCONT CONT hb
          refine take_at (i := 27) 30 rfl rfl (by kernel_rfl) (by kernel_rfl) (by kernel_rfl) (fun _ _ _ h => h) (sure_yes (by rfl) (fun w => by go_simp; try with_reducible rfl)) hHeld ?_
          simp only [List.setIfInBounds_toArray, List.set_cons_zero, List.set_cons_succ]
          refine take_at (i := 28) 31 rfl rfl (by kernel_rfl) (by kernel_rfl) (by kernel_rfl) (fun _ _ _ h => h) (sure_yes (by rfl) (fun w => by go_simp; try with_reducible rfl)) hHeld ?_
          simp only [List.setIfInBounds_toArray, List.set_cons_zero, List.set_cons_succ]
          refine wpAnyH_done (by kernel_rfl) ?_ _
          go_wp2
          go_ret
          exact ⟨by rw [HM.out]; rfl, hHeld.1⟩
        | true =>
          have HQ := Lib.hid (show mayE e = mayH e by rw [← hpq] at h3; simp [mayE, knownE, h1, h2, h3, h4])
          obtain ⟨b, hb⟩ : ∃ b, sameRow 32 e.sum zeroF = b := ⟨_, rfl⟩
          have HB := Lib.hid hb
          have hq := eql_rowV (P := Tryz.prog) Tryz.underlying28 Tryz.underlying5 cellsByte e.sum zeroF hb
          have hg := guard_rowV (P := Tryz.prog) digestGuard (.tmp 53) (.tmp 54) .u8 32 e.sum zeroF
          rw [zero_row] at hq hg
          rw [h4] at OW
          clear h1 h2 h3 h4 hv hl hp hn hpq hq0 hb
          go_enter Tryz.func39, Tryz.ntmps39
          go_upto_region 1 with fail
          generalize w.alloc (.cells (evC e (.slice ao n cap)) 30 (0, 0)) = W0 at *
          refine wp_region_held_drew (S := fun w' => Below w.heap.size w w' ∧ EvAt w' w.heap.size 30 e (.slice ao n cap)) (by kernel_rfl) ⟨drawS B0.out, E0.out⟩ (fun hHeld => ?_)
          generalize W0.drew = wd at hHeld ⊢
          refine take_at (i := 0) 3 rfl rfl (by kernel_rfl) (by kernel_rfl) (by kernel_rfl) (fun _ _ _ h => h) (sure_yes (by rfl) (fun w => by go_simp; try with_reducible rfl)) hHeld ?_
          simp only [List.setIfInBounds_toArray, List.set_cons_zero, List.set_cons_succ]
          refine take_at (i := 1) 4 rfl rfl (by kernel_rfl) (by kernel_rfl) (by kernel_rfl) (fun _ _ _ h => h) (dot_yields (by rfl) 24 (.tmp 3) rfl ⟨w.heap.size, 0, none⟩ rfl e.r e.q Tryz.underlying24 (by kernel_rfl) (fun _ h => evAt_dot h.2)) hHeld ?_
          simp only [List.setIfInBounds_toArray, List.set_cons_zero, List.set_cons_succ]
          refine wpAnyH_ready (rs := [2]) (by kernel_rfl) (by simp) ?_
          refine AllReadyH.cons rfl (fun CONT hCONT => ?_) AllReadyH.nil
          go_simp
          go_at_call 74
          refine (MD.out _).mono ?_
          rintro x wz ⟨rfl, hb⟩
          dsimp only
          refine hCONT.out _ _ ⟨below_next hHeld.1 hb, evAt_kept hHeld.2 hb⟩ (fun hHeld => ?_)
          clear hCONT CONT hb
          refine take_at (i := 3) 6 rfl rfl (by kernel_rfl) (by kernel_rfl) (by kernel_rfl) (fun _ _ _ h => h) (sure_yes (by rfl) (fun w => by go_simp; try with_reducible rfl)) hHeld ?_
          simp only [List.setIfInBounds_toArray, List.set_cons_zero, List.set_cons_succ]
          refine take_at (i := 4) 7 rfl rfl (by kernel_rfl) (by kernel_rfl) (by kernel_rfl) (fun _ _ _ h => h) (sure_yes (by rfl) (fun w => by go_simp; try with_reducible rfl)) hHeld ?_
          simp only [List.setIfInBounds_toArray, List.set_cons_zero, List.set_cons_succ]
          refine take_at (i := 5) 8 rfl rfl (by kernel_rfl) (by kernel_rfl) (by kernel_rfl) (fun _ _ _ h => h) (sure_yes (by rfl) (fun w => by go_simp; try with_reducible rfl)) hHeld ?_
          simp only [List.setIfInBounds_toArray, List.set_cons_zero, List.set_cons_succ]
          refine take_at (i := 6) 9 rfl rfl (by kernel_rfl) (by kernel_rfl) (by kernel_rfl) (fun _ _ _ h => h) (slice_yieldsR (by rfl) 26 (.tmp 8) rfl ⟨w.heap.size, 2, none⟩ rfl ao n cap Tryz.underlying26 (fun _ h => (evAt_cells h.2).2.2.1)) hHeld ?_
          simp only [List.setIfInBounds_toArray, List.set_cons_zero, List.set_cons_succ]
          refine wpAnyH_ready (rs := [7]) (by kernel_rfl) (by simp) ?_
          refine AllReadyH.cons rfl (fun CONT hCONT => ?_) AllReadyH.nil
          go_simp
          go_at_call 75
          refine (MV.out _ (dots_below HV.out hHeld.1)).mono ?_
          rintro x wz ⟨rfl, hb⟩
          dsimp only
          refine hCONT.out _ _ ⟨below_next hHeld.1 hb, evAt_kept hHeld.2 hb⟩ (fun hHeld => ?_)
          clear hCONT CONT hb
          refine take_at (i := 8) 11 rfl rfl (by kernel_rfl) (by kernel_rfl) (by kernel_rfl) (fun _ _ _ h => h) (sure_yes (by rfl) (fun w => by go_simp; try with_reducible rfl)) hHeld ?_
          simp only [List.setIfInBounds_toArray, List.set_cons_zero, List.set_cons_succ]
          refine take_at (i := 9) 12 rfl rfl (by kernel_rfl) (by kernel_rfl) (by kernel_rfl) (fun _ _ _ h => h) (sure_yes (by rfl) (fun w => by go_simp; try with_reducible rfl)) hHeld ?_
          simp only [List.setIfInBounds_toArray, List.set_cons_zero, List.set_cons_succ]
          refine take_at (i := 10) 13 rfl rfl (by kernel_rfl) (by kernel_rfl) (by kernel_rfl) (fun _ _ _ h => h) (sure_yes (by rfl) (fun w => by go_simp; try with_reducible rfl)) hHeld ?_
          simp only [List.setIfInBounds_toArray, List.set_cons_zero, List.set_cons_succ]
          refine take_at (i := 11) 14 rfl rfl (by kernel_rfl) (by kernel_rfl) (by kernel_rfl) (fun _ _ _ h => h) (sure_yes (by rfl) (fun w => by go_simp; try with_reducible rfl)) hHeld ?_
          simp only [List.setIfInBounds_toArray, List.set_cons_zero, List.set_cons_succ]
          refine take_at (i := 13) 16 rfl rfl (by kernel_rfl) (by kernel_rfl) (by kernel_rfl) (fun _ _ _ h => h) (sure_yes (by rfl) (fun w => by go_simp; try with_reducible rfl)) hHeld ?_
          simp only [List.setIfInBounds_toArray, List.set_cons_zero, List.set_cons_succ]
          refine take_at (i := 14) 17 rfl rfl (by kernel_rfl) (by kernel_rfl) (by kernel_rfl) (fun _ _ _ h => h) (sure_yes (by rfl) (fun w => by go_simp; try with_reducible rfl)) hHeld ?_
          simp only [List.setIfInBounds_toArray, List.set_cons_zero, List.set_cons_succ]
          refine take_at (i := 17) 20 rfl rfl (by kernel_rfl) (by kernel_rfl) (by kernel_rfl) (fun _ _ _ h => h) (sure_yes (by rfl) (fun w => by go_simp; try with_reducible rfl)) hHeld ?_
          simp only [List.setIfInBounds_toArray, List.set_cons_zero, List.set_cons_succ]
          refine take_at (i := 18) 21 rfl rfl (by kernel_rfl) (by kernel_rfl) (by kernel_rfl) (fun _ _ _ h => h) (sure_yes (by rfl) (fun w => by go_simp; try with_reducible rfl)) hHeld ?_
          simp only [List.setIfInBounds_toArray, List.set_cons_zero, List.set_cons_succ]
          refine take_at (i := 12) 15 rfl rfl (by kernel_rfl) (by kernel_rfl) (by kernel_rfl) (fun _ _ _ h => h) (slice_yieldsR (by rfl) 26 (.tmp 14) rfl ⟨w.heap.size, 2, none⟩ rfl ao n cap Tryz.underlying26 (fun _ h => (evAt_cells h.2).2.2.1)) hHeld ?_
          simp only [List.setIfInBounds_toArray, List.set_cons_zero, List.set_cons_succ]
          refine take_at (i := 15) 18 rfl rfl (by kernel_rfl) (by kernel_rfl) (by kernel_rfl) (fun _ _ _ h => h) (cell_yields (by rfl) 3 (.tmp 17) rfl w.heap.size 0 rfl .i64 _ Tryz.underlying3 (fun _ h => (evAt_cells h.2).1)) hHeld ?_
          simp only [List.setIfInBounds_toArray, List.set_cons_zero, List.set_cons_succ]
          refine take_at (i := 19) 22 rfl rfl (by kernel_rfl) (by kernel_rfl) (by kernel_rfl) (fun _ _ _ h => h) (cell_yields (by rfl) 2 (.tmp 21) rfl w.heap.size 1 rfl .i64 _ Tryz.underlying2 (fun _ h => (evAt_cells h.2).2.1)) hHeld ?_
          simp only [List.setIfInBounds_toArray, List.set_cons_zero, List.set_cons_succ]
          refine take_at (i := 20) 23 rfl rfl (by kernel_rfl) (by kernel_rfl) (by kernel_rfl) (fun _ _ _ h => h) (sure_yes (by rfl) (fun w => by go_simp; try with_reducible rfl)) hHeld ?_
          simp only [List.setIfInBounds_toArray, List.set_cons_zero, List.set_cons_succ]
          refine wpAnyH_ready (rs := [16]) (by kernel_rfl) (by simp) ?_
          refine AllReadyH.cons rfl (fun CONT hCONT => ?_) AllReadyH.nil
          go_simp
          go_at_call 53
          refine (GV.out _ (dots_below HV.out hHeld.1)).mono ?_
          rintro x wz ⟨rfl, hb⟩
          dsimp only
          refine hCONT.out _ _ ⟨below_next hHeld.1 hb, evAt_kept hHeld.2 hb⟩ (fun hHeld => ?_)
          clear hCONT CONT hb
          refine take_at (i := 21) 24 rfl rfl (by kernel_rfl) (by kernel_rfl) (by kernel_rfl) (fun _ _ _ h => h) (sure_yes (by rfl) (fun w => by go_simp; try with_reducible rfl)) hHeld ?_
          simp only [List.setIfInBounds_toArray, List.set_cons_zero, List.set_cons_succ]
          refine take_at (i := 22) 25 rfl rfl (by kernel_rfl) (by kernel_rfl) (by kernel_rfl) (fun _ _ _ h => h) (sure_yes (by rfl) (fun w => by go_simp; try with_reducible rfl)) hHeld ?_
          simp only [List.setIfInBounds_toArray, List.set_cons_zero, List.set_cons_succ]
          refine take_at (i := 23) 26 rfl rfl (by kernel_rfl) (by kernel_rfl) (by kernel_rfl) (fun _ _ _ h => h) (sure_yes (by rfl) (fun w => by go_simp; try with_reducible rfl)) hHeld ?_
          simp only [List.setIfInBounds_toArray, List.set_cons_zero, List.set_cons_succ]
          refine take_at (i := 24) 27 rfl rfl (by kernel_rfl) (by kernel_rfl) (by kernel_rfl) (fun _ _ _ h => h) (sure_yes (by rfl) (fun w => by go_simp; try with_reducible rfl)) hHeld ?_
          simp only [List.setIfInBounds_toArray, List.set_cons_zero, List.set_cons_succ]
          refine take_at (i := 25) 28 rfl rfl (by kernel_rfl) (by kernel_rfl) (by kernel_rfl) (fun _ _ _ h => h) (str_yieldsR (by rfl) 9 (.tmp 27) rfl ⟨w.heap.size, 4, none⟩ rfl _ Tryz.underlying9 (fun _ h => (evAt_cells h.2).2.2.2.2.1)) hHeld ?_
          simp only [List.setIfInBounds_toArray, List.set_cons_zero, List.set_cons_succ]
          refine wpAnyH_ready (rs := [26]) (by kernel_rfl) (by simp) ?_
          refine AllReadyH.cons rfl (fun CONT hCONT => ?_) AllReadyH.nil
          go_simp
          go_at_call 76
          refine (OW.out _).mono ?_
          rintro x wz ⟨rfl, hb⟩
          dsimp only
          refine hCONT.out _ _ ⟨below_next hHeld.1 hb, evAt_kept hHeld.2 hb⟩ (fun hHeld => ?_)
          clear hCONT CONT hb
          refine take_at (i := 27) 30 rfl rfl (by kernel_rfl) (by kernel_rfl) (by kernel_rfl) (fun _ _ _ h => h) (sure_yes (by rfl) (fun w => by go_simp; try with_reducible rfl)) hHeld ?_
          simp only [List.setIfInBounds_toArray, List.set_cons_zero, List.set_cons_succ]
          refine take_at (i := 28) 31 rfl rfl (by kernel_rfl) (by kernel_rfl) (by kernel_rfl) (fun _ _ _ h => h) (sure_yes (by rfl) (fun w => by go_simp; try with_reducible rfl)) hHeld ?_
          simp only [List.setIfInBounds_toArray, List.set_cons_zero, List.set_cons_succ]
          refine wpAnyH_done (by kernel_rfl) ?_ _
          obtain ⟨-, -, -, c3, -, c5⟩ := evAt_cells hHeld.2
          have BH := Lib.hid hHeld.1
          have EH := Lib.hid hHeld.2
          clear hHeld
          by_cases k1 : e.kind = 1
          · by_cases k3 : 0 ≤ e.size
            · have HM := Lib.hid (show mayE e = decide (e.size ≤ 65536) by rw [HQ.out]; simp [mayH, k1, k3])
              clear hq hg
              go_wp2
              go_ret
              exact ⟨by rw [HM.out]; rfl, BH.out⟩
            · have HM := Lib.hid (show mayE e = false by rw [HQ.out]; simp [mayH, k1, k3])
              clear hq hg
              go_wp2
              go_ret
              exact ⟨by rw [HM.out]; rfl, BH.out⟩
          · have q1 : (e.kind == 1) = false := beq_eq_false_iff_ne.2 k1
            by_cases k2 : e.kind = 2
            · by_cases k3 : e.size = 0
              · have HM := Lib.hid (show mayE e = b by rw [HQ.out]; simp [mayH, k2, k3, HB.out])
                go_wp2_with (first
                  | (refine load_sum_on (by rfl) 28 (.tmp 52) rfl w.heap.size rfl EH.out Tryz.underlying28 sumSize ?_))
                go_ret
                exact ⟨by rw [HM.out]; rfl, BH.out⟩
              · have HM := Lib.hid (show mayE e = false by rw [HQ.out]; simp [mayH, k2, k3])
                have q3 : (e.size == 0) = false := beq_eq_false_iff_ne.2 k3
                clear hq hg
                go_wp2
                go_ret
                exact ⟨by rw [HM.out]; rfl, BH.out⟩
            · have HM := Lib.hid (show mayE e = false by rw [HQ.out]; simp [mayH, k1, k2])
              have q2 : (e.kind == 2) = false := beq_eq_false_iff_ne.2 k2
              clear hq hg
              go_wp2
              go_ret
              exact ⟨by rw [HM.out]; rfl, BH.out⟩
      · have HM := Lib.hid (show mayE e = false by rw [← hpq] at h3; simp [mayE, knownE, h3])
        obtain ⟨G, hG⟩ : ∃ G, G = getV e.deps e.r := ⟨_, rfl⟩
        rw [← hG] at GV h3
        have q5 : (G != p) = true := bne_iff_ne.2 h3
        clear h1 h2 h3 hv hl hp hn hpq hq0 hG
        go_enter Tryz.func39, Tryz.ntmps39
        go_upto_region 1 with fail
        generalize w.alloc (.cells (evC e (.slice ao n cap)) 30 (0, 0)) = W0 at *
        refine wp_region_held_drew (S := fun w' => Below w.heap.size w w' ∧ EvAt w' w.heap.size 30 e (.slice ao n cap)) (by kernel_rfl) ⟨drawS B0.out, E0.out⟩ (fun hHeld => ?_)
        generalize W0.drew = wd at hHeld ⊢
        refine take_at (i := 0) 3 rfl rfl (by kernel_rfl) (by kernel_rfl) (by kernel_rfl) (fun _ _ _ h => h) (sure_yes (by rfl) (fun w => by go_simp; try with_reducible rfl)) hHeld ?_
        simp only [List.setIfInBounds_toArray, List.set_cons_zero, List.set_cons_succ]
        refine take_at (i := 1) 4 rfl rfl (by kernel_rfl) (by kernel_rfl) (by kernel_rfl) (fun _ _ _ h => h) (dot_yields (by rfl) 24 (.tmp 3) rfl ⟨w.heap.size, 0, none⟩ rfl e.r e.q Tryz.underlying24 (by kernel_rfl) (fun _ h => evAt_dot h.2)) hHeld ?_
        simp only [List.setIfInBounds_toArray, List.set_cons_zero, List.set_cons_succ]
        refine wpAnyH_ready (rs := [2]) (by kernel_rfl) (by simp) ?_
        refine AllReadyH.cons rfl (fun CONT hCONT => ?_) AllReadyH.nil
        go_simp
        go_at_call 74
        refine (MD.out _).mono ?_
        rintro x wz ⟨rfl, hb⟩
        dsimp only
        refine hCONT.out _ _ ⟨below_next hHeld.1 hb, evAt_kept hHeld.2 hb⟩ (fun hHeld => ?_)
        clear hCONT CONT hb
        refine take_at (i := 3) 6 rfl rfl (by kernel_rfl) (by kernel_rfl) (by kernel_rfl) (fun _ _ _ h => h) (sure_yes (by rfl) (fun w => by go_simp; try with_reducible rfl)) hHeld ?_
        simp only [List.setIfInBounds_toArray, List.set_cons_zero, List.set_cons_succ]
        refine take_at (i := 4) 7 rfl rfl (by kernel_rfl) (by kernel_rfl) (by kernel_rfl) (fun _ _ _ h => h) (sure_yes (by rfl) (fun w => by go_simp; try with_reducible rfl)) hHeld ?_
        simp only [List.setIfInBounds_toArray, List.set_cons_zero, List.set_cons_succ]
        refine take_at (i := 5) 8 rfl rfl (by kernel_rfl) (by kernel_rfl) (by kernel_rfl) (fun _ _ _ h => h) (sure_yes (by rfl) (fun w => by go_simp; try with_reducible rfl)) hHeld ?_
        simp only [List.setIfInBounds_toArray, List.set_cons_zero, List.set_cons_succ]
        refine take_at (i := 6) 9 rfl rfl (by kernel_rfl) (by kernel_rfl) (by kernel_rfl) (fun _ _ _ h => h) (slice_yieldsR (by rfl) 26 (.tmp 8) rfl ⟨w.heap.size, 2, none⟩ rfl ao n cap Tryz.underlying26 (fun _ h => (evAt_cells h.2).2.2.1)) hHeld ?_
        simp only [List.setIfInBounds_toArray, List.set_cons_zero, List.set_cons_succ]
        refine wpAnyH_ready (rs := [7]) (by kernel_rfl) (by simp) ?_
        refine AllReadyH.cons rfl (fun CONT hCONT => ?_) AllReadyH.nil
        go_simp
        go_at_call 75
        refine (MV.out _ (dots_below HV.out hHeld.1)).mono ?_
        rintro x wz ⟨rfl, hb⟩
        dsimp only
        refine hCONT.out _ _ ⟨below_next hHeld.1 hb, evAt_kept hHeld.2 hb⟩ (fun hHeld => ?_)
        clear hCONT CONT hb
        refine take_at (i := 8) 11 rfl rfl (by kernel_rfl) (by kernel_rfl) (by kernel_rfl) (fun _ _ _ h => h) (sure_yes (by rfl) (fun w => by go_simp; try with_reducible rfl)) hHeld ?_
        simp only [List.setIfInBounds_toArray, List.set_cons_zero, List.set_cons_succ]
        refine take_at (i := 9) 12 rfl rfl (by kernel_rfl) (by kernel_rfl) (by kernel_rfl) (fun _ _ _ h => h) (sure_yes (by rfl) (fun w => by go_simp; try with_reducible rfl)) hHeld ?_
        simp only [List.setIfInBounds_toArray, List.set_cons_zero, List.set_cons_succ]
        refine take_at (i := 10) 13 rfl rfl (by kernel_rfl) (by kernel_rfl) (by kernel_rfl) (fun _ _ _ h => h) (sure_yes (by rfl) (fun w => by go_simp; try with_reducible rfl)) hHeld ?_
        simp only [List.setIfInBounds_toArray, List.set_cons_zero, List.set_cons_succ]
        refine take_at (i := 11) 14 rfl rfl (by kernel_rfl) (by kernel_rfl) (by kernel_rfl) (fun _ _ _ h => h) (sure_yes (by rfl) (fun w => by go_simp; try with_reducible rfl)) hHeld ?_
        simp only [List.setIfInBounds_toArray, List.set_cons_zero, List.set_cons_succ]
        refine take_at (i := 13) 16 rfl rfl (by kernel_rfl) (by kernel_rfl) (by kernel_rfl) (fun _ _ _ h => h) (sure_yes (by rfl) (fun w => by go_simp; try with_reducible rfl)) hHeld ?_
        simp only [List.setIfInBounds_toArray, List.set_cons_zero, List.set_cons_succ]
        refine take_at (i := 14) 17 rfl rfl (by kernel_rfl) (by kernel_rfl) (by kernel_rfl) (fun _ _ _ h => h) (sure_yes (by rfl) (fun w => by go_simp; try with_reducible rfl)) hHeld ?_
        simp only [List.setIfInBounds_toArray, List.set_cons_zero, List.set_cons_succ]
        refine take_at (i := 17) 20 rfl rfl (by kernel_rfl) (by kernel_rfl) (by kernel_rfl) (fun _ _ _ h => h) (sure_yes (by rfl) (fun w => by go_simp; try with_reducible rfl)) hHeld ?_
        simp only [List.setIfInBounds_toArray, List.set_cons_zero, List.set_cons_succ]
        refine take_at (i := 18) 21 rfl rfl (by kernel_rfl) (by kernel_rfl) (by kernel_rfl) (fun _ _ _ h => h) (sure_yes (by rfl) (fun w => by go_simp; try with_reducible rfl)) hHeld ?_
        simp only [List.setIfInBounds_toArray, List.set_cons_zero, List.set_cons_succ]
        refine take_at (i := 12) 15 rfl rfl (by kernel_rfl) (by kernel_rfl) (by kernel_rfl) (fun _ _ _ h => h) (slice_yieldsR (by rfl) 26 (.tmp 14) rfl ⟨w.heap.size, 2, none⟩ rfl ao n cap Tryz.underlying26 (fun _ h => (evAt_cells h.2).2.2.1)) hHeld ?_
        simp only [List.setIfInBounds_toArray, List.set_cons_zero, List.set_cons_succ]
        refine take_at (i := 15) 18 rfl rfl (by kernel_rfl) (by kernel_rfl) (by kernel_rfl) (fun _ _ _ h => h) (cell_yields (by rfl) 3 (.tmp 17) rfl w.heap.size 0 rfl .i64 _ Tryz.underlying3 (fun _ h => (evAt_cells h.2).1)) hHeld ?_
        simp only [List.setIfInBounds_toArray, List.set_cons_zero, List.set_cons_succ]
        refine take_at (i := 19) 22 rfl rfl (by kernel_rfl) (by kernel_rfl) (by kernel_rfl) (fun _ _ _ h => h) (cell_yields (by rfl) 2 (.tmp 21) rfl w.heap.size 1 rfl .i64 _ Tryz.underlying2 (fun _ h => (evAt_cells h.2).2.1)) hHeld ?_
        simp only [List.setIfInBounds_toArray, List.set_cons_zero, List.set_cons_succ]
        refine take_at (i := 20) 23 rfl rfl (by kernel_rfl) (by kernel_rfl) (by kernel_rfl) (fun _ _ _ h => h) (sure_yes (by rfl) (fun w => by go_simp; try with_reducible rfl)) hHeld ?_
        simp only [List.setIfInBounds_toArray, List.set_cons_zero, List.set_cons_succ]
        refine wpAnyH_ready (rs := [16]) (by kernel_rfl) (by simp) ?_
        refine AllReadyH.cons rfl (fun CONT hCONT => ?_) AllReadyH.nil
        go_simp
        go_at_call 53
        refine (GV.out _ (dots_below HV.out hHeld.1)).mono ?_
        rintro x wz ⟨rfl, hb⟩
        dsimp only
        refine hCONT.out _ _ ⟨below_next hHeld.1 hb, evAt_kept hHeld.2 hb⟩ (fun hHeld => ?_)
        clear hCONT CONT hb
        refine take_at (i := 21) 24 rfl rfl (by kernel_rfl) (by kernel_rfl) (by kernel_rfl) (fun _ _ _ h => h) (sure_yes (by rfl) (fun w => by go_simp; try with_reducible rfl)) hHeld ?_
        simp only [List.setIfInBounds_toArray, List.set_cons_zero, List.set_cons_succ]
        refine take_at (i := 22) 25 rfl rfl (by kernel_rfl) (by kernel_rfl) (by kernel_rfl) (fun _ _ _ h => h) (sure_yes (by rfl) (fun w => by go_simp; try with_reducible rfl)) hHeld ?_
        simp only [List.setIfInBounds_toArray, List.set_cons_zero, List.set_cons_succ]
        refine take_at (i := 23) 26 rfl rfl (by kernel_rfl) (by kernel_rfl) (by kernel_rfl) (fun _ _ _ h => h) (sure_yes (by rfl) (fun w => by go_simp; try with_reducible rfl)) hHeld ?_
        simp only [List.setIfInBounds_toArray, List.set_cons_zero, List.set_cons_succ]
        refine take_at (i := 24) 27 rfl rfl (by kernel_rfl) (by kernel_rfl) (by kernel_rfl) (fun _ _ _ h => h) (.inr ⟨by rfl, rfl⟩) hHeld ?_
        simp only [List.setIfInBounds_toArray, List.set_cons_zero, List.set_cons_succ]
        refine take_at (i := 25) 28 rfl rfl (by kernel_rfl) (by kernel_rfl) (by kernel_rfl) (fun _ _ _ h => h) (.inr ⟨by rfl, rfl⟩) hHeld ?_
        simp only [List.setIfInBounds_toArray, List.set_cons_zero, List.set_cons_succ]
        refine take_at (i := 26) 29 rfl rfl (by kernel_rfl) (by kernel_rfl) (by kernel_rfl) (fun _ _ _ h => h) (.inr ⟨by rfl, rfl⟩) hHeld ?_
        simp only [List.setIfInBounds_toArray, List.set_cons_zero, List.set_cons_succ]
        refine take_at (i := 27) 30 rfl rfl (by kernel_rfl) (by kernel_rfl) (by kernel_rfl) (fun _ _ _ h => h) (.inr ⟨by rfl, rfl⟩) hHeld ?_
        simp only [List.setIfInBounds_toArray, List.set_cons_zero, List.set_cons_succ]
        refine take_at (i := 28) 31 rfl rfl (by kernel_rfl) (by kernel_rfl) (by kernel_rfl) (fun _ _ _ h => h) (sure_yes (by rfl) (fun w => by go_simp; try with_reducible rfl)) hHeld ?_
        simp only [List.setIfInBounds_toArray, List.set_cons_zero, List.set_cons_succ]
        refine wpAnyH_done (by kernel_rfl) ?_ _
        go_wp2
        go_ret
        exact ⟨by rw [HM.out]; rfl, hHeld.1⟩
set_option maxRecDepth 100000 in
set_option maxHeartbeats 16000000 in
theorem refKnows_any12 (e f : Ev) (hl : e.deps.length < 2000000) (v u : Value) (w : World) (hv : HasDots w v e.deps) : Calls Tryz.prog 41 #[.agg (evC e v), .agg (evC f u)] w fun x w' => x = .returned (.bool (hasV e.deps f.r f.q)) ∧ Below w.heap.size w w' := by
  obtain ⟨h1, h2, h3⟩ := two_evs w 30 e f v u
  have E1 := Lib.hid h1
  have E2 := Lib.hid h2
  have B0 := Lib.hid h3
  have HH := Lib.hid (refHas_any10 e.deps hl f.r f.q v _ (dots_below hv h3))
  obtain ⟨-, -, c2, -, -, -⟩ := evAt_cells h1
  obtain ⟨ao, cap, rfl⟩ := dots_shape hv e.deps.length rfl
  clear h1 h2 h3 hv hl
  go_enter Tryz.func41, Tryz.ntmps41
  go_upto_region 1 with fail
  generalize (w.alloc (.cells (evC e (.slice ao e.deps.length cap)) 30 (0, 0))).alloc (.cells (evC f u) 30 (0, 0)) = W0 at *
  go_wp2_with (first
    | (refine load_dot10 (by rfl) 24 (.tmp 7) rfl ⟨w.heap.size + 1, 0, none⟩ rfl f.r f.q Tryz.underlying24 (by kernel_rfl) (evAt_dot E2.out) ?_)
    | (go_at_call 77; refine HH.out.mono ?_; rintro x w1 ⟨rfl, hb⟩; have B1 := Lib.hid (below_next B0.out hb); clear hb))
  go_ret
  exact ⟨rfl, B1.out⟩
set_option maxRecDepth 100000 in
set_option maxHeartbeats 16000000 in
theorem refCmp_any12 (e f : Ev) (v u : Value) (w : World) : Calls Tryz.prog 40 #[.agg (evC e v), .agg (evC f u)] w fun x w' => x = .returned (.int .i64 (cmpE e f)) ∧ Below w.heap.size w w' := by
  obtain ⟨h1, h2, h3⟩ := two_evs w 30 e f v u
  have E1 := Lib.hid h1
  have E2 := Lib.hid h2
  have B0 := Lib.hid h3
  obtain ⟨-, -, -, -, d4, -⟩ := evAt_cells h1
  obtain ⟨-, -, -, -, f4, -⟩ := evAt_cells h2
  have CD := Lib.hid (fun w => refCompare_any e.r e.q f.r f.q w)
  have s1 : (str e.path).toList = e.path := str_toList _
  have s2 : (str f.path).toList = f.path := str_toList _
  rcases cmpB_cases e.path f.path with ⟨hc, he⟩ | ⟨hc, hl, hn⟩ | ⟨hc, hl, hn⟩
  · have HR := Lib.hid (show cmpE e f = cmpD e.r e.q f.r f.q by rw [cmpE, if_pos hc])
    have q1 : Op.bytesLess e.path f.path = false := by rw [he]; exact bytesLess_irrefl _
    have q2 : (e.path == f.path) = true := by rw [he]; simp
    clear h1 h2 h3 hc he
    go_enter Tryz.func40, Tryz.ntmps40
    go_upto_region 1 with fail
    generalize (w.alloc (.cells (evC e v) 30 (0, 0))).alloc (.cells (evC f u) 30 (0, 0)) = W0 at *
    go_wp2_with (first
      | (refine load_dot10 (by rfl) 24 (.tmp 15) rfl ⟨w.heap.size, 0, none⟩ rfl e.r e.q Tryz.underlying24 (by kernel_rfl) (evAt_dot E1.out) ?_)
      | (refine load_dot10 (by rfl) 24 (.tmp 17) rfl ⟨w.heap.size + 1, 0, none⟩ rfl f.r f.q Tryz.underlying24 (by kernel_rfl) (evAt_dot E2.out) ?_)
      | (go_at_call 55; refine (CD.out _).mono ?_; rintro x w1 ⟨rfl, hb⟩; have B1 := Lib.hid (below_next B0.out hb); clear hb))
    go_ret
    exact ⟨by rw [HR.out]; rfl, B1.out⟩
  · have HR := Lib.hid (show cmpE e f = -1 by rw [cmpE, if_neg (by omega), hc])
    have q1 : Op.bytesLess e.path f.path = true := hl
    clear h1 h2 h3 hc hl hn
    go_enter Tryz.func40, Tryz.ntmps40
    go_upto_region 1 with fail
    generalize (w.alloc (.cells (evC e v) 30 (0, 0))).alloc (.cells (evC f u) 30 (0, 0)) = W0 at *
    go_wp2_with (first
      | (refine load_dot10 (by rfl) 24 (.tmp 15) rfl ⟨w.heap.size, 0, none⟩ rfl e.r e.q Tryz.underlying24 (by kernel_rfl) (evAt_dot E1.out) ?_)
      | (refine load_dot10 (by rfl) 24 (.tmp 17) rfl ⟨w.heap.size + 1, 0, none⟩ rfl f.r f.q Tryz.underlying24 (by kernel_rfl) (evAt_dot E2.out) ?_)
      | (go_at_call 55; refine (CD.out _).mono ?_; rintro x w1 ⟨rfl, hb⟩; have B1 := Lib.hid (below_next B0.out hb); clear hb))
    go_ret
    exact ⟨by rw [HR.out]; rfl, B0.out⟩
  · have HR := Lib.hid (show cmpE e f = 1 by rw [cmpE, if_neg (by omega), hc])
    have q1 : Op.bytesLess e.path f.path = false := bl_asymm hl
    have q2 : (e.path == f.path) = false := beq_eq_false_iff_ne.2 hn
    clear h1 h2 h3 hc hl hn
    go_enter Tryz.func40, Tryz.ntmps40
    go_upto_region 1 with fail
    generalize (w.alloc (.cells (evC e v) 30 (0, 0))).alloc (.cells (evC f u) 30 (0, 0)) = W0 at *
    go_wp2_with (first
      | (refine load_dot10 (by rfl) 24 (.tmp 15) rfl ⟨w.heap.size, 0, none⟩ rfl e.r e.q Tryz.underlying24 (by kernel_rfl) (evAt_dot E1.out) ?_)
      | (refine load_dot10 (by rfl) 24 (.tmp 17) rfl ⟨w.heap.size + 1, 0, none⟩ rfl f.r f.q Tryz.underlying24 (by kernel_rfl) (evAt_dot E2.out) ?_)
      | (go_at_call 55; refine (CD.out _).mono ?_; rintro x w1 ⟨rfl, hb⟩; have B1 := Lib.hid (below_next B0.out hb); clear hb))
    go_ret
    exact ⟨by rw [HR.out]; rfl, B0.out⟩
end Go.Proofs.YtcdjkjadbhejpaaGreatDoor
namespace Go.Proofs.YtcdjkjadbhejpaaGreatDoor
open Go.RowKit
theorem ev_field0L {w : World} {A : Addr} {e : Ev} {v : Value} (hc : ∀ j u, (evC e v)[j]? = some u → w.cell? (A.add j) = some u) (u : Value) (hu : (evC e v)[0]? = some u) : w.cell? A = some u := by
  have h := hc 0 u hu
  rwa [addr_zeroP] at h
end Go.Proofs.YtcdjkjadbhejpaaGreatDoor
