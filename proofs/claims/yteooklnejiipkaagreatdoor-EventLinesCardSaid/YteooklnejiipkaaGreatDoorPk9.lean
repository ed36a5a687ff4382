/-
Texts that all claims of this seat share, part 9: Ref12, Ref10Text, Ref12Line.
-/
import Derived.Test.YteooklnejiipkaaGreatDoorPk8
namespace Go.Proofs.YteooklnejiipkaaGreatDoor
open Go.RowKit
theorem str_yieldsR {P : Program} {ops : Array Oper} {S : World → Prop} {o : Oper} {a : Act} (hw : Region.wanted o (yielded ops a.tmps) = true) (ty : TypeId) (x : Operand) (ho : o.op = .load ty x)
    (ad : Addr) (hx : a.eval x = .pointer (some ad)) (s : ByteArray) (hu : P.underlying ty = some .string) (hS : ∀ w, S w → w.cell? ad = some (.string s)) : YieldsIf P ops S o (.string s) a :=
  .inl ⟨hw, fun w h => by
    have hc := hS w h
    unfold execOp
    simp [ho, hx, Instr.loadAt, Instr.sureAddr, loadVar, isAgg, run_underlying hu, hc]⟩
theorem slice_yieldsR {P : Program} {ops : Array Oper} {S : World → Prop} {o : Oper} {a : Act} (hw : Region.wanted o (yielded ops a.tmps) = true) (ty : TypeId) (x : Operand) (ho : o.op = .load ty x)
    (A : Addr) (hx : a.eval x = .pointer (some A)) (ao : Option Addr) (n c : Nat) {e : TypeId} (hu : P.underlying ty = some (.slice e)) (hS : ∀ w, S w → w.cell? A = some (.slice ao n c)) : YieldsIf P ops S o (.slice ao n c) a :=
  .inl ⟨hw, fun w h => by
    have hc := hS w h
    unfold execOp
    simp [ho, hx, Instr.loadAt, Instr.sureAddr, loadVar, isAgg, run_underlying hu, hc]⟩
set_option maxRecDepth 100000 in
set_option maxHeartbeats 16000000 in
theorem refMay_any12 (e : Ev) (hl : e.deps.length < 2000000) (hp : e.path.length < 1152921504606846976) (v : Value) (w : World) (hv : HasDots w v e.deps) : Calls Tryz.prog 7 #[.agg (evC e v)] w fun x w' => x = .returned (.bool (mayE e)) ∧ Below w.heap.size w w' := by
  have HV := Lib.hid hv
  obtain ⟨n, hn⟩ : ∃ n, n = e.deps.length := ⟨_, rfl⟩
  obtain ⟨ao, cap, rfl⟩ := dots_shape hv n hn
  have E0 := Lib.hid (box_ev w 29 e (.slice ao n cap))
  have B0 := Lib.hid ((Below.refl w.heap.size w).alloc (Nat.le_refl _) (.cells (evC e (.slice ao n cap)) 29 (0, 0)))
  have MD := Lib.hid (fun w => refMay_any9 e.r e.q w)
  have MV := Lib.hid (fun w hv => refMay_any10 e.deps hl (.slice ao n cap) w hv)
  have GV := Lib.hid (fun w hv => refGet_any10 e.deps hl e.r (.slice ao n cap) w hv)
  have OW := Lib.hid (fun w => refOwn_any e.path hp w)
  cases h1 : mayD e.r e.q with
  | false =>
    have HM := Lib.hid (show mayE e = false by simp [mayE, h1])
    rw [h1] at MD
    clear h1 hv hl hp hn
    go_enter Tryz.func7, Tryz.ntmps7
    go_upto_region 1 with fail
    generalize w.alloc (.cells (evC e (.slice ao n cap)) 29 (0, 0)) = W0 at *
    refine wp_region_held_drew (S := fun w' => Below w.heap.size w w' ∧ EvAt w' w.heap.size 29 e (.slice ao n cap)) (by kernel_rfl) ⟨drawS B0.out, E0.out⟩ (fun hHeld => ?_)
    generalize W0.drew = wd at hHeld ⊢
    refine take_at (i := 0) 3 rfl rfl (by kernel_rfl) (by kernel_rfl) (by kernel_rfl) (fun _ _ _ h => h) (sure_yes (by rfl) (fun w => by go_simp; try with_reducible rfl)) hHeld ?_
    simp only [List.setIfInBounds_toArray, List.set_cons_zero, List.set_cons_succ]
    refine take_at (i := 1) 4 rfl rfl (by kernel_rfl) (by kernel_rfl) (by kernel_rfl) (fun _ _ _ h => h) (dot_yields (by rfl) 23 (.tmp 3) rfl ⟨w.heap.size, 0, none⟩ rfl e.r e.q Tryz.underlying23 (by kernel_rfl) (fun _ h => evAt_dot h.2)) hHeld ?_
    simp only [List.setIfInBounds_toArray, List.set_cons_zero, List.set_cons_succ]
    refine wpAnyH_ready (rs := [2]) (by kernel_rfl) (by simp) ?_
    refine AllReadyH.cons rfl (fun CONT hCONT => ?_) AllReadyH.nil
    go_simp
    go_at_call 22
    refine (MD.out _).mono ?_
    rintro x wz ⟨rfl, hb⟩
    dsimp only
    refine hCONT.out _ _ ⟨below_next hHeld.1 hb, evAt_kept hHeld.2 hb⟩ (fun hHeld => ?_)
    clear hCONT CONT hb
    refine take_at (i := 3) 6 rfl rfl (by kernel_rfl) (by kernel_rfl) (by kernel_rfl) (fun _ _ _ h => h) (sure_yes (by rfl) (fun w => by go_simp; try with_reducible rfl)) hHeld ?_
    simp only [List.setIfInBounds_toArray, List.set_cons_zero, List.set_cons_succ]
    refine take_at (i := 4) 7 rfl rfl (by kernel_rfl) (by kernel_rfl) (by kernel_rfl) (fun _ _ _ h => h) (sure_yes (by rfl) (fun w => by go_simp; try with_reducible rfl)) hHeld ?_
    simp only [List.setIfInBounds_toArray, List.set_cons_zero, List.set_cons_succ]
    refine take_at (i := 5) 8 rfl rfl (by kernel_rfl) (by kernel_rfl) (by kernel_rfl) (fun _ _ _ h => h) (.inr ⟨by rfl, rfl⟩) hHeld ?_
    simp only [List.setIfInBounds_toArray, List.set_cons_zero, List.set_cons_succ]
    refine take_at (i := 6) 9 rfl rfl (by kernel_rfl) (by kernel_rfl) (by kernel_rfl) (fun _ _ _ h => h) (.inr ⟨by rfl, rfl⟩) hHeld ?_
    simp only [List.setIfInBounds_toArray, List.set_cons_zero, List.set_cons_succ]
    refine take_at (i := 7) 10 rfl rfl (by kernel_rfl) (by kernel_rfl) (by kernel_rfl) (fun _ _ _ h => h) (.inr ⟨by rfl, rfl⟩) hHeld ?_
    simp only [List.setIfInBounds_toArray, List.set_cons_zero, List.set_cons_succ]
    refine take_at (i := 8) 11 rfl rfl (by kernel_rfl) (by kernel_rfl) (by kernel_rfl) (fun _ _ _ h => h) (.inr ⟨by rfl, rfl⟩) hHeld ?_
    simp only [List.setIfInBounds_toArray, List.set_cons_zero, List.set_cons_succ]
    refine take_at (i := 9) 12 rfl rfl (by kernel_rfl) (by kernel_rfl) (by kernel_rfl) (fun _ _ _ h => h) (sure_yes (by rfl) (fun w => by go_simp; try with_reducible rfl)) hHeld ?_
    simp only [List.setIfInBounds_toArray, List.set_cons_zero, List.set_cons_succ]
    refine take_at (i := 10) 13 rfl rfl (by kernel_rfl) (by kernel_rfl) (by kernel_rfl) (fun _ _ _ h => h) (sure_yes (by rfl) (fun w => by go_simp; try with_reducible rfl)) hHeld ?_
    simp only [List.setIfInBounds_toArray, List.set_cons_zero, List.set_cons_succ]
    refine take_at (i := 11) 14 rfl rfl (by kernel_rfl) (by kernel_rfl) (by kernel_rfl) (fun _ _ _ h => h) (.inr ⟨by rfl, rfl⟩) hHeld ?_
    simp only [List.setIfInBounds_toArray, List.set_cons_zero, List.set_cons_succ]
    refine take_at (i := 12) 15 rfl rfl (by kernel_rfl) (by kernel_rfl) (by kernel_rfl) (fun _ _ _ h => h) (.inr ⟨by rfl, rfl⟩) hHeld ?_
    simp only [List.setIfInBounds_toArray, List.set_cons_zero, List.set_cons_succ]
    refine take_at (i := 13) 16 rfl rfl (by kernel_rfl) (by kernel_rfl) (by kernel_rfl) (fun _ _ _ h => h) (.inr ⟨by rfl, rfl⟩) hHeld ?_
    simp only [List.setIfInBounds_toArray, List.set_cons_zero, List.set_cons_succ]
    refine take_at (i := 14) 17 rfl rfl (by kernel_rfl) (by kernel_rfl) (by kernel_rfl) (fun _ _ _ h => h) (.inr ⟨by rfl, rfl⟩) hHeld ?_
    simp only [List.setIfInBounds_toArray, List.set_cons_zero, List.set_cons_succ]
    refine take_at (i := 15) 18 rfl rfl (by kernel_rfl) (by kernel_rfl) (by kernel_rfl) (fun _ _ _ h => h) (.inr ⟨by rfl, rfl⟩) hHeld ?_
    simp only [List.setIfInBounds_toArray, List.set_cons_zero, List.set_cons_succ]
    refine take_at (i := 16) 19 rfl rfl (by kernel_rfl) (by kernel_rfl) (by kernel_rfl) (fun _ _ _ h => h) (.inr ⟨by rfl, rfl⟩) hHeld ?_
    simp only [List.setIfInBounds_toArray, List.set_cons_zero, List.set_cons_succ]
    refine take_at (i := 17) 20 rfl rfl (by kernel_rfl) (by kernel_rfl) (by kernel_rfl) (fun _ _ _ h => h) (.inr ⟨by rfl, rfl⟩) hHeld ?_
    simp only [List.setIfInBounds_toArray, List.set_cons_zero, List.set_cons_succ]
    refine take_at (i := 18) 21 rfl rfl (by kernel_rfl) (by kernel_rfl) (by kernel_rfl) (fun _ _ _ h => h) (.inr ⟨by rfl, rfl⟩) hHeld ?_
    simp only [List.setIfInBounds_toArray, List.set_cons_zero, List.set_cons_succ]
    refine take_at (i := 19) 22 rfl rfl (by kernel_rfl) (by kernel_rfl) (by kernel_rfl) (fun _ _ _ h => h) (.inr ⟨by rfl, rfl⟩) hHeld ?_
    simp only [List.setIfInBounds_toArray, List.set_cons_zero, List.set_cons_succ]
    refine take_at (i := 20) 23 rfl rfl (by kernel_rfl) (by kernel_rfl) (by kernel_rfl) (fun _ _ _ h => h) (.inr ⟨by rfl, rfl⟩) hHeld ?_
    simp only [List.setIfInBounds_toArray, List.set_cons_zero, List.set_cons_succ]
    refine take_at (i := 21) 24 rfl rfl (by kernel_rfl) (by kernel_rfl) (by kernel_rfl) (fun _ _ _ h => h) (.inr ⟨by rfl, rfl⟩) hHeld ?_
    simp only [List.setIfInBounds_toArray, List.set_cons_zero, List.set_cons_succ]
    refine take_at (i := 22) 25 rfl rfl (by kernel_rfl) (by kernel_rfl) (by kernel_rfl) (fun _ _ _ h => h) (sure_yes (by rfl) (fun w => by go_simp; try with_reducible rfl)) hHeld ?_
    simp only [List.setIfInBounds_toArray, List.set_cons_zero, List.set_cons_succ]
    refine take_at (i := 23) 26 rfl rfl (by kernel_rfl) (by kernel_rfl) (by kernel_rfl) (fun _ _ _ h => h) (sure_yes (by rfl) (fun w => by go_simp; try with_reducible rfl)) hHeld ?_
    simp only [List.setIfInBounds_toArray, List.set_cons_zero, List.set_cons_succ]
    refine take_at (i := 24) 27 rfl rfl (by kernel_rfl) (by kernel_rfl) (by kernel_rfl) (fun _ _ _ h => h) (.inr ⟨by rfl, rfl⟩) hHeld ?_
    simp only [List.setIfInBounds_toArray, List.set_cons_zero, List.set_cons_succ]
    refine take_at (i := 25) 28 rfl rfl (by kernel_rfl) (by kernel_rfl) (by kernel_rfl) (fun _ _ _ h => h) (.inr ⟨by rfl, rfl⟩) hHeld ?_
    simp only [List.setIfInBounds_toArray, List.set_cons_zero, List.set_cons_succ]
    refine take_at (i := 26) 29 rfl rfl (by kernel_rfl) (by kernel_rfl) (by kernel_rfl) (fun _ _ _ h => h) (.inr ⟨by rfl, rfl⟩) hHeld ?_
    simp only [List.setIfInBounds_toArray, List.set_cons_zero, List.set_cons_succ]
    refine take_at (i := 27) 30 rfl rfl (by kernel_rfl) (by kernel_rfl) (by kernel_rfl) (fun _ _ _ h => h) (.inr ⟨by rfl, rfl⟩) hHeld ?_
    simp only [List.setIfInBounds_toArray, List.set_cons_zero, List.set_cons_succ]
    refine take_at (i := 28) 31 rfl rfl (by kernel_rfl) (by kernel_rfl) (by kernel_rfl) (fun _ _ _ h => h) (sure_yes (by rfl) (fun w => by go_simp; try with_reducible rfl)) hHeld ?_
    simp only [List.setIfInBounds_toArray, List.set_cons_zero, List.set_cons_succ]
    refine wpAnyH_done (by kernel_rfl) ?_ _
    go_wp2
    go_ret
    exact ⟨by rw [HM.out]; rfl, hHeld.1⟩
  | true =>
    obtain ⟨p, hpq⟩ : ∃ p, e.q - 1 = p := ⟨_, rfl⟩
    have hq0 := mayT_bd (d := (e.r, e.q)) h1
    have hw : IntKind.i64.wrap (e.q - 1) = p := by dsimp only at hq0; rw [hpq, IntKind.wrap_i64]; omega
    rw [h1] at MD
    cases h2 : mayV e.deps with
    | false =>
      have HM := Lib.hid (show mayE e = false by simp [mayE, knownE, h2])
      rw [h2] at MV
      clear h1 h2 hv hl hp hn hpq hq0 hw
      go_enter Tryz.func7, Tryz.ntmps7
      go_upto_region 1 with fail
      generalize w.alloc (.cells (evC e (.slice ao n cap)) 29 (0, 0)) = W0 at *
      refine wp_region_held_drew (S := fun w' => Below w.heap.size w w' ∧ EvAt w' w.heap.size 29 e (.slice ao n cap)) (by kernel_rfl) ⟨drawS B0.out, E0.out⟩ (fun hHeld => ?_)
      generalize W0.drew = wd at hHeld ⊢
      refine take_at (i := 0) 3 rfl rfl (by kernel_rfl) (by kernel_rfl) (by kernel_rfl) (fun _ _ _ h => h) (sure_yes (by rfl) (fun w => by go_simp; try with_reducible rfl)) hHeld ?_
      simp only [List.setIfInBounds_toArray, List.set_cons_zero, List.set_cons_succ]
      refine take_at (i := 1) 4 rfl rfl (by kernel_rfl) (by kernel_rfl) (by kernel_rfl) (fun _ _ _ h => h) (dot_yields (by rfl) 23 (.tmp 3) rfl ⟨w.heap.size, 0, none⟩ rfl e.r e.q Tryz.underlying23 (by kernel_rfl) (fun _ h => evAt_dot h.2)) hHeld ?_
      simp only [List.setIfInBounds_toArray, List.set_cons_zero, List.set_cons_succ]
      refine wpAnyH_ready (rs := [2]) (by kernel_rfl) (by simp) ?_
      refine AllReadyH.cons rfl (fun CONT hCONT => ?_) AllReadyH.nil
      go_simp
      go_at_call 22
      refine (MD.out _).mono ?_
      rintro x wz ⟨rfl, hb⟩
      dsimp only
      refine hCONT.out _ _ ⟨below_next hHeld.1 hb, evAt_kept hHeld.2 hb⟩ (fun hHeld => ?_)
      clear hCONT CONT hb
      refine take_at (i := 3) 6 rfl rfl (by kernel_rfl) (by kernel_rfl) (by kernel_rfl) (fun _ _ _ h => h) (sure_yes (by rfl) (fun w => by go_simp; try with_reducible rfl)) hHeld ?_
      simp only [List.setIfInBounds_toArray, List.set_cons_zero, List.set_cons_succ]
      refine take_at (i := 4) 7 rfl rfl (by kernel_rfl) (by kernel_rfl) (by kernel_rfl) (fun _ _ _ h => h) (sure_yes (by rfl) (fun w => by go_simp; try with_reducible rfl)) hHeld ?_
      simp only [List.setIfInBounds_toArray, List.set_cons_zero, List.set_cons_succ]
      refine take_at (i := 5) 8 rfl rfl (by kernel_rfl) (by kernel_rfl) (by kernel_rfl) (fun _ _ _ h => h) (sure_yes (by rfl) (fun w => by go_simp; try with_reducible rfl)) hHeld ?_
      simp only [List.setIfInBounds_toArray, List.set_cons_zero, List.set_cons_succ]
      refine take_at (i := 6) 9 rfl rfl (by kernel_rfl) (by kernel_rfl) (by kernel_rfl) (fun _ _ _ h => h) (slice_yieldsR (by rfl) 25 (.tmp 8) rfl ⟨w.heap.size, 2, none⟩ rfl ao n cap Tryz.underlying25 (fun _ h => (evAt_cells h.2).2.2.1)) hHeld ?_
      simp only [List.setIfInBounds_toArray, List.set_cons_zero, List.set_cons_succ]
      refine wpAnyH_ready (rs := [7]) (by kernel_rfl) (by simp) ?_
      refine AllReadyH.cons rfl (fun CONT hCONT => ?_) AllReadyH.nil
      go_simp
      go_at_call 23
      refine (MV.out _ (dots_below HV.out hHeld.1)).mono ?_
      rintro x wz ⟨rfl, hb⟩
      dsimp only
      refine hCONT.out _ _ ⟨below_next hHeld.1 hb, evAt_kept hHeld.2 hb⟩ (fun hHeld => ?_)
      clear hCONT CONT hb
      refine take_at (i := 8) 11 rfl rfl (by kernel_rfl) (by kernel_rfl) (by kernel_rfl) (fun _ _ _ h => h) (sure_yes (by rfl) (fun w => by go_simp; try with_reducible rfl)) hHeld ?_
      simp only [List.setIfInBounds_toArray, List.set_cons_zero, List.set_cons_succ]
      refine take_at (i := 9) 12 rfl rfl (by kernel_rfl) (by kernel_rfl) (by kernel_rfl) (fun _ _ _ h => h) (sure_yes (by rfl) (fun w => by go_simp; try with_reducible rfl)) hHeld ?_
      simp only [List.setIfInBounds_toArray, List.set_cons_zero, List.set_cons_succ]
      refine take_at (i := 10) 13 rfl rfl (by kernel_rfl) (by kernel_rfl) (by kernel_rfl) (fun _ _ _ h => h) (sure_yes (by rfl) (fun w => by go_simp; try with_reducible rfl)) hHeld ?_
      simp only [List.setIfInBounds_toArray, List.set_cons_zero, List.set_cons_succ]
      refine take_at (i := 11) 14 rfl rfl (by kernel_rfl) (by kernel_rfl) (by kernel_rfl) (fun _ _ _ h => h) (.inr ⟨by rfl, rfl⟩) hHeld ?_
      simp only [List.setIfInBounds_toArray, List.set_cons_zero, List.set_cons_succ]
      refine take_at (i := 12) 15 rfl rfl (by kernel_rfl) (by kernel_rfl) (by kernel_rfl) (fun _ _ _ h => h) (.inr ⟨by rfl, rfl⟩) hHeld ?_
      simp only [List.setIfInBounds_toArray, List.set_cons_zero, List.set_cons_succ]
      refine take_at (i := 13) 16 rfl rfl (by kernel_rfl) (by kernel_rfl) (by kernel_rfl) (fun _ _ _ h => h) (.inr ⟨by rfl, rfl⟩) hHeld ?_
      simp only [List.setIfInBounds_toArray, List.set_cons_zero, List.set_cons_succ]
      refine take_at (i := 14) 17 rfl rfl (by kernel_rfl) (by kernel_rfl) (by kernel_rfl) (fun _ _ _ h => h) (.inr ⟨by rfl, rfl⟩) hHeld ?_
      simp only [List.setIfInBounds_toArray, List.set_cons_zero, List.set_cons_succ]
      refine take_at (i := 15) 18 rfl rfl (by kernel_rfl) (by kernel_rfl) (by kernel_rfl) (fun _ _ _ h => h) (.inr ⟨by rfl, rfl⟩) hHeld ?_
      simp only [List.setIfInBounds_toArray, List.set_cons_zero, List.set_cons_succ]
      refine take_at (i := 16) 19 rfl rfl (by kernel_rfl) (by kernel_rfl) (by kernel_rfl) (fun _ _ _ h => h) (.inr ⟨by rfl, rfl⟩) hHeld ?_
      simp only [List.setIfInBounds_toArray, List.set_cons_zero, List.set_cons_succ]
      refine take_at (i := 17) 20 rfl rfl (by kernel_rfl) (by kernel_rfl) (by kernel_rfl) (fun _ _ _ h => h) (.inr ⟨by rfl, rfl⟩) hHeld ?_
      simp only [List.setIfInBounds_toArray, List.set_cons_zero, List.set_cons_succ]
      refine take_at (i := 18) 21 rfl rfl (by kernel_rfl) (by kernel_rfl) (by kernel_rfl) (fun _ _ _ h => h) (.inr ⟨by rfl, rfl⟩) hHeld ?_
      simp only [List.setIfInBounds_toArray, List.set_cons_zero, List.set_cons_succ]
      refine take_at (i := 19) 22 rfl rfl (by kernel_rfl) (by kernel_rfl) (by kernel_rfl) (fun _ _ _ h => h) (.inr ⟨by rfl, rfl⟩) hHeld ?_
      simp only [List.setIfInBounds_toArray, List.set_cons_zero, List.set_cons_succ]
      refine take_at (i := 20) 23 rfl rfl (by kernel_rfl) (by kernel_rfl) (by kernel_rfl) (fun _ _ _ h => h) (.inr ⟨by rfl, rfl⟩) hHeld ?_
      simp only [List.setIfInBounds_toArray, List.set_cons_zero, List.set_cons_succ]
      refine take_at (i := 21) 24 rfl rfl (by kernel_rfl) (by kernel_rfl) (by kernel_rfl) (fun _ _ _ h => h) (.inr ⟨by rfl, rfl⟩) hHeld ?_
      simp only [List.setIfInBounds_toArray, List.set_cons_zero, List.set_cons_succ]
      refine take_at (i := 22) 25 rfl rfl (by kernel_rfl) (by kernel_rfl) (by kernel_rfl) (fun _ _ _ h => h) (sure_yes (by rfl) (fun w => by go_simp; try with_reducible rfl)) hHeld ?_
      simp only [List.setIfInBounds_toArray, List.set_cons_zero, List.set_cons_succ]
      refine take_at (i := 23) 26 rfl rfl (by kernel_rfl) (by kernel_rfl) (by kernel_rfl) (fun _ _ _ h => h) (sure_yes (by rfl) (fun w => by go_simp; try with_reducible rfl)) hHeld ?_
      simp only [List.setIfInBounds_toArray, List.set_cons_zero, List.set_cons_succ]
      refine take_at (i := 24) 27 rfl rfl (by kernel_rfl) (by kernel_rfl) (by kernel_rfl) (fun _ _ _ h => h) (.inr ⟨by rfl, rfl⟩) hHeld ?_
      simp only [List.setIfInBounds_toArray, List.set_cons_zero, List.set_cons_succ]
      refine take_at (i := 25) 28 rfl rfl (by kernel_rfl) (by kernel_rfl) (by kernel_rfl) (fun _ _ _ h => h) (.inr ⟨by rfl, rfl⟩) hHeld ?_
      simp only [List.setIfInBounds_toArray, List.set_cons_zero, List.set_cons_succ]
      refine take_at (i := 26) 29 rfl rfl (by kernel_rfl) (by kernel_rfl) (by kernel_rfl) (fun _ _ _ h => h) (.inr ⟨by rfl, rfl⟩) hHeld ?_
      simp only [List.setIfInBounds_toArray, List.set_cons_zero, List.set_cons_succ]
      refine take_at (i := 27) 30 rfl rfl (by kernel_rfl) (by kernel_rfl) (by kernel_rfl) (fun _ _ _ h => h) (.inr ⟨by rfl, rfl⟩) hHeld ?_
      simp only [List.setIfInBounds_toArray, List.set_cons_zero, List.set_cons_succ]
      refine take_at (i := 28) 31 rfl rfl (by kernel_rfl) (by kernel_rfl) (by kernel_rfl) (fun _ _ _ h => h) (sure_yes (by rfl) (fun w => by go_simp; try with_reducible rfl)) hHeld ?_
      simp only [List.setIfInBounds_toArray, List.set_cons_zero, List.set_cons_succ]
      refine wpAnyH_done (by kernel_rfl) ?_ _
      go_wp2
      go_ret
      exact ⟨by rw [HM.out]; rfl, hHeld.1⟩
    | true =>
      rw [h2] at MV
      by_cases h3 : getV e.deps e.r = p
      · rw [h3] at GV
        have q5 : (p != p) = false := by simp
        cases h4 : ownP e.path with
        | false =>
          have HM := Lib.hid (show mayE e = false by simp [mayE, h4])
          rw [h4] at OW
          clear h1 h2 h3 h4 hv hl hp hn hpq hq0
          go_enter Tryz.func7, Tryz.ntmps7
          go_upto_region 1 with fail
          generalize w.alloc (.cells (evC e (.slice ao n cap)) 29 (0, 0)) = W0 at *
          refine wp_region_held_drew (S := fun w' => Below w.heap.size w w' ∧ EvAt w' w.heap.size 29 e (.slice ao n cap)) (by kernel_rfl) ⟨drawS B0.out, E0.out⟩ (fun hHeld => ?_)
          generalize W0.drew = wd at hHeld ⊢
          refine take_at (i := 0) 3 rfl rfl (by kernel_rfl) (by kernel_rfl) (by kernel_rfl) (fun _ _ _ h => h) (sure_yes (by rfl) (fun w => by go_simp; try with_reducible rfl)) hHeld ?_
          simp only [List.setIfInBounds_toArray, List.set_cons_zero, List.set_cons_succ]
          refine take_at (i := 1) 4 rfl rfl (by kernel_rfl) (by kernel_rfl) (by kernel_rfl) (fun _ _ _ h => h) (dot_yields (by rfl) 23 (.tmp 3) rfl ⟨w.heap.size, 0, none⟩ rfl e.r e.q Tryz.underlying23 (by kernel_rfl) (fun _ h => evAt_dot h.2)) hHeld ?_
          simp only [List.setIfInBounds_toArray, List.set_cons_zero, List.set_cons_succ]
          refine wpAnyH_ready (rs := [2]) (by kernel_rfl) (by simp) ?_
          refine AllReadyH.cons rfl (fun CONT hCONT => ?_) AllReadyH.nil
          go_simp
          go_at_call 22
          refine (MD.out _).mono ?_
          rintro x wz ⟨rfl, hb⟩
          dsimp only
          refine hCONT.out _ _ ⟨below_next hHeld.1 hb, evAt_kept hHeld.2 hb⟩ (fun hHeld => ?_)
          clear hCONT CONT hb
          refine take_at (i := 3) 6 rfl rfl (by kernel_rfl) (by kernel_rfl) (by kernel_rfl) (fun _ _ _ h => h) (sure_yes (by rfl) (fun w => by go_simp; try with_reducible rfl)) hHeld ?_
          simp only [List.setIfInBounds_toArray, List.set_cons_zero, List.set_cons_succ]
          refine take_at (i := 4) 7 rfl rfl (by kernel_rfl) (by kernel_rfl) (by kernel_rfl) (fun _ _ _ h => h) (sure_yes (by rfl) (fun w => by go_simp; try with_reducible rfl)) hHeld ?_
          simp only [List.setIfInBounds_toArray, List.set_cons_zero, List.set_cons_succ]
          refine take_at (i := 5) 8 rfl rfl (by kernel_rfl) (by kernel_rfl) (by kernel_rfl) (fun _ _ _ h => h) (sure_yes (by rfl) (fun w => by go_simp; try with_reducible rfl)) hHeld ?_
          simp only [List.setIfInBounds_toArray, List.set_cons_zero, List.set_cons_succ]
          refine take_at (i := 6) 9 rfl rfl (by kernel_rfl) (by kernel_rfl) (by kernel_rfl) (fun _ _ _ h => h) (slice_yieldsR (by rfl) 25 (.tmp 8) rfl ⟨w.heap.size, 2, none⟩ rfl ao n cap Tryz.underlying25 (fun _ h => (evAt_cells h.2).2.2.1)) hHeld ?_
          simp only [List.setIfInBounds_toArray, List.set_cons_zero, List.set_cons_succ]
          refine wpAnyH_ready (rs := [7]) (by kernel_rfl) (by simp) ?_
          refine AllReadyH.cons rfl (fun CONT hCONT => ?_) AllReadyH.nil
          go_simp
          go_at_call 23
          refine (MV.out _ (dots_below HV.out hHeld.1)).mono ?_
          rintro x wz ⟨rfl, hb⟩
          dsimp only
          refine hCONT.out _ _ ⟨below_next hHeld.1 hb, evAt_kept hHeld.2 hb⟩ (fun hHeld => ?_)
          clear hCONT CONT hb
          refine take_at (i := 8) 11 rfl rfl (by kernel_rfl) (by kernel_rfl) (by kernel_rfl) (fun _ _ _ h => h) (sure_yes (by rfl) (fun w => by go_simp; try with_reducible rfl)) hHeld ?_
          simp only [List.setIfInBounds_toArray, List.set_cons_zero, List.set_cons_succ]
          refine take_at (i := 9) 12 rfl rfl (by kernel_rfl) (by kernel_rfl) (by kernel_rfl) (fun _ _ _ h => h) (sure_yes (by rfl) (fun w => by go_simp; try with_reducible rfl)) hHeld ?_
          simp only [List.setIfInBounds_toArray, List.set_cons_zero, List.set_cons_succ]
          refine take_at (i := 10) 13 rfl rfl (by kernel_rfl) (by kernel_rfl) (by kernel_rfl) (fun _ _ _ h => h) (sure_yes (by rfl) (fun w => by go_simp; try with_reducible rfl)) hHeld ?_
          simp only [List.setIfInBounds_toArray, List.set_cons_zero, List.set_cons_succ]
          refine take_at (i := 11) 14 rfl rfl (by kernel_rfl) (by kernel_rfl) (by kernel_rfl) (fun _ _ _ h => h) (sure_yes (by rfl) (fun w => by go_simp; try with_reducible rfl)) hHeld ?_
          simp only [List.setIfInBounds_toArray, List.set_cons_zero, List.set_cons_succ]
          refine take_at (i := 13) 16 rfl rfl (by kernel_rfl) (by kernel_rfl) (by kernel_rfl) (fun _ _ _ h => h) (sure_yes (by rfl) (fun w => by go_simp; try with_reducible rfl)) hHeld ?_
          simp only [List.setIfInBounds_toArray, List.set_cons_zero, List.set_cons_succ]
          refine take_at (i := 14) 17 rfl rfl (by kernel_rfl) (by kernel_rfl) (by kernel_rfl) (fun _ _ _ h => h) (sure_yes (by rfl) (fun w => by go_simp; try with_reducible rfl)) hHeld ?_
          simp only [List.setIfInBounds_toArray, List.set_cons_zero, List.set_cons_succ]
          refine take_at (i := 17) 20 rfl rfl (by kernel_rfl) (by kernel_rfl) (by kernel_rfl) (fun _ _ _ h => h) (sure_yes (by rfl) (fun w => by go_simp; try with_reducible rfl)) hHeld ?_
          simp only [List.setIfInBounds_toArray, List.set_cons_zero, List.set_cons_succ]
          refine take_at (i := 18) 21 rfl rfl (by kernel_rfl) (by kernel_rfl) (by kernel_rfl) (fun _ _ _ h => h) (sure_yes (by rfl) (fun w => by go_simp; try with_reducible rfl)) hHeld ?_
          simp only [List.setIfInBounds_toArray, List.set_cons_zero, List.set_cons_succ]
          refine take_at (i := 12) 15 rfl rfl (by kernel_rfl) (by kernel_rfl) (by kernel_rfl) (fun _ _ _ h => h) (slice_yieldsR (by rfl) 25 (.tmp 14) rfl ⟨w.heap.size, 2, none⟩ rfl ao n cap Tryz.underlying25 (fun _ h => (evAt_cells h.2).2.2.1)) hHeld ?_
          simp only [List.setIfInBounds_toArray, List.set_cons_zero, List.set_cons_succ]
          refine take_at (i := 15) 18 rfl rfl (by kernel_rfl) (by kernel_rfl) (by kernel_rfl) (fun _ _ _ h => h) (cell_yields (by rfl) 3 (.tmp 17) rfl w.heap.size 0 rfl .i64 _ Tryz.underlying3 (fun _ h => (evAt_cells h.2).1)) hHeld ?_
          simp only [List.setIfInBounds_toArray, List.set_cons_zero, List.set_cons_succ]
          refine take_at (i := 19) 22 rfl rfl (by kernel_rfl) (by kernel_rfl) (by kernel_rfl) (fun _ _ _ h => h) (cell_yields (by rfl) 2 (.tmp 21) rfl w.heap.size 1 rfl .i64 _ Tryz.underlying2 (fun _ h => (evAt_cells h.2).2.1)) hHeld ?_
          simp only [List.setIfInBounds_toArray, List.set_cons_zero, List.set_cons_succ]
          refine take_at (i := 20) 23 rfl rfl (by kernel_rfl) (by kernel_rfl) (by kernel_rfl) (fun _ _ _ h => h) (sure_yes (by rfl) (fun w => by go_simp; try with_reducible rfl)) hHeld ?_
          simp only [List.setIfInBounds_toArray, List.set_cons_zero, List.set_cons_succ]
          refine wpAnyH_ready (rs := [16]) (by kernel_rfl) (by simp) ?_
          refine AllReadyH.cons rfl (fun CONT hCONT => ?_) AllReadyH.nil
          go_simp
          go_at_call 24
          refine (GV.out _ (dots_below HV.out hHeld.1)).mono ?_
          rintro x wz ⟨rfl, hb⟩
          dsimp only
          refine hCONT.out _ _ ⟨below_next hHeld.1 hb, evAt_kept hHeld.2 hb⟩ (fun hHeld => ?_)
          clear hCONT CONT hb
          refine take_at (i := 21) 24 rfl rfl (by kernel_rfl) (by kernel_rfl) (by kernel_rfl) (fun _ _ _ h => h) (sure_yes (by rfl) (fun w => by go_simp; try with_reducible rfl)) hHeld ?_
          simp only [List.setIfInBounds_toArray, List.set_cons_zero, List.set_cons_succ]
          refine take_at (i := 22) 25 rfl rfl (by kernel_rfl) (by kernel_rfl) (by kernel_rfl) (fun _ _ _ h => h) (sure_yes (by rfl) (fun w => by go_simp; try with_reducible rfl)) hHeld ?_
          simp only [List.setIfInBounds_toArray, List.set_cons_zero, List.set_cons_succ]
          refine take_at (i := 23) 26 rfl rfl (by kernel_rfl) (by kernel_rfl) (by kernel_rfl) (fun _ _ _ h => h) (sure_yes (by rfl) (fun w => by go_simp; try with_reducible rfl)) hHeld ?_
          simp only [List.setIfInBounds_toArray, List.set_cons_zero, List.set_cons_succ]
          refine take_at (i := 24) 27 rfl rfl (by kernel_rfl) (by kernel_rfl) (by kernel_rfl) (fun _ _ _ h => h) (sure_yes (by rfl) (fun w => by go_simp; try with_reducible rfl)) hHeld ?_
          simp only [List.setIfInBounds_toArray, List.set_cons_zero, List.set_cons_succ]
          refine take_at (i := 25) 28 rfl rfl (by kernel_rfl) (by kernel_rfl) (by kernel_rfl) (fun _ _ _ h => h) (str_yieldsR (by rfl) 9 (.tmp 27) rfl ⟨w.heap.size, 4, none⟩ rfl _ Tryz.underlying9 (fun _ h => (evAt_cells h.2).2.2.2.2.1)) hHeld ?_
          simp only [List.setIfInBounds_toArray, List.set_cons_zero, List.set_cons_succ]
          refine wpAnyH_ready (rs := [26]) (by kernel_rfl) (by simp) ?_
          refine AllReadyH.cons rfl (fun CONT hCONT => ?_) AllReadyH.nil
          go_simp
          go_at_call 25
          refine (OW.out _).mono ?_
          rintro x wz ⟨rfl, hb⟩
          dsimp only
          refine hCONT.out _ _ ⟨below_next hHeld.1 hb, evAt_kept hHeld.2 hb⟩ (fun hHeld => ?_)
          clear hCONT CONT hb
          refine take_at (i := 27) 30 rfl rfl (by kernel_rfl) (by kernel_rfl) (by kernel_rfl) (fun _ _ _ h => h) (sure_yes (by rfl) (fun w => by go_simp; try with_reducible rfl)) hHeld ?_
          simp only [List.setIfInBounds_toArray, List.set_cons_zero, List.set_cons_succ]
          refine take_at (i := 28) 31 rfl rfl (by kernel_rfl) (by kernel_rfl) (by kernel_rfl) (fun _ _ _ h => h) (sure_yes (by rfl) (fun w => by go_simp; try with_reducible rfl)) hHeld ?_
          simp only [List.setIfInBounds_toArray, List.set_cons_zero, List.set_cons_succ]
          refine wpAnyH_done (by kernel_rfl) ?_ _
          go_wp2
          go_ret
          exact ⟨by rw [HM.out]; rfl, hHeld.1⟩
        | true =>
          have HQ := Lib.hid (show mayE e = mayH e by rw [← hpq] at h3; simp [mayE, knownE, h1, h2, h3, h4])
          obtain ⟨b, hb⟩ : ∃ b, sameRow 32 e.sum zeroF = b := ⟨_, rfl⟩
          have HB := Lib.hid hb
          have hq := eql_rowV (P := Tryz.prog) Tryz.underlying27 Tryz.underlying5 cellsByte e.sum zeroF hb
          have hg := guard_rowV (P := Tryz.prog) digestGuard (.tmp 53) (.tmp 54) .u8 32 e.sum zeroF
          rw [zero_row] at hq hg
          rw [h4] at OW
          clear h1 h2 h3 h4 hv hl hp hn hpq hq0 hb
          go_enter Tryz.func7, Tryz.ntmps7
          go_upto_region 1 with fail
          generalize w.alloc (.cells (evC e (.slice ao n cap)) 29 (0, 0)) = W0 at *
          refine wp_region_held_drew (S := fun w' => Below w.heap.size w w' ∧ EvAt w' w.heap.size 29 e (.slice ao n cap)) (by kernel_rfl) ⟨drawS B0.out, E0.out⟩ (fun hHeld => ?_)
          generalize W0.drew = wd at hHeld ⊢
          refine take_at (i := 0) 3 rfl rfl (by kernel_rfl) (by kernel_rfl) (by kernel_rfl) (fun _ _ _ h => h) (sure_yes (by rfl) (fun w => by go_simp; try with_reducible rfl)) hHeld ?_
          simp only [List.setIfInBounds_toArray, List.set_cons_zero, List.set_cons_succ]
          refine take_at (i := 1) 4 rfl rfl (by kernel_rfl) (by kernel_rfl) (by kernel_rfl) (fun _ _ _ h => h) (dot_yields (by rfl) 23 (.tmp 3) rfl ⟨w.heap.size, 0, none⟩ rfl e.r e.q Tryz.underlying23 (by kernel_rfl) (fun _ h => evAt_dot h.2)) hHeld ?_
          simp only [List.setIfInBounds_toArray, List.set_cons_zero, List.set_cons_succ]
          refine wpAnyH_ready (rs := [2]) (by kernel_rfl) (by simp) ?_
          refine AllReadyH.cons rfl (fun CONT hCONT => ?_) AllReadyH.nil
          go_simp
          go_at_call 22
          refine (MD.out _).mono ?_
          rintro x wz ⟨rfl, hb⟩
          dsimp only
          refine hCONT.out _ _ ⟨below_next hHeld.1 hb, evAt_kept hHeld.2 hb⟩ (fun hHeld => ?_)
          clear hCONT CONT hb
          refine take_at (i := 3) 6 rfl rfl (by kernel_rfl) (by kernel_rfl) (by kernel_rfl) (fun _ _ _ h => h) (sure_yes (by rfl) (fun w => by go_simp; try with_reducible rfl)) hHeld ?_
          simp only [List.setIfInBounds_toArray, List.set_cons_zero, List.set_cons_succ]
          refine take_at (i := 4) 7 rfl rfl (by kernel_rfl) (by kernel_rfl) (by kernel_rfl) (fun _ _ _ h => h) (sure_yes (by rfl) (fun w => by go_simp; try with_reducible rfl)) hHeld ?_
          simp only [List.setIfInBounds_toArray, List.set_cons_zero, List.set_cons_succ]
          refine take_at (i := 5) 8 rfl rfl (by kernel_rfl) (by kernel_rfl) (by kernel_rfl) (fun _ _ _ h => h) (sure_yes (by rfl) (fun w => by go_simp; try with_reducible rfl)) hHeld ?_
          simp only [List.setIfInBounds_toArray, List.set_cons_zero, List.set_cons_succ]
          refine take_at (i := 6) 9 rfl rfl (by kernel_rfl) (by kernel_rfl) (by kernel_rfl) (fun _ _ _ h => h) (slice_yieldsR (by rfl) 25 (.tmp 8) rfl ⟨w.heap.size, 2, none⟩ rfl ao n cap Tryz.underlying25 (fun _ h => (evAt_cells h.2).2.2.1)) hHeld ?_
          simp only [List.setIfInBounds_toArray, List.set_cons_zero, List.set_cons_succ]
          refine wpAnyH_ready (rs := [7]) (by kernel_rfl) (by simp) ?_
          refine AllReadyH.cons rfl (fun CONT hCONT => ?_) AllReadyH.nil
          go_simp
          go_at_call 23
          refine (MV.out _ (dots_below HV.out hHeld.1)).mono ?_
          rintro x wz ⟨rfl, hb⟩
          dsimp only
          refine hCONT.out _ _ ⟨below_next hHeld.1 hb, evAt_kept hHeld.2 hb⟩ (fun hHeld => ?_)
          clear hCONT CONT hb
          refine take_at (i := 8) 11 rfl rfl (by kernel_rfl) (by kernel_rfl) (by kernel_rfl) (fun _ _ _ h => h) (sure_yes (by rfl) (fun w => by go_simp; try with_reducible rfl)) hHeld ?_
          simp only [List.setIfInBounds_toArray, List.set_cons_zero, List.set_cons_succ]
          refine take_at (i := 9) 12 rfl rfl (by kernel_rfl) (by kernel_rfl) (by kernel_rfl) (fun _ _ _ h => h) (sure_yes (by rfl) (fun w => by go_simp; try with_reducible rfl)) hHeld ?_
          simp only [List.setIfInBounds_toArray, List.set_cons_zero, List.set_cons_succ]
          refine take_at (i := 10) 13 rfl rfl (by kernel_rfl) (by kernel_rfl) (by kernel_rfl) (fun _ _ _ h => h) (sure_yes (by rfl) (fun w => by go_simp; try with_reducible rfl)) hHeld ?_
          simp only [List.setIfInBounds_toArray, List.set_cons_zero, List.set_cons_succ]
          refine take_at (i := 11) 14 rfl rfl (by kernel_rfl) (by kernel_rfl) (by kernel_rfl) (fun _ _ _ h => h) (sure_yes (by rfl) (fun w => by go_simp; try with_reducible rfl)) hHeld ?_
          simp only [List.setIfInBounds_toArray, List.set_cons_zero, List.set_cons_succ]
          refine take_at (i := 13) 16 rfl rfl (by kernel_rfl) (by kernel_rfl) (by kernel_rfl) (fun _ _ _ h => h) (sure_yes (by rfl) (fun w => by go_simp; try with_reducible rfl)) hHeld ?_
          simp only [List.setIfInBounds_toArray, List.set_cons_zero, List.set_cons_succ]
          refine take_at (i := 14) 17 rfl rfl (by kernel_rfl) (by kernel_rfl) (by kernel_rfl) (fun _ _ _ h => h) (sure_yes (by rfl) (fun w => by go_simp; try with_reducible rfl)) hHeld ?_
          simp only [List.setIfInBounds_toArray, List.set_cons_zero, List.set_cons_succ]
          refine take_at (i := 17) 20 rfl rfl (by kernel_rfl) (by kernel_rfl) (by kernel_rfl) (fun _ _ _ h => h) (sure_yes (by rfl) (fun w => by go_simp; try with_reducible rfl)) hHeld ?_
          simp only [List.setIfInBounds_toArray, List.set_cons_zero, List.set_cons_succ]
          refine take_at (i := 18) 21 rfl rfl (by kernel_rfl) (by kernel_rfl) (by kernel_rfl) (fun _ _ _ h => h) (sure_yes (by rfl) (fun w => by go_simp; try with_reducible rfl)) hHeld ?_
          simp only [List.setIfInBounds_toArray, List.set_cons_zero, List.set_cons_succ]
          refine take_at (i := 12) 15 rfl rfl (by kernel_rfl) (by kernel_rfl) (by kernel_rfl) (fun _ _ _ h => h) (slice_yieldsR (by rfl) 25 (.tmp 14) rfl ⟨w.heap.size, 2, none⟩ rfl ao n cap Tryz.underlying25 (fun _ h => (evAt_cells h.2).2.2.1)) hHeld ?_
          simp only [List.setIfInBounds_toArray, List.set_cons_zero, List.set_cons_succ]
          refine take_at (i := 15) 18 rfl rfl (by kernel_rfl) (by kernel_rfl) (by kernel_rfl) (fun _ _ _ h => h) (cell_yields (by rfl) 3 (.tmp 17) rfl w.heap.size 0 rfl .i64 _ Tryz.underlying3 (fun _ h => (evAt_cells h.2).1)) hHeld ?_
          simp only [List.setIfInBounds_toArray, List.set_cons_zero, List.set_cons_succ]
          refine take_at (i := 19) 22 rfl rfl (by kernel_rfl) (by kernel_rfl) (by kernel_rfl) (fun _ _ _ h => h) (cell_yields (by rfl) 2 (.tmp 21) rfl w.heap.size 1 rfl .i64 _ Tryz.underlying2 (fun _ h => (evAt_cells h.2).2.1)) hHeld ?_
          simp only [List.setIfInBounds_toArray, List.set_cons_zero, List.set_cons_succ]
          refine take_at (i := 20) 23 rfl rfl (by kernel_rfl) (by kernel_rfl) (by kernel_rfl) (fun _ _ _ h => h) (sure_yes (by rfl) (fun w => by go_simp; try with_reducible rfl)) hHeld ?_
          simp only [List.setIfInBounds_toArray, List.set_cons_zero, List.set_cons_succ]
          refine wpAnyH_ready (rs := [16]) (by kernel_rfl) (by simp) ?_
          refine AllReadyH.cons rfl (fun CONT hCONT => ?_) AllReadyH.nil
          go_simp
          go_at_call 24
          refine (GV.out _ (dots_below HV.out hHeld.1)).mono ?_
          rintro x wz ⟨rfl, hb⟩
          dsimp only
          refine hCONT.out _ _ ⟨below_next hHeld.1 hb, evAt_kept hHeld.2 hb⟩ (fun hHeld => ?_)
          clear hCONT CONT hb
          refine take_at (i := 21) 24 rfl rfl (by kernel_rfl) (by kernel_rfl) (by kernel_rfl) (fun _ _ _ h => h) (sure_yes (by rfl) (fun w => by go_simp; try with_reducible rfl)) hHeld ?_
          simp only [List.setIfInBounds_toArray, List.set_cons_zero, List.set_cons_succ]
          refine take_at (i := 22) 25 rfl rfl (by kernel_rfl) (by kernel_rfl) (by kernel_rfl) (fun _ _ _ h => h) (sure_yes (by rfl) (fun w => by go_simp; try with_reducible rfl)) hHeld ?_
          simp only [List.setIfInBounds_toArray, List.set_cons_zero, List.set_cons_succ]
          refine take_at (i := 23) 26 rfl rfl (by kernel_rfl) (by kernel_rfl) (by kernel_rfl) (fun _ _ _ h => h) (sure_yes (by rfl) (fun w => by go_simp; try with_reducible rfl)) hHeld ?_
          simp only [List.setIfInBounds_toArray, List.set_cons_zero, List.set_cons_succ]
          refine take_at (i := 24) 27 rfl rfl (by kernel_rfl) (by kernel_rfl) (by kernel_rfl) (fun _ _ _ h => h) (sure_yes (by rfl) (fun w => by go_simp; try with_reducible rfl)) hHeld ?_
          simp only [List.setIfInBounds_toArray, List.set_cons_zero, List.set_cons_succ]
          refine take_at (i := 25) 28 rfl rfl (by kernel_rfl) (by kernel_rfl) (by kernel_rfl) (fun _ _ _ h => h) (str_yieldsR (by rfl) 9 (.tmp 27) rfl ⟨w.heap.size, 4, none⟩ rfl _ Tryz.underlying9 (fun _ h => (evAt_cells h.2).2.2.2.2.1)) hHeld ?_
          simp only [List.setIfInBounds_toArray, List.set_cons_zero, List.set_cons_succ]
          refine wpAnyH_ready (rs := [26]) (by kernel_rfl) (by simp) ?_
          refine AllReadyH.cons rfl (fun CONT hCONT => ?_) AllReadyH.nil
          go_simp
          go_at_call 25
          refine (OW.out _).mono ?_
          rintro x wz ⟨rfl, hb⟩
          dsimp only
          refine hCONT.out _ _ ⟨below_next hHeld.1 hb, evAt_kept hHeld.2 hb⟩ (fun hHeld => ?_)
          clear hCONT CONT hb
          refine take_at (i := 27) 30 rfl rfl (by kernel_rfl) (by kernel_rfl) (by kernel_rfl) (fun _ _ _ h => h) (sure_yes (by rfl) (fun w => by go_simp; try with_reducible rfl)) hHeld ?_
          simp only [List.setIfInBounds_toArray, List.set_cons_zero, List.set_cons_succ]
          refine take_at (i := 28) 31 rfl rfl (by kernel_rfl) (by kernel_rfl) (by kernel_rfl) (fun _ _ _ h => h) (sure_yes (by rfl) (fun w => by go_simp; try with_reducible rfl)) hHeld ?_
          simp only [List.setIfInBounds_toArray, List.set_cons_zero, List.set_cons_succ]
          refine wpAnyH_done (by kernel_rfl) ?_ _
          obtain ⟨-, -, -, c3, -, c5⟩ := evAt_cells hHeld.2
          have BH := Lib.hid hHeld.1
          have EH := Lib.hid hHeld.2
          clear hHeld
          by_cases k1 : e.kind = 1
          · by_cases k3 : 0 ≤ e.size
            · have HM := Lib.hid (show mayE e = decide (e.size ≤ 65536) by rw [HQ.out]; simp [mayH, k1, k3])
              clear hq hg
              go_wp2
              go_ret
              exact ⟨by rw [HM.out]; rfl, BH.out⟩
            · have HM := Lib.hid (show mayE e = false by rw [HQ.out]; simp [mayH, k1, k3])
              clear hq hg
              go_wp2
              go_ret
              exact ⟨by rw [HM.out]; rfl, BH.out⟩
          · have q1 : (e.kind == 1) = false := beq_eq_false_iff_ne.2 k1
            by_cases k2 : e.kind = 2
            · by_cases k3 : e.size = 0
              · have HM := Lib.hid (show mayE e = b by rw [HQ.out]; simp [mayH, k2, k3, HB.out])
                go_wp2_with (first
                  | (refine load_sum_on (by rfl) 27 (.tmp 52) rfl w.heap.size rfl EH.out Tryz.underlying27 sumSize ?_))
                go_ret
                exact ⟨by rw [HM.out]; rfl, BH.out⟩
              · have HM := Lib.hid (show mayE e = false by rw [HQ.out]; simp [mayH, k2, k3])
                have q3 : (e.size == 0) = false := beq_eq_false_iff_ne.2 k3
                clear hq hg
                go_wp2
                go_ret
                exact ⟨by rw [HM.out]; rfl, BH.out⟩
            · have HM := Lib.hid (show mayE e = false by rw [HQ.out]; simp [mayH, k1, k2])
              have q2 : (e.kind == 2) = false := beq_eq_false_iff_ne.2 k2
              clear hq hg
              go_wp2
              go_ret
              exact ⟨by rw [HM.out]; rfl, BH.out⟩
      · have HM := Lib.hid (show mayE e = false by rw [← hpq] at h3; simp [mayE, knownE, h3])
        obtain ⟨G, hG⟩ : ∃ G, G = getV e.deps e.r := ⟨_, rfl⟩
        rw [← hG] at GV h3
        have q5 : (G != p) = true := bne_iff_ne.2 h3
        clear h1 h2 h3 hv hl hp hn hpq hq0 hG
        go_enter Tryz.func7, Tryz.ntmps7
        go_upto_region 1 with fail
        generalize w.alloc (.cells (evC e (.slice ao n cap)) 29 (0, 0)) = W0 at *
        refine wp_region_held_drew (S := fun w' => Below w.heap.size w w' ∧ EvAt w' w.heap.size 29 e (.slice ao n cap)) (by kernel_rfl) ⟨drawS B0.out, E0.out⟩ (fun hHeld => ?_)
        generalize W0.drew = wd at hHeld ⊢
        refine take_at (i := 0) 3 rfl rfl (by kernel_rfl) (by kernel_rfl) (by kernel_rfl) (fun _ _ _ h => h) (sure_yes (by rfl) (fun w => by go_simp; try with_reducible rfl)) hHeld ?_
        simp only [List.setIfInBounds_toArray, List.set_cons_zero, List.set_cons_succ]
        refine take_at (i := 1) 4 rfl rfl (by kernel_rfl) (by kernel_rfl) (by kernel_rfl) (fun _ _ _ h => h) (dot_yields (by rfl) 23 (.tmp 3) rfl ⟨w.heap.size, 0, none⟩ rfl e.r e.q Tryz.underlying23 (by kernel_rfl) (fun _ h => evAt_dot h.2)) hHeld ?_
        simp only [List.setIfInBounds_toArray, List.set_cons_zero, List.set_cons_succ]
        refine wpAnyH_ready (rs := [2]) (by kernel_rfl) (by simp) ?_
        refine AllReadyH.cons rfl (fun CONT hCONT => ?_) AllReadyH.nil
        go_simp
        go_at_call 22
        refine (MD.out _).mono ?_
        rintro x wz ⟨rfl, hb⟩
        dsimp only
        refine hCONT.out _ _ ⟨below_next hHeld.1 hb, evAt_kept hHeld.2 hb⟩ (fun hHeld => ?_)
        clear hCONT CONT hb
        refine take_at (i := 3) 6 rfl rfl (by kernel_rfl) (by kernel_rfl) (by kernel_rfl) (fun _ _ _ h => h) (sure_yes (by rfl) (fun w => by go_simp; try with_reducible rfl)) hHeld ?_
        simp only [List.setIfInBounds_toArray, List.set_cons_zero, List.set_cons_succ]
        refine take_at (i := 4) 7 rfl rfl (by kernel_rfl) (by kernel_rfl) (by kernel_rfl) (fun _ _ _ h => h) (sure_yes (by rfl) (fun w => by go_simp; try with_reducible rfl)) hHeld ?_
        simp only [List.setIfInBounds_toArray, List.set_cons_zero, List.set_cons_succ]
        refine take_at (i := 5) 8 rfl rfl (by kernel_rfl) (by kernel_rfl) (by kernel_rfl) (fun _ _ _ h => h) (sure_yes (by rfl) (fun w => by go_simp; try with_reducible rfl)) hHeld ?_
        simp only [List.setIfInBounds_toArray, List.set_cons_zero, List.set_cons_succ]
        refine take_at (i := 6) 9 rfl rfl (by kernel_rfl) (by kernel_rfl) (by kernel_rfl) (fun _ _ _ h => h) (slice_yieldsR (by rfl) 25 (.tmp 8) rfl ⟨w.heap.size, 2, none⟩ rfl ao n cap Tryz.underlying25 (fun _ h => (evAt_cells h.2).2.2.1)) hHeld ?_
        simp only [List.setIfInBounds_toArray, List.set_cons_zero, List.set_cons_succ]
        refine wpAnyH_ready (rs := [7]) (by kernel_rfl) (by simp) ?_
        refine AllReadyH.cons rfl (fun CONT hCONT => ?_) AllReadyH.nil
        go_simp
        go_at_call 23
        refine (MV.out _ (dots_below HV.out hHeld.1)).mono ?_
        rintro x wz ⟨rfl, hb⟩
        dsimp only
        refine hCONT.out _ _ ⟨below_next hHeld.1 hb, evAt_kept hHeld.2 hb⟩ (fun hHeld => ?_)
        clear hCONT CONT hb
        refine take_at (i := 8) 11 rfl rfl (by kernel_rfl) (by kernel_rfl) (by kernel_rfl) (fun _ _ _ h => h) (sure_yes (by rfl) (fun w => by go_simp; try with_reducible rfl)) hHeld ?_
        simp only [List.setIfInBounds_toArray, List.set_cons_zero, List.set_cons_succ]
        refine take_at (i := 9) 12 rfl rfl (by kernel_rfl) (by kernel_rfl) (by kernel_rfl) (fun _ _ _ h => h) (sure_yes (by rfl) (fun w => by go_simp; try with_reducible rfl)) hHeld ?_
        simp only [List.setIfInBounds_toArray, List.set_cons_zero, List.set_cons_succ]
        refine take_at (i := 10) 13 rfl rfl (by kernel_rfl) (by kernel_rfl) (by kernel_rfl) (fun _ _ _ h => h) (sure_yes (by rfl) (fun w => by go_simp; try with_reducible rfl)) hHeld ?_
        simp only [List.setIfInBounds_toArray, List.set_cons_zero, List.set_cons_succ]
        refine take_at (i := 11) 14 rfl rfl (by kernel_rfl) (by kernel_rfl) (by kernel_rfl) (fun _ _ _ h => h) (sure_yes (by rfl) (fun w => by go_simp; try with_reducible rfl)) hHeld ?_
        simp only [List.setIfInBounds_toArray, List.set_cons_zero, List.set_cons_succ]
        refine take_at (i := 13) 16 rfl rfl (by kernel_rfl) (by kernel_rfl) (by kernel_rfl) (fun _ _ _ h => h) (sure_yes (by rfl) (fun w => by go_simp; try with_reducible rfl)) hHeld ?_
        simp only [List.setIfInBounds_toArray, List.set_cons_zero, List.set_cons_succ]
        refine take_at (i := 14) 17 rfl rfl (by kernel_rfl) (by kernel_rfl) (by kernel_rfl) (fun _ _ _ h => h) (sure_yes (by rfl) (fun w => by go_simp; try with_reducible rfl)) hHeld ?_
        simp only [List.setIfInBounds_toArray, List.set_cons_zero, List.set_cons_succ]
        refine take_at (i := 17) 20 rfl rfl (by kernel_rfl) (by kernel_rfl) (by kernel_rfl) (fun _ _ _ h => h) (sure_yes (by rfl) (fun w => by go_simp; try with_reducible rfl)) hHeld ?_
        simp only [List.setIfInBounds_toArray, List.set_cons_zero, List.set_cons_succ]
        refine take_at (i := 18) 21 rfl rfl (by kernel_rfl) (by kernel_rfl) (by kernel_rfl) (fun _ _ _ h => h) (sure_yes (by rfl) (fun w => by go_simp; try with_reducible rfl)) hHeld ?_
        simp only [List.setIfInBounds_toArray, List.set_cons_zero, List.set_cons_succ]
        refine take_at (i := 12) 15 rfl rfl (by kernel_rfl) (by kernel_rfl) (by kernel_rfl) (fun _ _ _ h => h) (slice_yieldsR (by rfl) 25 (.tmp 14) rfl ⟨w.heap.size, 2, none⟩ rfl ao n cap Tryz.underlying25 (fun _ h => (evAt_cells h.2).2.2.1)) hHeld ?_
        simp only [List.setIfInBounds_toArray, List.set_cons_zero, List.set_cons_succ]
        refine take_at (i := 15) 18 rfl rfl (by kernel_rfl) (by kernel_rfl) (by kernel_rfl) (fun _ _ _ h => h) (cell_yields (by rfl) 3 (.tmp 17) rfl w.heap.size 0 rfl .i64 _ Tryz.underlying3 (fun _ h => (evAt_cells h.2).1)) hHeld ?_
        simp only [List.setIfInBounds_toArray, List.set_cons_zero, List.set_cons_succ]
        refine take_at (i := 19) 22 rfl rfl (by kernel_rfl) (by kernel_rfl) (by kernel_rfl) (fun _ _ _ h => h) (cell_yields (by rfl) 2 (.tmp 21) rfl w.heap.size 1 rfl .i64 _ Tryz.underlying2 (fun _ h => (evAt_cells h.2).2.1)) hHeld ?_
        simp only [List.setIfInBounds_toArray, List.set_cons_zero, List.set_cons_succ]
        refine take_at (i := 20) 23 rfl rfl (by kernel_rfl) (by kernel_rfl) (by kernel_rfl) (fun _ _ _ h => h) (sure_yes (by rfl) (fun w => by go_simp; try with_reducible rfl)) hHeld ?_
        simp only [List.setIfInBounds_toArray, List.set_cons_zero, List.set_cons_succ]
        refine wpAnyH_ready (rs := [16]) (by kernel_rfl) (by simp) ?_
        refine AllReadyH.cons rfl (fun CONT hCONT => ?_) AllReadyH.nil
        go_simp
        go_at_call 24
        refine (GV.out _ (dots_below HV.out hHeld.1)).mono ?_
        rintro x wz ⟨rfl, hb⟩
        dsimp only
        refine hCONT.out _ _ ⟨below_next hHeld.1 hb, evAt_kept hHeld.2 hb⟩ (fun hHeld => ?_)
        clear hCONT CONT hb
        refine take_at (i := 21) 24 rfl rfl (by kernel_rfl) (by kernel_rfl) (by kernel_rfl) (fun _ _ _ h => h) (sure_yes (by rfl) (fun w => by go_simp; try with_reducible rfl)) hHeld ?_
        simp only [List.setIfInBounds_toArray, List.set_cons_zero, List.set_cons_succ]
        refine take_at (i := 22) 25 rfl rfl (by kernel_rfl) (by kernel_rfl) (by kernel_rfl) (fun _ _ _ h => h) (sure_yes (by rfl) (fun w => by go_simp; try with_reducible rfl)) hHeld ?_
        simp only [List.setIfInBounds_toArray, List.set_cons_zero, List.set_cons_succ]
        refine take_at (i := 23) 26 rfl rfl (by kernel_rfl) (by kernel_rfl) (by kernel_rfl) (fun _ _ _ h => h) (sure_yes (by rfl) (fun w => by go_simp; try with_reducible rfl)) hHeld ?_
        simp only [List.setIfInBounds_toArray, List.set_cons_zero, List.set_cons_succ]
        refine take_at (i := 24) 27 rfl rfl (by kernel_rfl) (by kernel_rfl) (by kernel_rfl) (fun _ _ _ h => h) (.inr ⟨by rfl, rfl⟩) hHeld ?_
        simp only [List.setIfInBounds_toArray, List.set_cons_zero, List.set_cons_succ]
        refine take_at (i := 25) 28 rfl rfl (by kernel_rfl) (by kernel_rfl) (by kernel_rfl) (fun _ _ _ h => h) (.inr ⟨by rfl, rfl⟩) hHeld ?_
        simp only [List.setIfInBounds_toArray, List.set_cons_zero, List.set_cons_succ]
        refine take_at (i := 26) 29 rfl rfl (by kernel_rfl) (by kernel_rfl) (by kernel_rfl) (fun _ _ _ h => h) (.inr ⟨by rfl, rfl⟩) hHeld ?_
        simp only [List.setIfInBounds_toArray, List.set_cons_zero, List.set_cons_succ]
        refine take_at (i := 27) 30 rfl rfl (by kernel_rfl) (by kernel_rfl) (by kernel_rfl) (fun _ _ _ h => h) (.inr ⟨by rfl, rfl⟩) hHeld ?_
        simp only [List.setIfInBounds_toArray, List.set_cons_zero, List.set_cons_succ]
        refine take_at (i := 28) 31 rfl rfl (by kernel_rfl) (by kernel_rfl) (by kernel_rfl) (fun _ _ _ h => h) (sure_yes (by rfl) (fun w => by go_simp; try with_reducible rfl)) hHeld ?_
        simp only [List.setIfInBounds_toArray, List.set_cons_zero, List.set_cons_succ]
        refine wpAnyH_done (by kernel_rfl) ?_ _
        go_wp2
        go_ret
        exact ⟨by rw [HM.out]; rfl, hHeld.1⟩
set_option maxRecDepth 100000 in
set_option maxHeartbeats 16000000 in
theorem refKnows_any12 (e f : Ev) (hl : e.deps.length < 2000000) (v u : Value) (w : World) (hv : HasDots w v e.deps) : Calls Tryz.prog 9 #[.agg (evC e v), .agg (evC f u)] w fun x w' => x = .returned (.bool (hasV e.deps f.r f.q)) ∧ Below w.heap.size w w' := by
  obtain ⟨h1, h2, h3⟩ := two_evs w 29 e f v u
  have E1 := Lib.hid h1
  have E2 := Lib.hid h2
  have B0 := Lib.hid h3
  have HH := Lib.hid (refHas_any10 e.deps hl f.r f.q v _ (dots_below hv h3))
  obtain ⟨-, -, c2, -, -, -⟩ := evAt_cells h1
  obtain ⟨ao, cap, rfl⟩ := dots_shape hv e.deps.length rfl
  clear h1 h2 h3 hv hl
  go_enter Tryz.func9, Tryz.ntmps9
  go_upto_region 1 with fail
  generalize (w.alloc (.cells (evC e (.slice ao e.deps.length cap)) 29 (0, 0))).alloc (.cells (evC f u) 29 (0, 0)) = W0 at *
  go_wp2_with (first
    | (refine load_dot10 (by rfl) 23 (.tmp 7) rfl ⟨w.heap.size + 1, 0, none⟩ rfl f.r f.q Tryz.underlying23 (by kernel_rfl) (evAt_dot E2.out) ?_)
    | (go_at_call 27; refine HH.out.mono ?_; rintro x w1 ⟨rfl, hb⟩; have B1 := Lib.hid (below_next B0.out hb); clear hb))
  go_ret
  exact ⟨rfl, B1.out⟩
set_option maxRecDepth 100000 in
set_option maxHeartbeats 16000000 in
theorem refCmp_any12 (e f : Ev) (v u : Value) (w : World) : Calls Tryz.prog 11 #[.agg (evC e v), .agg (evC f u)] w fun x w' => x = .returned (.int .i64 (cmpE e f)) ∧ Below w.heap.size w w' := by
  obtain ⟨h1, h2, h3⟩ := two_evs w 29 e f v u
  have E1 := Lib.hid h1
  have E2 := Lib.hid h2
  have B0 := Lib.hid h3
  obtain ⟨-, -, -, -, d4, -⟩ := evAt_cells h1
  obtain ⟨-, -, -, -, f4, -⟩ := evAt_cells h2
  have CD := Lib.hid (fun w => refCompare_any e.r e.q f.r f.q w)
  have s1 : (str e.path).toList = e.path := str_toList _
  have s2 : (str f.path).toList = f.path := str_toList _
  rcases cmpB_cases e.path f.path with ⟨hc, he⟩ | ⟨hc, hl, hn⟩ | ⟨hc, hl, hn⟩
  · have HR := Lib.hid (show cmpE e f = cmpD e.r e.q f.r f.q by rw [cmpE, if_pos hc])
    have q1 : Op.bytesLess e.path f.path = false := by rw [he]; exact bytesLess_irrefl _
    have q2 : (e.path == f.path) = true := by rw [he]; simp
    clear h1 h2 h3 hc he
    go_enter Tryz.func11, Tryz.ntmps11
    go_upto_region 1 with fail
    generalize (w.alloc (.cells (evC e v) 29 (0, 0))).alloc (.cells (evC f u) 29 (0, 0)) = W0 at *
    go_wp2_with (first
      | (refine load_dot10 (by rfl) 23 (.tmp 15) rfl ⟨w.heap.size, 0, none⟩ rfl e.r e.q Tryz.underlying23 (by kernel_rfl) (evAt_dot E1.out) ?_)
      | (refine load_dot10 (by rfl) 23 (.tmp 17) rfl ⟨w.heap.size + 1, 0, none⟩ rfl f.r f.q Tryz.underlying23 (by kernel_rfl) (evAt_dot E2.out) ?_)
      | (go_at_call 31; refine (CD.out _).mono ?_; rintro x w1 ⟨rfl, hb⟩; have B1 := Lib.hid (below_next B0.out hb); clear hb))
    go_ret
    exact ⟨by rw [HR.out]; rfl, B1.out⟩
  · have HR := Lib.hid (show cmpE e f = -1 by rw [cmpE, if_neg (by omega), hc])
    have q1 : Op.bytesLess e.path f.path = true := hl
    clear h1 h2 h3 hc hl hn
    go_enter Tryz.func11, Tryz.ntmps11
    go_upto_region 1 with fail
    generalize (w.alloc (.cells (evC e v) 29 (0, 0))).alloc (.cells (evC f u) 29 (0, 0)) = W0 at *
    go_wp2_with (first
      | (refine load_dot10 (by rfl) 23 (.tmp 15) rfl ⟨w.heap.size, 0, none⟩ rfl e.r e.q Tryz.underlying23 (by kernel_rfl) (evAt_dot E1.out) ?_)
      | (refine load_dot10 (by rfl) 23 (.tmp 17) rfl ⟨w.heap.size + 1, 0, none⟩ rfl f.r f.q Tryz.underlying23 (by kernel_rfl) (evAt_dot E2.out) ?_)
      | (go_at_call 31; refine (CD.out _).mono ?_; rintro x w1 ⟨rfl, hb⟩; have B1 := Lib.hid (below_next B0.out hb); clear hb))
    go_ret
    exact ⟨by rw [HR.out]; rfl, B0.out⟩
  · have HR := Lib.hid (show cmpE e f = 1 by rw [cmpE, if_neg (by omega), hc])
    have q1 : Op.bytesLess e.path f.path = false := bl_asymm hl
    have q2 : (e.path == f.path) = false := beq_eq_false_iff_ne.2 hn
    clear h1 h2 h3 hc hl hn
    go_enter Tryz.func11, Tryz.ntmps11
    go_upto_region 1 with fail
    generalize (w.alloc (.cells (evC e v) 29 (0, 0))).alloc (.cells (evC f u) 29 (0, 0)) = W0 at *
    go_wp2_with (first
      | (refine load_dot10 (by rfl) 23 (.tmp 15) rfl ⟨w.heap.size, 0, none⟩ rfl e.r e.q Tryz.underlying23 (by kernel_rfl) (evAt_dot E1.out) ?_)
      | (refine load_dot10 (by rfl) 23 (.tmp 17) rfl ⟨w.heap.size + 1, 0, none⟩ rfl f.r f.q Tryz.underlying23 (by kernel_rfl) (evAt_dot E2.out) ?_)
      | (go_at_call 31; refine (CD.out _).mono ?_; rintro x w1 ⟨rfl, hb⟩; have B1 := Lib.hid (below_next B0.out hb); clear hb))
    go_ret
    exact ⟨by rw [HR.out]; rfl, B0.out⟩
end Go.Proofs.YteooklnejiipkaaGreatDoor
namespace Go.Proofs.YteooklnejiipkaaGreatDoor
open Go.RowKit
/-- The text of the first so many dots. -/
def preT (l : List D2) (k : Nat) : List UInt8 := joinB 44 ((l.take k).map dotT)
theorem preT_one {l : List D2} {d : D2} (h : l[0]? = some d) : preT l 1 = dotT d := by
  rw [preT, List.take_add_one, h]; simp [joinB]
theorem preT_next {l : List D2} {k : Nat} {d : D2} (h : l[k]? = some d) (hk : 0 < k) : preT l (k + 1) = preT l k ++ [44] ++ dotT d := by
  have hne : (l.take k).map dotT ≠ [] := fun e => by
    have h1 : k < l.length := (List.getElem?_eq_some_iff.1 h).1
    have := congrArg List.length e
    rw [List.length_map, List.length_take, List.length_nil] at this; omega
  rw [preT, List.take_add_one, h, List.map_append]
  show joinB 44 ((l.take k).map dotT ++ [dotT d]) = _
  rw [joinB_snoc _ _ _ hne, preT]; simp
theorem preT_all (l : List D2) : preT l l.length = joinB 44 (l.map dotT) := by rw [preT, List.take_length]
theorem preT_len {l : List D2} (h : ∀ d ∈ l, mayT d = true) (k : Nat) : (preT l k).length ≤ k * 42 := by
  have h1 := joinB_length 44 ((l.take k).map dotT) 41 (fun p hp => by obtain ⟨d, hd, rfl⟩ := List.mem_map.1 hp; exact dotT_length (h d (List.mem_of_mem_take hd)))
  rw [List.length_map, List.length_take] at h1
  rw [preT]; omega
set_option maxRecDepth 100000 in
set_option maxHeartbeats 16000000 in
theorem refText_any10 (l : List D2) (hl : l.length < 2000000) (v : Value) (w : World) (hv : HasDots w v l) : Calls Tryz.prog 40 #[v] w fun e w' => e = .returned (.string (str (textV l))) ∧ Below w.heap.size w w' := by
  have HV := Lib.hid hv
  have A1 := Lib.hid (fun w v hv => refAll_V l hl v w hv)
  have O1 := Lib.hid (fun w => refOf_V (allV l) w)
  obtain ⟨X, hX⟩ : ∃ X, X = vecOf l := ⟨_, rfl⟩
  have HX := Lib.hid (And.intro hX (show ∀ d ∈ X, mayT d = true by rw [hX]; exact vecOf_may l))
  obtain ⟨N, hN⟩ : ∃ N, N = X.length := ⟨_, rfl⟩
  have HN := Lib.hid (And.intro hN (show N ≤ 32 by rw [hN, hX]; exact ofN_length _ 32))
  have hN32 : N ≤ 32 := HN.out.2
  obtain ⟨ao, cap, rfl⟩ := dots_shape hv l.length rfl
  obtain ⟨n, hn⟩ : ∃ n, n = l.length := ⟨_, rfl⟩
  rw [← hn] at HV ⊢
  clear hv hl hn hX hN
  by_cases h0 : N = 0
  · have HE := Lib.hid (show str (textV l) = ⟨#[45]⟩ by rw [textV, ← HX.out.1, List.eq_nil_of_length_eq_zero (HN.out.1.symm.trans h0)]; rfl)
    clear hN32
    go_enter Tryz.func40, Tryz.ntmps40
    go_wp2_with (first
      | (go_at_call 56; refine (A1.out w _ HV.out).mono ?_; rintro e w1 ⟨rfl, hb⟩; have B1 := Lib.hid hb; clear hb)
      | (go_at_call 55; refine (O1.out _).mono ?_; rintro e w2 ⟨x, rfl, hx, hb⟩; have HD := Lib.hid (show HasDots w2 x X by rw [HX.out.1]; exact hx); obtain ⟨xo, xc, rfl⟩ := dots_shape HD.out N HN.out.1; subst h0; have B2 := Lib.hid (below_next B1.out hb); clear hx hb))
    go_ret
    exact ⟨by rw [HE.out]; rfl, B2.out⟩
  · have HE := Lib.hid (show joinB 44 (X.map dotT) = textV l by rw [textV, ← HX.out.1, textL, if_neg (fun e => h0 (by rw [HN.out.1, e]; rfl))])
    have e1 : ((N : Int) == 0) = false := by rw [beq_eq_false_iff_ne]; omega
    clear h0
    go_enter Tryz.func40, Tryz.ntmps40
    go_wp2_with (first
      | (go_at_call 56; refine (A1.out w _ HV.out).mono ?_; rintro e w1 ⟨rfl, hb⟩; have B1 := Lib.hid hb; clear hb)
      | (go_at_call 55; refine (O1.out _).mono ?_; rintro e w2 ⟨x, rfl, hx, hb⟩; have HD := Lib.hid (show HasDots w2 x X by rw [HX.out.1]; exact hx); obtain ⟨xo, xc, rfl⟩ := dots_shape HD.out N HN.out.1; have B2 := Lib.hid (below_next B1.out hb); clear hx hb))
    go_loopw [4, 5] (fun v c wr => ∃ k : Nat, k ≤ N ∧ c = .int .i64 (k : Int) ∧ v = .string (str (preT X k)) ∧ Below w2.heap.size w2 wr) (fun _ c _ => N - (intOf c).toNat)
    case atStart => exact ⟨0, by omega, rfl, rfl, Below.refl _ _⟩
    case round =>
      obtain ⟨k, hk, rfl, rfl, hb⟩ := hrel
      have HB := Lib.hid hb
      by_cases hlt : k < N
      · have q0 : (k : Int) < (N : Int) := by omega
        have KK := Lib.hid (show k + 1 ≤ N ∧ N - (k + 1) < N - k by omega)
        obtain ⟨d, hdk⟩ : ∃ d, X[k]? = some d := ⟨_, List.getElem?_eq_getElem (by rw [← HN.out.1]; exact hlt)⟩
        have hm := mayT_bd (HX.out.2 d (List.mem_of_getElem? hdk))
        have hdl := dotT_length (HX.out.2 d (List.mem_of_getElem? hdk))
        have hpl := preT_len HX.out.2 k
        obtain ⟨A, hA⟩ : ∃ A, A = preT X k := ⟨_, rfl⟩
        rw [← hA] at hpl ⊢
        obtain ⟨T, hT⟩ : ∃ T, T = dotT d := ⟨_, rfl⟩
        rw [← hT] at hdl
        have TX := Lib.hid (fun w => refText_any9 d.1 d.2 (by omega) (by omega) w)
        rw [show textD d.1 d.2 = T from hT.symm] at TX
        have NX := Lib.hid (fun (hk : 0 < k) => preT_next hdk hk)
        rw [← hA, ← hT] at NX
        have N1 := Lib.hid (fun (hk : k = 0) => show preT X (k + 1) = T by subst hk; rw [hT]; exact preT_one hdk)
        obtain ⟨r, q⟩ := d
        obtain ⟨ad, cap', e, c0, c1⟩ := dots_at (dots_below HD.out hb) N k HN.out.1.symm _ hdk
        cases e
        have C0 := Lib.hid (And.intro c0 c1)
        by_cases hk0 : 0 < k
        · have d1 : decide ((k : Int) > 0) = true := decide_eq_true (by omega)
          obtain ⟨A1', hA1⟩ : ∃ A1, A ++ [44] = A1 := ⟨_, rfl⟩
          obtain ⟨A2, hA2⟩ : ∃ A2, A1' ++ T = A2 := ⟨_, rfl⟩
          have ad1 : ∀ w, (Op.stringOp .add (str A) ⟨#[44]⟩).run Tryz.prog w = .ok (.string (str A1')) w := fun w => by rw [← hA1]; exact add_str A [44] (by simp; omega) w
          have ad2 : ∀ w, (Op.stringOp .add (str A1') (str T)).run Tryz.prog w = .ok (.string (str A2)) w := fun w => by rw [← hA2]; exact add_str A1' T (by rw [← hA1]; simp; omega) w
          have HN2 := Lib.hid (show preT X (k + 1) = A2 by rw [NX.out hk0, hA1, hA2])
          clear c0 c1 hdk hm hdl hpl hb hlt hA hT hA1 hA2
          go_wp2_with (first
            | (refine load_dot10 (by rfl) 23 (.tmp 25) rfl (ad.add (k * 2)) rfl r q Tryz.underlying23 (by kernel_rfl) C0.out ?_)
            | (go_at_call 39; refine (TX.out _).mono ?_; rintro e w4 ⟨rfl, hb⟩; have B4 := Lib.hid (below_next HB.out hb); clear hb))
          refine ⟨⟨k + 1, KK.out.1, by simp, by rw [HN2.out], B4.out⟩, ?_⟩
          have := KK.out.2; simp [intOf]; omega
        · have d1 : decide ((k : Int) > 0) = false := decide_eq_false (by omega)
          have hk00 : k = 0 := by omega
          have hAe : A = [] := by rw [hA, hk00]; rfl
          obtain ⟨A2, hA2⟩ : ∃ A2, A ++ T = A2 := ⟨_, rfl⟩
          have ad1 : ∀ w, (Op.stringOp .add (str A) (str T)).run Tryz.prog w = .ok (.string (str A2)) w := fun w => by rw [← hA2]; exact add_str A T (by omega) w
          have HN2 := Lib.hid (show preT X (k + 1) = A2 by rw [N1.out hk00, ← hA2, hAe, List.nil_append])
          clear c0 c1 hdk hm hdl hpl hb hlt hA hT hk00 hAe hA2
          go_wp2_with (first
            | (refine load_dot10 (by rfl) 23 (.tmp 25) rfl (ad.add (k * 2)) rfl r q Tryz.underlying23 (by kernel_rfl) C0.out ?_)
            | (go_at_call 39; refine (TX.out _).mono ?_; rintro e w4 ⟨rfl, hb⟩; have B4 := Lib.hid (below_next HB.out hb); clear hb))
          refine ⟨⟨k + 1, KK.out.1, by simp, by rw [HN2.out], B4.out⟩, ?_⟩
          have := KK.out.2; simp [intOf]; omega
      · have q0 : ¬ (k : Int) < (N : Int) := by omega
        obtain rfl : k = N := by omega
        have HL := Lib.hid (show preT X k = textV l by rw [← HE.out, ← preT_all, ← HN.out.1])
        clear hb hlt
        go_wp2
        go_ret
        exact ⟨by rw [← HL.out]; rfl, below_next B2.out HB.out⟩
end Go.Proofs.YteooklnejiipkaaGreatDoor
namespace Go.Proofs.YteooklnejiipkaaGreatDoor
open Go.RowKit
theorem line_two (w0 a b c : List UInt8) : joinB 32 [w0, a, b, c] = w0 ++ 32 :: (a ++ [32] ++ b ++ [32] ++ c) := by simp [joinB]
theorem line_six (w0 a b c d f : List UInt8) : joinB 32 [w0, a, b, c, d, f] = w0 ++ 32 :: (a ++ [32] ++ b ++ [32] ++ c) ++ [32] ++ d ++ [32] ++ f := by simp [joinB]
/-- The parts of a line, each bounded. -/
theorem line_parts {e : Ev} (h : mayE e = true) : (textD e.r e.q).length ≤ 41 ∧ (textV e.deps).length ≤ 1344 ∧ e.path.length ≤ 200 ∧ (textF e.sum).length = 64 ∧ (numL e.size).length ≤ 5 := by
  have hm := h
  simp only [mayE, Bool.and_eq_true] at hm
  have h1 := dotT_length (d := (e.r, e.q)) hm.1
  rw [show dotT (e.r, e.q) = textD e.r e.q from rfl] at h1
  have h3 := ((own_iff e.path).1 hm.2.2.1).2.2.1
  refine ⟨h1, textV_length e.deps, h3, textF_length e.sum, ?_⟩
  rcases may_kind h with ⟨-, k2, k3⟩ | ⟨-, k2, -⟩
  · exact numL_len e.size 5 k2 (by omega) (by omega)
  · exact numL_len e.size 5 (by omega) (by omega) (by omega)
set_option maxRecDepth 100000 in
set_option maxHeartbeats 16000000 in
theorem refLine_any12 (e : Ev) (hl : e.deps.length < 2000000) (hp : e.path.length < 1152921504606846976) (hf : ∀ i, u32 (e.sum i) < 256) (v : Value) (w : World) (hv : HasDots w v e.deps) : Calls Tryz.prog 15 #[.agg (evC e v)] w fun x w' => x = .returned (.tuple #[.string (str (lineT e)), .int .i64 (lineErr e)]) ∧ Below w.heap.size w w' := by
  have HV := Lib.hid hv
  have E0 := Lib.hid (box_ev w 29 e v)
  have B0 := Lib.hid ((Below.refl w.heap.size w).alloc (Nat.le_refl _) (.cells (evC e v) 29 (0, 0)))
  have MY := Lib.hid (fun w hv => refMay_any12 e hl hp v w hv)
  cases hm : mayE e with
  | false =>
    have HL := Lib.hid (show lineT e = [] ∧ lineErr e = 1 by simp [lineT, lineErr, hm])
    rw [hm] at MY
    clear hm hv hl hp hf
    go_enter Tryz.func15, Tryz.ntmps15
    go_wp2_with (first
      | (refine load_ev_on (by rfl) 29 (.tmp 1) rfl w.heap.size rfl E0.out Tryz.underlying29 evSize ?_)
      | (go_at_call 7; refine (MY.out _ (dots_below HV.out B0.out)).mono ?_; rintro x w1 ⟨rfl, hb⟩; have B1 := Lib.hid (below_next B0.out hb); clear hb))
    go_ret2
    exact ⟨by rw [HL.out.1, HL.out.2]; rfl, B1.out⟩
  | true =>
    have HL := Lib.hid (show lineT e = lineE e ∧ lineErr e = 0 by simp [lineT, lineErr, hm])
    obtain ⟨b1, b2, -, b3, b4⟩ := may_bounds hm
    obtain ⟨l1, l2, l3, l4, l5⟩ := line_parts hm
    have XD := Lib.hid (fun w => refText_any9 e.r e.q b1 b2 w)
    have XV := Lib.hid (fun w hv => refText_any10 e.deps hl v w hv)
    have XF := Lib.hid (fun w => refText_any e.sum hf w)
    have XN := Lib.hid (fun w => refNumber_any e.size b3 b4 w)
    have HK := Lib.hid (may_kind hm)
    obtain ⟨TD, hTD⟩ : ∃ t, t = textD e.r e.q := ⟨_, rfl⟩
    obtain ⟨TV, hTV⟩ : ∃ t, t = textV e.deps := ⟨_, rfl⟩
    obtain ⟨TF, hTF⟩ : ∃ t, t = textF e.sum := ⟨_, rfl⟩
    obtain ⟨TN, hTN⟩ : ∃ t, t = numL e.size := ⟨_, rfl⟩
    obtain ⟨P, hP⟩ : ∃ t, t = e.path := ⟨_, rfl⟩
    rw [← hTD] at XD l1
    rw [← hTV] at XV l2
    rw [← hTF] at XF l4
    rw [← hTN] at XN l5
    obtain ⟨A1, h1⟩ : ∃ t, t = TD ++ [32] := ⟨_, rfl⟩
    obtain ⟨A2, h2⟩ : ∃ t, t = A1 ++ TV := ⟨_, rfl⟩
    obtain ⟨A3, h3⟩ : ∃ t, t = A2 ++ [32] := ⟨_, rfl⟩
    obtain ⟨A4, h4⟩ : ∃ t, t = A3 ++ e.path := ⟨_, rfl⟩
    obtain ⟨A5, h5⟩ : ∃ t, t = [112, 117, 116, 32] ++ A4 := ⟨_, rfl⟩
    obtain ⟨A6, h6⟩ : ∃ t, t = A5 ++ [32] := ⟨_, rfl⟩
    obtain ⟨A7, h7⟩ : ∃ t, t = A6 ++ TF := ⟨_, rfl⟩
    obtain ⟨A8, h8⟩ : ∃ t, t = A7 ++ [32] := ⟨_, rfl⟩
    obtain ⟨A9, h9⟩ : ∃ t, t = A8 ++ TN := ⟨_, rfl⟩
    have L4 := Lib.hid (show e.kind = 2 → lineE e = [100, 101, 108, 32] ++ A4 from fun k => by
      rw [lineE, wordsE, if_pos k, line_two, h4, h3, h2, h1, hTD, hTV]; simp [delW])
    have L6 := Lib.hid (show e.kind = 1 → lineE e = A9 from fun k => by
      rw [lineE, wordsE, if_neg (by omega), line_six, h9, h8, h7, h6, h5, h4, h3, h2, h1, hTD, hTV, hTF, hTN]; simp [putW])
    have z1 : A1.length ≤ 50 := by rw [h1, List.length_append]; simp; omega
    have z2 : A2.length ≤ 2000 := by rw [h2, List.length_append]; omega
    have z3 : A3.length ≤ 2001 := by rw [h3, List.length_append]; simp; omega
    have z4 : A4.length ≤ 2300 := by rw [h4, List.length_append]; omega
    have z5 : A5.length ≤ 2400 := by rw [h5, List.length_append]; simp; omega
    have z6 : A6.length ≤ 2401 := by rw [h6, List.length_append]; simp; omega
    have z7 : A7.length ≤ 2500 := by rw [h7, List.length_append]; omega
    have z8 : A8.length ≤ 2501 := by rw [h8, List.length_append]; simp; omega
    have z32 : ([32] : List UInt8).length = 1 := rfl
    have zput : ([112, 117, 116, 32] : List UInt8).length = 4 := rfl
    have A1e := Lib.hid h1.symm
    have A2e := Lib.hid h2.symm
    have A3e := Lib.hid h3.symm
    have A4e := Lib.hid h4.symm
    have A5e := Lib.hid h5.symm
    have A6e := Lib.hid h6.symm
    have A7e := Lib.hid h7.symm
    have A8e := Lib.hid h8.symm
    have A9e := Lib.hid h9.symm
    have q4 : ¬ 9223372036854775807 < 4 + (str A4).size := by rw [str_size]; omega
    rw [hm] at MY
    obtain ⟨n, hn⟩ : ∃ n, n = e.deps.length := ⟨_, rfl⟩
    obtain ⟨ao, cap, rfl⟩ := dots_shape hv n hn
    clear hm hv hl hp hf b1 b2 b3 b4 hn h1 h2 h3 h4 h5 h6 h7 h8 h9 hTD hTV hTF hTN hP
    go_enter Tryz.func15, Tryz.ntmps15
    go_upto_region 3 with (first
      | (refine load_ev_on (by rfl) 29 (.tmp 1) rfl w.heap.size rfl E0.out Tryz.underlying29 evSize ?_)
      | (go_at_call 7; refine (MY.out _ (dots_below HV.out B0.out)).mono ?_; rintro x w1 ⟨rfl, hb⟩; have B1 := Lib.hid (below_next B0.out hb); have E1 := Lib.hid (evAt_kept E0.out hb); clear hb))
    refine wp_region_held_drew (S := fun w' => Below w.heap.size w w' ∧ EvAt w' w.heap.size 29 e (.slice ao n cap)) (by kernel_rfl) ⟨drawS B1.out, E1.out⟩ (fun hHeld => ?_)
    generalize w1.drew = wd at hHeld ⊢
    refine take_at (i := 0) 8 rfl rfl (by kernel_rfl) (by kernel_rfl) (by kernel_rfl) (fun _ _ _ h => h) (sure_yes (by rfl) (fun w => by go_simp; try with_reducible rfl)) hHeld ?_
    simp only [List.setIfInBounds_toArray, List.set_cons_zero, List.set_cons_succ]
    refine take_at (i := 4) 12 rfl rfl (by kernel_rfl) (by kernel_rfl) (by kernel_rfl) (fun _ _ _ h => h) (sure_yes (by rfl) (fun w => by go_simp; try with_reducible rfl)) hHeld ?_
    simp only [List.setIfInBounds_toArray, List.set_cons_zero, List.set_cons_succ]
    refine take_at (i := 9) 17 rfl rfl (by kernel_rfl) (by kernel_rfl) (by kernel_rfl) (fun _ _ _ h => h) (sure_yes (by rfl) (fun w => by go_simp; try with_reducible rfl)) hHeld ?_
    simp only [List.setIfInBounds_toArray, List.set_cons_zero, List.set_cons_succ]
    refine take_at (i := 1) 9 rfl rfl (by kernel_rfl) (by kernel_rfl) (by kernel_rfl) (fun _ _ _ h => h) (dot_yields (by rfl) 23 (.tmp 8) rfl ⟨w.heap.size, 0, none⟩ rfl e.r e.q Tryz.underlying23 (by kernel_rfl) (fun _ h => evAt_dot h.2)) hHeld ?_
    simp only [List.setIfInBounds_toArray, List.set_cons_zero, List.set_cons_succ]
    refine take_at (i := 5) 13 rfl rfl (by kernel_rfl) (by kernel_rfl) (by kernel_rfl) (fun _ _ _ h => h) (slice_yieldsR (by rfl) 25 (.tmp 12) rfl ⟨w.heap.size, 2, none⟩ rfl ao n cap Tryz.underlying25 (fun _ h => (evAt_cells h.2).2.2.1)) hHeld ?_
    simp only [List.setIfInBounds_toArray, List.set_cons_zero, List.set_cons_succ]
    refine take_at (i := 10) 18 rfl rfl (by kernel_rfl) (by kernel_rfl) (by kernel_rfl) (fun _ _ _ h => h) (str_yieldsR (by rfl) 9 (.tmp 17) rfl ⟨w.heap.size, 4, none⟩ rfl _ Tryz.underlying9 (fun _ h => (evAt_cells h.2).2.2.2.2.1)) hHeld ?_
    simp only [List.setIfInBounds_toArray, List.set_cons_zero, List.set_cons_succ]
    refine wpAnyH_ready (rs := [2]) (by kernel_rfl) (by simp) ?_
    refine AllReadyH.cons rfl (fun CONT hCONT => ?_) AllReadyH.nil
    go_simp
    go_at_call 39
    refine (XD.out _).mono ?_
    rintro x wz ⟨rfl, hb⟩
    dsimp only
    refine hCONT.out _ _ ⟨below_next hHeld.1 hb, evAt_kept hHeld.2 hb⟩ (fun hHeld => ?_)
    clear hCONT CONT hb
    refine take_at (i := 3) 11 rfl rfl (by kernel_rfl) (by kernel_rfl) (by kernel_rfl) (fun _ _ _ h => h) (sure_yes (by rfl) (add_as (l := TD) (m := [32]) (r := A1) rfl rfl rfl (by omega) A1e.out)) hHeld ?_
    simp only [List.setIfInBounds_toArray, List.set_cons_zero, List.set_cons_succ]
    refine wpAnyH_ready (rs := [6]) (by kernel_rfl) (by simp) ?_
    refine AllReadyH.cons rfl (fun CONT hCONT => ?_) AllReadyH.nil
    go_simp
    go_at_call 40
    refine (XV.out _ (dots_below HV.out hHeld.1)).mono ?_
    rintro x wz ⟨rfl, hb⟩
    dsimp only
    refine hCONT.out _ _ ⟨below_next hHeld.1 hb, evAt_kept hHeld.2 hb⟩ (fun hHeld => ?_)
    clear hCONT CONT hb
    refine take_at (i := 7) 15 rfl rfl (by kernel_rfl) (by kernel_rfl) (by kernel_rfl) (fun _ _ _ h => h) (sure_yes (by rfl) (add_as (l := A1) (m := TV) (r := A2) rfl rfl rfl (by omega) A2e.out)) hHeld ?_
    simp only [List.setIfInBounds_toArray, List.set_cons_zero, List.set_cons_succ]
    refine take_at (i := 8) 16 rfl rfl (by kernel_rfl) (by kernel_rfl) (by kernel_rfl) (fun _ _ _ h => h) (sure_yes (by rfl) (add_as (l := A2) (m := [32]) (r := A3) rfl rfl rfl (by omega) A3e.out)) hHeld ?_
    simp only [List.setIfInBounds_toArray, List.set_cons_zero, List.set_cons_succ]
    refine take_at (i := 11) 19 rfl rfl (by kernel_rfl) (by kernel_rfl) (by kernel_rfl) (fun _ _ _ h => h) (sure_yes (by rfl) (add_as (l := A3) (m := e.path) (r := A4) rfl rfl rfl (by omega) A4e.out)) hHeld ?_
    simp only [List.setIfInBounds_toArray, List.set_cons_zero, List.set_cons_succ]
    refine take_at (i := 12) 4 rfl rfl (by kernel_rfl) (by kernel_rfl) (by kernel_rfl) (fun _ _ _ h => h) (sure_yes (by rfl) (fun w => by go_simp; try with_reducible rfl)) hHeld ?_
    simp only [List.setIfInBounds_toArray, List.set_cons_zero, List.set_cons_succ]
    refine wpAnyH_done (by kernel_rfl) ?_ _
    obtain ⟨-, -, -, c3, -, -⟩ := evAt_cells hHeld.2
    have BH := Lib.hid hHeld.1
    have EH := Lib.hid hHeld.2
    clear hHeld
    rcases HK.out with ⟨k1, -, -⟩ | ⟨k1, -, -⟩
    · go_upto_region 6 with fail
      refine wp_region_held_drew (S := fun w' => Below w.heap.size w w' ∧ EvAt w' w.heap.size 29 e (.slice ao n cap)) (by kernel_rfl) ⟨drawS BH.out, EH.out⟩ (fun hHeld => ?_)
      generalize wz.drew = wd at hHeld ⊢
      refine take_at (i := 0) 25 rfl rfl (by kernel_rfl) (by kernel_rfl) (by kernel_rfl) (fun _ _ _ h => h) (sure_yes (by rfl) (fun w => by go_simp; try with_reducible rfl)) hHeld ?_
      simp only [List.setIfInBounds_toArray, List.set_cons_zero, List.set_cons_succ]
      refine take_at (i := 1) 26 rfl rfl (by kernel_rfl) (by kernel_rfl) (by kernel_rfl) (fun _ _ _ h => h) (sure_yes (by rfl) (add_as (l := [112, 117, 116, 32]) (m := A4) (r := A5) rfl rfl rfl (by omega) A5e.out)) hHeld ?_
      simp only [List.setIfInBounds_toArray, List.set_cons_zero, List.set_cons_succ]
      refine take_at (i := 2) 27 rfl rfl (by kernel_rfl) (by kernel_rfl) (by kernel_rfl) (fun _ _ _ h => h) (sure_yes (by rfl) (add_as (l := A5) (m := [32]) (r := A6) rfl rfl rfl (by omega) A6e.out)) hHeld ?_
      simp only [List.setIfInBounds_toArray, List.set_cons_zero, List.set_cons_succ]
      refine take_at (i := 3) 28 rfl rfl (by kernel_rfl) (by kernel_rfl) (by kernel_rfl) (fun _ _ _ h => h) (sure_yes (by rfl) (fun w => by go_simp; try with_reducible rfl)) hHeld ?_
      simp only [List.setIfInBounds_toArray, List.set_cons_zero, List.set_cons_succ]
      refine take_at (i := 8) 33 rfl rfl (by kernel_rfl) (by kernel_rfl) (by kernel_rfl) (fun _ _ _ h => h) (sure_yes (by rfl) (fun w => by go_simp; try with_reducible rfl)) hHeld ?_
      simp only [List.setIfInBounds_toArray, List.set_cons_zero, List.set_cons_succ]
      refine take_at (i := 4) 29 rfl rfl (by kernel_rfl) (by kernel_rfl) (by kernel_rfl) (fun _ _ _ h => h) (sum_yields12 (by rfl) 27 (.tmp 28) rfl w.heap.size rfl Tryz.underlying27 sumSize (fun _ h => h.2)) hHeld ?_
      simp only [List.setIfInBounds_toArray, List.set_cons_zero, List.set_cons_succ]
      refine take_at (i := 9) 34 rfl rfl (by kernel_rfl) (by kernel_rfl) (by kernel_rfl) (fun _ _ _ h => h) (cell_yields (by rfl) 3 (.tmp 33) rfl w.heap.size 37 rfl .i64 _ Tryz.underlying3 (fun _ h => (evAt_cells h.2).2.2.2.2.2)) hHeld ?_
      simp only [List.setIfInBounds_toArray, List.set_cons_zero, List.set_cons_succ]
      refine wpAnyH_ready (rs := [5]) (by kernel_rfl) (by simp) ?_
      refine AllReadyH.cons rfl (fun CONT hCONT => ?_) AllReadyH.nil
      go_simp
      go_at_call 41
      refine (XF.out _).mono ?_
      rintro x wz ⟨rfl, hb⟩
      dsimp only
      refine hCONT.out _ _ ⟨below_next hHeld.1 hb, evAt_kept hHeld.2 hb⟩ (fun hHeld => ?_)
      clear hCONT CONT hb
      refine take_at (i := 6) 31 rfl rfl (by kernel_rfl) (by kernel_rfl) (by kernel_rfl) (fun _ _ _ h => h) (sure_yes (by rfl) (add_as (l := A6) (m := TF) (r := A7) rfl rfl rfl (by omega) A7e.out)) hHeld ?_
      simp only [List.setIfInBounds_toArray, List.set_cons_zero, List.set_cons_succ]
      refine take_at (i := 7) 32 rfl rfl (by kernel_rfl) (by kernel_rfl) (by kernel_rfl) (fun _ _ _ h => h) (sure_yes (by rfl) (add_as (l := A7) (m := [32]) (r := A8) rfl rfl rfl (by omega) A8e.out)) hHeld ?_
      simp only [List.setIfInBounds_toArray, List.set_cons_zero, List.set_cons_succ]
      refine wpAnyH_ready (rs := [10]) (by kernel_rfl) (by simp) ?_
      refine AllReadyH.cons rfl (fun CONT hCONT => ?_) AllReadyH.nil
      go_simp
      go_at_call 42
      refine (XN.out _).mono ?_
      rintro x wz ⟨rfl, hb⟩
      dsimp only
      refine hCONT.out _ _ ⟨below_next hHeld.1 hb, evAt_kept hHeld.2 hb⟩ (fun hHeld => ?_)
      clear hCONT CONT hb
      refine take_at (i := 11) 36 rfl rfl (by kernel_rfl) (by kernel_rfl) (by kernel_rfl) (fun _ _ _ h => h) (sure_yes (by rfl) (add_as (l := A8) (m := TN) (r := A9) rfl rfl rfl (by omega) A9e.out)) hHeld ?_
      simp only [List.setIfInBounds_toArray, List.set_cons_zero, List.set_cons_succ]
      refine take_at (i := 12) 2 rfl rfl (by kernel_rfl) (by kernel_rfl) (by kernel_rfl) (fun _ _ _ h => h) (sure_yes (by rfl) (fun w => by go_simp; try with_reducible rfl)) hHeld ?_
      simp only [List.setIfInBounds_toArray, List.set_cons_zero, List.set_cons_succ]
      refine take_at (i := 13) 3 rfl rfl (by kernel_rfl) (by kernel_rfl) (by kernel_rfl) (fun _ _ _ h => h) (sure_yes (by rfl) (fun w => by go_simp; try with_reducible rfl)) hHeld ?_
      simp only [List.setIfInBounds_toArray, List.set_cons_zero, List.set_cons_succ]
      refine wpAnyH_done (by kernel_rfl) ?_ _
      go_wp2
      go_ret2
      exact ⟨by rw [HL.out.1, HL.out.2, L6.out k1]; rfl, hHeld.1⟩
    · go_wp2
      go_ret2
      exact ⟨by rw [HL.out.1, HL.out.2, L4.out k1]; first | rfl | (rw [← str_append]; rfl), BH.out⟩
end Go.Proofs.YteooklnejiipkaaGreatDoor
