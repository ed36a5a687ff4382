/-
Texts that all claims of this seat share, part 7: Ref12, OpenDots, Open12, Parts.
-/
import Derived.Test.YteooklnejiipkaaGreatDoorProg
import Derived.WalkKit
import Derived.ProofKit
import Derived.OpenShut
import Derived.Deep.SlicePairs
import Derived.SizedLaws
import Derived.Test.YteooklnejiipkaaGreatDoorPk6
namespace Go.Proofs.YteooklnejiipkaaGreatDoor
open Go.RowKit
theorem str_yieldsR {P : Program} {ops : Array Oper} {S : World → Prop} {o : Oper} {a : Act} (hw : Region.wanted o (yielded ops a.tmps) = true) (ty : TypeId) (x : Operand) (ho : o.op = .load ty x)
    (ad : Addr) (hx : a.eval x = .pointer (some ad)) (s : ByteArray) (hu : P.underlying ty = some .string) (hS : ∀ w, S w → w.cell? ad = some (.string s)) : YieldsIf P ops S o (.string s) a :=
  .inl ⟨hw, fun w h => by
    have hc := hS w h
    unfold execOp
    simp [ho, hx, Instr.loadAt, Instr.sureAddr, loadVar, isAgg, run_underlying hu, hc]⟩
theorem slice_yieldsR {P : Program} {ops : Array Oper} {S : World → Prop} {o : Oper} {a : Act} (hw : Region.wanted o (yielded ops a.tmps) = true) (ty : TypeId) (x : Operand) (ho : o.op = .load ty x)
    (A : Addr) (hx : a.eval x = .pointer (some A)) (ao : Option Addr) (n c : Nat) {e : TypeId} (hu : P.underlying ty = some (.slice e)) (hS : ∀ w, S w → w.cell? A = some (.slice ao n c)) : YieldsIf P ops S o (.slice ao n c) a :=
  .inl ⟨hw, fun w h => by
    have hc := hS w h
    unfold execOp
    simp [ho, hx, Instr.loadAt, Instr.sureAddr, loadVar, isAgg, run_underlying hu, hc]⟩
set_option maxRecDepth 100000 in
set_option maxHeartbeats 16000000 in
theorem refMay_any12 (e : Ev) (hl : e.deps.length < 2000000) (hp : e.path.length < 1152921504606846976) (v : Value) (w : World) (hv : HasDots w v e.deps) : Calls Tryz.prog 7 #[.agg (evC e v)] w fun x w' => x = .returned (.bool (mayE e)) ∧ Below w.heap.size w w' := by
  have HV := Lib.hid hv
  obtain ⟨n, hn⟩ : ∃ n, n = e.deps.length := ⟨_, rfl⟩
  obtain ⟨ao, cap, rfl⟩ := dots_shape hv n hn
  have E0 := Lib.hid (box_ev w 29 e (.slice ao n cap))
  have B0 := Lib.hid ((Below.refl w.heap.size w).alloc (Nat.le_refl _) (.cells (evC e (.slice ao n cap)) 29 (0, 0)))
  have MD := Lib.hid (fun w => refMay_any9 e.r e.q w)
  have MV := Lib.hid (fun w hv => refMay_any10 e.deps hl (.slice ao n cap) w hv)
  have GV := Lib.hid (fun w hv => refGet_any10 e.deps hl e.r (.slice ao n cap) w hv)
  have OW := Lib.hid (fun w => refOwn_any e.path hp w)
  cases h1 : mayD e.r e.q with
  | false =>
    have HM := Lib.hid (show mayE e = false by simp [mayE, h1])
    rw [h1] at MD
    clear h1 hv hl hp hn
    go_enter Tryz.func7, Tryz.ntmps7
    go_upto_region 1 with fail
    generalize w.alloc (.cells (evC e (.slice ao n cap)) 29 (0, 0)) = W0 at *
    refine wp_region_held_drew (S := fun w' => Below w.heap.size w w' ∧ EvAt w' w.heap.size 29 e (.slice ao n cap)) (by kernel_rfl) ⟨drawS B0.out, E0.out⟩ (fun hHeld => ?_)
    generalize W0.drew = wd at hHeld ⊢
    refine take_at (i := 0) 3 rfl rfl (by kernel_rfl) (by kernel_rfl) (by kernel_rfl) (fun _ _ _ h => h) (sure_yes (by rfl) (fun w => by go_simp; try with_reducible rfl)) hHeld ?_
    simp only [List.setIfInBounds_toArray, List.set_cons_zero, List.set_cons_succ]
    refine take_at (i := 1) 4 rfl rfl (by kernel_rfl) (by kernel_rfl) (by kernel_rfl) (fun _ _ _ h => h) (dot_yields (by rfl) 23 (.tmp 3) rfl ⟨w.heap.size, 0, none⟩ rfl e.r e.q Tryz.underlying23 (by kernel_rfl) (fun _ h => evAt_dot h.2)) hHeld ?_
    simp only [List.setIfInBounds_toArray, List.set_cons_zero, List.set_cons_succ]
    refine wpAnyH_ready (rs := [2]) (by kernel_rfl) (by simp) ?_
    refine AllReadyH.cons rfl (fun CONT hCONT => ?_) AllReadyH.nil
    go_simp
    go_at_call 22
    refine (MD.out _).mono ?_
    rintro x wz ⟨rfl, hb⟩
    dsimp only
    refine hCONT.out _ _ ⟨below_next hHeld.1 hb, evAt_kept hHeld.2 hb⟩ (fun hHeld => ?_)
    clear hCONT CONT hb
    refine take_at (i := 3) 6 rfl rfl (by kernel_rfl) (by kernel_rfl) (by kernel_rfl) (fun _ _ _ h => h) (sure_yes (by rfl) (fun w => by go_simp; try with_reducible rfl)) hHeld ?_
    simp only [List.setIfInBounds_toArray, List.set_cons_zero, List.set_cons_succ]
    refine take_at (i := 4) 7 rfl rfl (by kernel_rfl) (by kernel_rfl) (by kernel_rfl) (fun _ _ _ h => h) (sure_yes (by rfl) (fun w => by go_simp; try with_reducible rfl)) hHeld ?_
    simp only [List.setIfInBounds_toArray, List.set_cons_zero, List.set_cons_succ]
    refine take_at (i := 5) 8 rfl rfl (by kernel_rfl) (by kernel_rfl) (by kernel_rfl) (fun _ _ _ h => h) (.inr ⟨by rfl, rfl⟩) hHeld ?_
    simp only [List.setIfInBounds_toArray, List.set_cons_zero, List.set_cons_succ]
    refine take_at (i := 6) 9 rfl rfl (by kernel_rfl) (by kernel_rfl) (by kernel_rfl) (fun _ _ _ h => h) (.inr ⟨by rfl, rfl⟩) hHeld ?_
    simp only [List.setIfInBounds_toArray, List.set_cons_zero, List.set_cons_succ]
    refine take_at (i := 7) 10 rfl rfl (by kernel_rfl) (by kernel_rfl) (by kernel_rfl) (fun _ _ _ h => h) (.inr ⟨by rfl, rfl⟩) hHeld ?_
    simp only [List.setIfInBounds_toArray, List.set_cons_zero, List.set_cons_succ]
    refine take_at (i := 8) 11 rfl rfl (by kernel_rfl) (by kernel_rfl) (by kernel_rfl) (fun _ _ _ h => h) (.inr ⟨by rfl, rfl⟩) hHeld ?_
    simp only [List.setIfInBounds_toArray, List.set_cons_zero, List.set_cons_succ]
    refine take_at (i := 9) 12 rfl rfl (by kernel_rfl) (by kernel_rfl) (by kernel_rfl) (fun _ _ _ h => h) (sure_yes (by rfl) (fun w => by go_simp; try with_reducible rfl)) hHeld ?_
    simp only [List.setIfInBounds_toArray, List.set_cons_zero, List.set_cons_succ]
    refine take_at (i := 10) 13 rfl rfl (by kernel_rfl) (by kernel_rfl) (by kernel_rfl) (fun _ _ _ h => h) (sure_yes (by rfl) (fun w => by go_simp; try with_reducible rfl)) hHeld ?_
    simp only [List.setIfInBounds_toArray, List.set_cons_zero, List.set_cons_succ]
    refine take_at (i := 11) 14 rfl rfl (by kernel_rfl) (by kernel_rfl) (by kernel_rfl) (fun _ _ _ h => h) (.inr ⟨by rfl, rfl⟩) hHeld ?_
    simp only [List.setIfInBounds_toArray, List.set_cons_zero, List.set_cons_succ]
    refine take_at (i := 12) 15 rfl rfl (by kernel_rfl) (by kernel_rfl) (by kernel_rfl) (fun _ _ _ h => h) (.inr ⟨by rfl, rfl⟩) hHeld ?_
    simp only [List.setIfInBounds_toArray, List.set_cons_zero, List.set_cons_succ]
    refine take_at (i := 13) 16 rfl rfl (by kernel_rfl) (by kernel_rfl) (by kernel_rfl) (fun _ _ _ h => h) (.inr ⟨by rfl, rfl⟩) hHeld ?_
    simp only [List.setIfInBounds_toArray, List.set_cons_zero, List.set_cons_succ]
    refine take_at (i := 14) 17 rfl rfl (by kernel_rfl) (by kernel_rfl) (by kernel_rfl) (fun _ _ _ h => h) (.inr ⟨by rfl, rfl⟩) hHeld ?_
    simp only [List.setIfInBounds_toArray, List.set_cons_zero, List.set_cons_succ]
    refine take_at (i := 15) 18 rfl rfl (by kernel_rfl) (by kernel_rfl) (by kernel_rfl) (fun _ _ _ h => h) (.inr ⟨by rfl, rfl⟩) hHeld ?_
    simp only [List.setIfInBounds_toArray, List.set_cons_zero, List.set_cons_succ]
    refine take_at (i := 16) 19 rfl rfl (by kernel_rfl) (by kernel_rfl) (by kernel_rfl) (fun _ _ _ h => h) (.inr ⟨by rfl, rfl⟩) hHeld ?_
    simp only [List.setIfInBounds_toArray, List.set_cons_zero, List.set_cons_succ]
    refine take_at (i := 17) 20 rfl rfl (by kernel_rfl) (by kernel_rfl) (by kernel_rfl) (fun _ _ _ h => h) (.inr ⟨by rfl, rfl⟩) hHeld ?_
    simp only [List.setIfInBounds_toArray, List.set_cons_zero, List.set_cons_succ]
    refine take_at (i := 18) 21 rfl rfl (by kernel_rfl) (by kernel_rfl) (by kernel_rfl) (fun _ _ _ h => h) (.inr ⟨by rfl, rfl⟩) hHeld ?_
    simp only [List.setIfInBounds_toArray, List.set_cons_zero, List.set_cons_succ]
    refine take_at (i := 19) 22 rfl rfl (by kernel_rfl) (by kernel_rfl) (by kernel_rfl) (fun _ _ _ h => h) (.inr ⟨by rfl, rfl⟩) hHeld ?_
    simp only [List.setIfInBounds_toArray, List.set_cons_zero, List.set_cons_succ]
    refine take_at (i := 20) 23 rfl rfl (by kernel_rfl) (by kernel_rfl) (by kernel_rfl) (fun _ _ _ h => h) (.inr ⟨by rfl, rfl⟩) hHeld ?_
    simp only [List.setIfInBounds_toArray, List.set_cons_zero, List.set_cons_succ]
    refine take_at (i := 21) 24 rfl rfl (by kernel_rfl) (by kernel_rfl) (by kernel_rfl) (fun _ _ _ h => h) (.inr ⟨by rfl, rfl⟩) hHeld ?_
    simp only [List.setIfInBounds_toArray, List.set_cons_zero, List.set_cons_succ]
    refine take_at (i := 22) 25 rfl rfl (by kernel_rfl) (by kernel_rfl) (by kernel_rfl) (fun _ _ _ h => h) (sure_yes (by rfl) (fun w => by go_simp; try with_reducible rfl)) hHeld ?_
    simp only [List.setIfInBounds_toArray, List.set_cons_zero, List.set_cons_succ]
    refine take_at (i := 23) 26 rfl rfl (by kernel_rfl) (by kernel_rfl) (by kernel_rfl) (fun _ _ _ h => h) (sure_yes (by rfl) (fun w => by go_simp; try with_reducible rfl)) hHeld ?_
    simp only [List.setIfInBounds_toArray, List.set_cons_zero, List.set_cons_succ]
    refine take_at (i := 24) 27 rfl rfl (by kernel_rfl) (by kernel_rfl) (by kernel_rfl) (fun _ _ _ h => h) (.inr ⟨by rfl, rfl⟩) hHeld ?_
    simp only [List.setIfInBounds_toArray, List.set_cons_zero, List.set_cons_succ]
    refine take_at (i := 25) 28 rfl rfl (by kernel_rfl) (by kernel_rfl) (by kernel_rfl) (fun _ _ _ h => h) (.inr ⟨by rfl, rfl⟩) hHeld ?_
    simp only [List.setIfInBounds_toArray, List.set_cons_zero, List.set_cons_succ]
    refine take_at (i := 26) 29 rfl rfl (by kernel_rfl) (by kernel_rfl) (by kernel_rfl) (fun _ _ _ h => h) (.inr ⟨by rfl, rfl⟩) hHeld ?_
    simp only [List.setIfInBounds_toArray, List.set_cons_zero, List.set_cons_succ]
    refine take_at (i := 27) 30 rfl rfl (by kernel_rfl) (by kernel_rfl) (by kernel_rfl) (fun _ _ _ h => h) (.inr ⟨by rfl, rfl⟩) hHeld ?_
    simp only [List.setIfInBounds_toArray, List.set_cons_zero, List.set_cons_succ]
    refine take_at (i := 28) 31 rfl rfl (by kernel_rfl) (by kernel_rfl) (by kernel_rfl) (fun _ _ _ h => h) (sure_yes (by rfl) (fun w => by go_simp; try with_reducible rfl)) hHeld ?_
    simp only [List.setIfInBounds_toArray, List.set_cons_zero, List.set_cons_succ]
    refine wpAnyH_done (by kernel_rfl) ?_ _
    go_wp2
    go_ret
    exact ⟨by rw [HM.out]; rfl, hHeld.1⟩
  | true =>
    obtain ⟨p, hpq⟩ : ∃ p, e.q - 1 = p := ⟨_, rfl⟩
    have hq0 := mayT_bd (d := (e.r, e.q)) h1
    have hw : IntKind.i64.wrap (e.q - 1) = p := by dsimp only at hq0; rw [hpq, IntKind.wrap_i64]; omega
    rw [h1] at MD
    cases h2 : mayV e.deps with
    | false =>
      have HM := Lib.hid (show mayE e = false by simp [mayE, knownE, h2])
      rw [h2] at MV
      clear h1 h2 hv hl hp hn hpq hq0 hw
      go_enter Tryz.func7, Tryz.ntmps7
      go_upto_region 1 with fail
      generalize w.alloc (.cells (evC e (.slice ao n cap)) 29 (0, 0)) = W0 at *
      refine wp_region_held_drew (S := fun w' => Below w.heap.size w w' ∧ EvAt w' w.heap.size 29 e (.slice ao n cap)) (by kernel_rfl) ⟨drawS B0.out, E0.out⟩ (fun hHeld => ?_)
      generalize W0.drew = wd at hHeld ⊢
      refine take_at (i := 0) 3 rfl rfl (by kernel_rfl) (by kernel_rfl) (by kernel_rfl) (fun _ _ _ h => h) (sure_yes (by rfl) (fun w => by go_simp; try with_reducible rfl)) hHeld ?_
      simp only [List.setIfInBounds_toArray, List.set_cons_zero, List.set_cons_succ]
      refine take_at (i := 1) 4 rfl rfl (by kernel_rfl) (by kernel_rfl) (by kernel_rfl) (fun _ _ _ h => h) (dot_yields (by rfl) 23 (.tmp 3) rfl ⟨w.heap.size, 0, none⟩ rfl e.r e.q Tryz.underlying23 (by kernel_rfl) (fun _ h => evAt_dot h.2)) hHeld ?_
      simp only [List.setIfInBounds_toArray, List.set_cons_zero, List.set_cons_succ]
      refine wpAnyH_ready (rs := [2]) (by kernel_rfl) (by simp) ?_
      refine AllReadyH.cons rfl (fun CONT hCONT => ?_) AllReadyH.nil
      go_simp
      go_at_call 22
      refine (MD.out _).mono ?_
      rintro x wz ⟨rfl, hb⟩
      dsimp only
      refine hCONT.out _ _ ⟨below_next hHeld.1 hb, evAt_kept hHeld.2 hb⟩ (fun hHeld => ?_)
      clear hCONT CONT hb
      refine take_at (i := 3) 6 rfl rfl (by kernel_rfl) (by kernel_rfl) (by kernel_rfl) (fun _ _ _ h => h) (sure_yes (by rfl) (fun w => by go_simp; try with_reducible rfl)) hHeld ?_
      simp only [List.setIfInBounds_toArray, List.set_cons_zero, List.set_cons_succ]
      refine take_at (i := 4) 7 rfl rfl (by kernel_rfl) (by kernel_rfl) (by kernel_rfl) (fun _ _ _ h => h) (sure_yes (by rfl) (fun w => by go_simp; try with_reducible rfl)) hHeld ?_
      simp only [List.setIfInBounds_toArray, List.set_cons_zero, List.set_cons_succ]
      refine take_at (i := 5) 8 rfl rfl (by kernel_rfl) (by kernel_rfl) (by kernel_rfl) (fun _ _ _ h => h) (sure_yes (by rfl) (fun w => by go_simp; try with_reducible rfl)) hHeld ?_
      simp only [List.setIfInBounds_toArray, List.set_cons_zero, List.set_cons_succ]
      refine take_at (i := 6) 9 rfl rfl (by kernel_rfl) (by kernel_rfl) (by kernel_rfl) (fun _ _ _ h => h) (slice_yieldsR (by rfl) 25 (.tmp 8) rfl ⟨w.heap.size, 2, none⟩ rfl ao n cap Tryz.underlying25 (fun _ h => (evAt_cells h.2).2.2.1)) hHeld ?_
      simp only [List.setIfInBounds_toArray, List.set_cons_zero, List.set_cons_succ]
      refine wpAnyH_ready (rs := [7]) (by kernel_rfl) (by simp) ?_
      refine AllReadyH.cons rfl (fun CONT hCONT => ?_) AllReadyH.nil
      go_simp
      go_at_call 23
      refine (MV.out _ (dots_below HV.out hHeld.1)).mono ?_
      rintro x wz ⟨rfl, hb⟩
      dsimp only
      refine hCONT.out _ _ ⟨below_next hHeld.1 hb, evAt_kept hHeld.2 hb⟩ (fun hHeld => ?_)
      clear hCONT CONT hb
      refine take_at (i := 8) 11 rfl rfl (by kernel_rfl) (by kernel_rfl) (by kernel_rfl) (fun _ _ _ h => h) (sure_yes (by rfl) (fun w => by go_simp; try with_reducible rfl)) hHeld ?_
      simp only [List.setIfInBounds_toArray, List.set_cons_zero, List.set_cons_succ]
      refine take_at (i := 9) 12 rfl rfl (by kernel_rfl) (by kernel_rfl) (by kernel_rfl) (fun _ _ _ h => h) (sure_yes (by rfl) (fun w => by go_simp; try with_reducible rfl)) hHeld ?_
      simp only [List.setIfInBounds_toArray, List.set_cons_zero, List.set_cons_succ]
      refine take_at (i := 10) 13 rfl rfl (by kernel_rfl) (by kernel_rfl) (by kernel_rfl) (fun _ _ _ h => h) (sure_yes (by rfl) (fun w => by go_simp; try with_reducible rfl)) hHeld ?_
      simp only [List.setIfInBounds_toArray, List.set_cons_zero, List.set_cons_succ]
      refine take_at (i := 11) 14 rfl rfl (by kernel_rfl) (by kernel_rfl) (by kernel_rfl) (fun _ _ _ h => h) (.inr ⟨by rfl, rfl⟩) hHeld ?_
      simp only [List.setIfInBounds_toArray, List.set_cons_zero, List.set_cons_succ]
      refine take_at (i := 12) 15 rfl rfl (by kernel_rfl) (by kernel_rfl) (by kernel_rfl) (fun _ _ _ h => h) (.inr ⟨by rfl, rfl⟩) hHeld ?_
      simp only [List.setIfInBounds_toArray, List.set_cons_zero, List.set_cons_succ]
      refine take_at (i := 13) 16 rfl rfl (by kernel_rfl) (by kernel_rfl) (by kernel_rfl) (fun _ _ _ h => h) (.inr ⟨by rfl, rfl⟩) hHeld ?_
      simp only [List.setIfInBounds_toArray, List.set_cons_zero, List.set_cons_succ]
      refine take_at (i := 14) 17 rfl rfl (by kernel_rfl) (by kernel_rfl) (by kernel_rfl) (fun _ _ _ h => h) (.inr ⟨by rfl, rfl⟩) hHeld ?_
      simp only [List.setIfInBounds_toArray, List.set_cons_zero, List.set_cons_succ]
      refine take_at (i := 15) 18 rfl rfl (by kernel_rfl) (by kernel_rfl) (by kernel_rfl) (fun _ _ _ h => h) (.inr ⟨by rfl, rfl⟩) hHeld ?_
      simp only [List.setIfInBounds_toArray, List.set_cons_zero, List.set_cons_succ]
      refine take_at (i := 16) 19 rfl rfl (by kernel_rfl) (by kernel_rfl) (by kernel_rfl) (fun _ _ _ h => h) (.inr ⟨by rfl, rfl⟩) hHeld ?_
      simp only [List.setIfInBounds_toArray, List.set_cons_zero, List.set_cons_succ]
      refine take_at (i := 17) 20 rfl rfl (by kernel_rfl) (by kernel_rfl) (by kernel_rfl) (fun _ _ _ h => h) (.inr ⟨by rfl, rfl⟩) hHeld ?_
      simp only [List.setIfInBounds_toArray, List.set_cons_zero, List.set_cons_succ]
      refine take_at (i := 18) 21 rfl rfl (by kernel_rfl) (by kernel_rfl) (by kernel_rfl) (fun _ _ _ h => h) (.inr ⟨by rfl, rfl⟩) hHeld ?_
      simp only [List.setIfInBounds_toArray, List.set_cons_zero, List.set_cons_succ]
      refine take_at (i := 19) 22 rfl rfl (by kernel_rfl) (by kernel_rfl) (by kernel_rfl) (fun _ _ _ h => h) (.inr ⟨by rfl, rfl⟩) hHeld ?_
      simp only [List.setIfInBounds_toArray, List.set_cons_zero, List.set_cons_succ]
      refine take_at (i := 20) 23 rfl rfl (by kernel_rfl) (by kernel_rfl) (by kernel_rfl) (fun _ _ _ h => h) (.inr ⟨by rfl, rfl⟩) hHeld ?_
      simp only [List.setIfInBounds_toArray, List.set_cons_zero, List.set_cons_succ]
      refine take_at (i := 21) 24 rfl rfl (by kernel_rfl) (by kernel_rfl) (by kernel_rfl) (fun _ _ _ h => h) (.inr ⟨by rfl, rfl⟩) hHeld ?_
      simp only [List.setIfInBounds_toArray, List.set_cons_zero, List.set_cons_succ]
      refine take_at (i := 22) 25 rfl rfl (by kernel_rfl) (by kernel_rfl) (by kernel_rfl) (fun _ _ _ h => h) (sure_yes (by rfl) (fun w => by go_simp; try with_reducible rfl)) hHeld ?_
      simp only [List.setIfInBounds_toArray, List.set_cons_zero, List.set_cons_succ]
      refine take_at (i := 23) 26 rfl rfl (by kernel_rfl) (by kernel_rfl) (by kernel_rfl) (fun _ _ _ h => h) (sure_yes (by rfl) (fun w => by go_simp; try with_reducible rfl)) hHeld ?_
      simp only [List.setIfInBounds_toArray, List.set_cons_zero, List.set_cons_succ]
      refine take_at (i := 24) 27 rfl rfl (by kernel_rfl) (by kernel_rfl) (by kernel_rfl) (fun _ _ _ h => h) (.inr ⟨by rfl, rfl⟩) hHeld ?_
      simp only [List.setIfInBounds_toArray, List.set_cons_zero, List.set_cons_succ]
      refine take_at (i := 25) 28 rfl rfl (by kernel_rfl) (by kernel_rfl) (by kernel_rfl) (fun _ _ _ h => h) (.inr ⟨by rfl, rfl⟩) hHeld ?_
      simp only [List.setIfInBounds_toArray, List.set_cons_zero, List.set_cons_succ]
      refine take_at (i := 26) 29 rfl rfl (by kernel_rfl) (by kernel_rfl) (by kernel_rfl) (fun _ _ _ h => h) (.inr ⟨by rfl, rfl⟩) hHeld ?_
      simp only [List.setIfInBounds_toArray, List.set_cons_zero, List.set_cons_succ]
      refine take_at (i := 27) 30 rfl rfl (by kernel_rfl) (by kernel_rfl) (by kernel_rfl) (fun _ _ _ h => h) (.inr ⟨by rfl, rfl⟩) hHeld ?_
      simp only [List.setIfInBounds_toArray, List.set_cons_zero, List.set_cons_succ]
      refine take_at (i := 28) 31 rfl rfl (by kernel_rfl) (by kernel_rfl) (by kernel_rfl) (fun _ _ _ h => h) (sure_yes (by rfl) (fun w => by go_simp; try with_reducible rfl)) hHeld ?_
      simp only [List.setIfInBounds_toArray, List.set_cons_zero, List.set_cons_succ]
      refine wpAnyH_done (by kernel_rfl) ?_ _
      go_wp2
      go_ret
      exact ⟨by rw [HM.out]; rfl, hHeld.1⟩
    | true =>
      rw [h2] at MV
      by_cases h3 : getV e.deps e.r = p
      · rw [h3] at GV
        have q5 : (p != p) = false := by simp
        cases h4 : ownP e.path with
        | false =>
          have HM := Lib.hid (show mayE e = false by simp [mayE, h4])
          rw [h4] at OW
          clear h1 h2 h3 h4 hv hl hp hn hpq hq0
          go_enter Tryz.func7, Tryz.ntmps7
          go_upto_region 1 with fail
          generalize w.alloc (.cells (evC e (.slice ao n cap)) 29 (0, 0)) = W0 at *
          refine wp_region_held_drew (S := fun w' => Below w.heap.size w w' ∧ EvAt w' w.heap.size 29 e (.slice ao n cap)) (by kernel_rfl) ⟨drawS B0.out, E0.out⟩ (fun hHeld => ?_)
          generalize W0.drew = wd at hHeld ⊢
          refine take_at (i := 0) 3 rfl rfl (by kernel_rfl) (by kernel_rfl) (by kernel_rfl) (fun _ _ _ h => h) (sure_yes (by rfl) (fun w => by go_simp; try with_reducible rfl)) hHeld ?_
          simp only [List.setIfInBounds_toArray, List.set_cons_zero, List.set_cons_succ]
          refine take_at (i := 1) 4 rfl rfl (by kernel_rfl) (by kernel_rfl) (by kernel_rfl) (fun _ _ _ h => h) (dot_yields (by rfl) 23 (.tmp 3) rfl ⟨w.heap.size, 0, none⟩ rfl e.r e.q Tryz.underlying23 (by kernel_rfl) (fun _ h => evAt_dot h.2)) hHeld ?_
          simp only [List.setIfInBounds_toArray, List.set_cons_zero, List.set_cons_succ]
          refine wpAnyH_ready (rs := [2]) (by kernel_rfl) (by simp) ?_
          refine AllReadyH.cons rfl (fun CONT hCONT => ?_) AllReadyH.nil
          go_simp
          go_at_call 22
          refine (MD.out _).mono ?_
          rintro x wz ⟨rfl, hb⟩
          dsimp only
          refine hCONT.out _ _ ⟨below_next hHeld.1 hb, evAt_kept hHeld.2 hb⟩ (fun hHeld => ?_)
          clear hCONT CONT hb
          refine take_at (i := 3) 6 rfl rfl (by kernel_rfl) (by kernel_rfl) (by kernel_rfl) (fun _ _ _ h => h) (sure_yes (by rfl) (fun w => by go_simp; try with_reducible rfl)) hHeld ?_
          simp only [List.setIfInBounds_toArray, List.set_cons_zero, List.set_cons_succ]
          refine take_at (i := 4) 7 rfl rfl (by kernel_rfl) (by kernel_rfl) (by kernel_rfl) (fun _ _ _ h => h) (sure_yes (by rfl) (fun w => by go_simp; try with_reducible rfl)) hHeld ?_
          simp only [List.setIfInBounds_toArray, List.set_cons_zero, List.set_cons_succ]
          refine take_at (i := 5) 8 rfl rfl (by kernel_rfl) (by kernel_rfl) (by kernel_rfl) (fun _ _ _ h => h) (sure_yes (by rfl) (fun w => by go_simp; try with_reducible rfl)) hHeld ?_
          simp only [List.setIfInBounds_toArray, List.set_cons_zero, List.set_cons_succ]
          refine take_at (i := 6) 9 rfl rfl (by kernel_rfl) (by kernel_rfl) (by kernel_rfl) (fun _ _ _ h => h) (slice_yieldsR (by rfl) 25 (.tmp 8) rfl ⟨w.heap.size, 2, none⟩ rfl ao n cap Tryz.underlying25 (fun _ h => (evAt_cells h.2).2.2.1)) hHeld ?_
          simp only [List.setIfInBounds_toArray, List.set_cons_zero, List.set_cons_succ]
          refine wpAnyH_ready (rs := [7]) (by kernel_rfl) (by simp) ?_
          refine AllReadyH.cons rfl (fun CONT hCONT => ?_) AllReadyH.nil
          go_simp
          go_at_call 23
          refine (MV.out _ (dots_below HV.out hHeld.1)).mono ?_
          rintro x wz ⟨rfl, hb⟩
          dsimp only
          refine hCONT.out _ _ ⟨below_next hHeld.1 hb, evAt_kept hHeld.2 hb⟩ (fun hHeld => ?_)
          clear hCONT CONT hb
          refine take_at (i := 8) 11 rfl rfl (by kernel_rfl) (by kernel_rfl) (by kernel_rfl) (fun _ _ _ h => h) (sure_yes (by rfl) (fun w => by go_simp; try with_reducible rfl)) hHeld ?_
          simp only [List.setIfInBounds_toArray, List.set_cons_zero, List.set_cons_succ]
          refine take_at (i := 9) 12 rfl rfl (by kernel_rfl) (by kernel_rfl) (by kernel_rfl) (fun _ _ _ h => h) (sure_yes (by rfl) (fun w => by go_simp; try with_reducible rfl)) hHeld ?_
          simp only [List.setIfInBounds_toArray, List.set_cons_zero, List.set_cons_succ]
          refine take_at (i := 10) 13 rfl rfl (by kernel_rfl) (by kernel_rfl) (by kernel_rfl) (fun _ _ _ h => h) (sure_yes (by rfl) (fun w => by go_simp; try with_reducible rfl)) hHeld ?_
          simp only [List.setIfInBounds_toArray, List.set_cons_zero, List.set_cons_succ]
          refine take_at (i := 11) 14 rfl rfl (by kernel_rfl) (by kernel_rfl) (by kernel_rfl) (fun _ _ _ h => h) (sure_yes (by rfl) (fun w => by go_simp; try with_reducible rfl)) hHeld ?_
          simp only [List.setIfInBounds_toArray, List.set_cons_zero, List.set_cons_succ]
          refine take_at (i := 13) 16 rfl rfl (by kernel_rfl) (by kernel_rfl) (by kernel_rfl) (fun _ _ _ h => h) (sure_yes (by rfl) (fun w => by go_simp; try with_reducible rfl)) hHeld ?_
          simp only [List.setIfInBounds_toArray, List.set_cons_zero, List.set_cons_succ]
          refine take_at (i := 14) 17 rfl rfl (by kernel_rfl) (by kernel_rfl) (by kernel_rfl) (fun _ _ _ h => h) (sure_yes (by rfl) (fun w => by go_simp; try with_reducible rfl)) hHeld ?_
          simp only [List.setIfInBounds_toArray, List.set_cons_zero, List.set_cons_succ]
          refine take_at (i := 17) 20 rfl rfl (by kernel_rfl) (by kernel_rfl) (by kernel_rfl) (fun _ _ _ h => h) (sure_yes (by rfl) (fun w => by go_simp; try with_reducible rfl)) hHeld ?_
          simp only [List.setIfInBounds_toArray, List.set_cons_zero, List.set_cons_succ]
          refine take_at (i := 18) 21 rfl rfl (by kernel_rfl) (by kernel_rfl) (by kernel_rfl) (fun _ _ _ h => h) (sure_yes (by rfl) (fun w => by go_simp; try with_reducible rfl)) hHeld ?_
          simp only [List.setIfInBounds_toArray, List.set_cons_zero, List.set_cons_succ]
          refine take_at (i := 12) 15 rfl rfl (by kernel_rfl) (by kernel_rfl) (by kernel_rfl) (fun _ _ _ h => h) (slice_yieldsR (by rfl) 25 (.tmp 14) rfl ⟨w.heap.size, 2, none⟩ rfl ao n cap Tryz.underlying25 (fun _ h => (evAt_cells h.2).2.2.1)) hHeld ?_
          simp only [List.setIfInBounds_toArray, List.set_cons_zero, List.set_cons_succ]
          refine take_at (i := 15) 18 rfl rfl (by kernel_rfl) (by kernel_rfl) (by kernel_rfl) (fun _ _ _ h => h) (cell_yields (by rfl) 3 (.tmp 17) rfl w.heap.size 0 rfl .i64 _ Tryz.underlying3 (fun _ h => (evAt_cells h.2).1)) hHeld ?_
          simp only [List.setIfInBounds_toArray, List.set_cons_zero, List.set_cons_succ]
          refine take_at (i := 19) 22 rfl rfl (by kernel_rfl) (by kernel_rfl) (by kernel_rfl) (fun _ _ _ h => h) (cell_yields (by rfl) 2 (.tmp 21) rfl w.heap.size 1 rfl .i64 _ Tryz.underlying2 (fun _ h => (evAt_cells h.2).2.1)) hHeld ?_
          simp only [List.setIfInBounds_toArray, List.set_cons_zero, List.set_cons_succ]
          refine take_at (i := 20) 23 rfl rfl (by kernel_rfl) (by kernel_rfl) (by kernel_rfl) (fun _ _ _ h => h) (sure_yes (by rfl) (fun w => by go_simp; try with_reducible rfl)) hHeld ?_
          simp only [List.setIfInBounds_toArray, List.set_cons_zero, List.set_cons_succ]
          refine wpAnyH_ready (rs := [16]) (by kernel_rfl) (by simp) ?_
          refine AllReadyH.cons rfl (fun CONT hCONT => ?_) AllReadyH.nil
          go_simp
          go_at_call 24
          refine (GV.out _ (dots_below HV.out hHeld.1)).mono ?_
          rintro x wz ⟨rfl, hb⟩
          dsimp only
          refine hCONT.out _ _ ⟨below_next hHeld.1 hb, evAt_kept hHeld.2 hb⟩ (fun hHeld => ?_)
          clear hCONT CONT hb
          refine take_at (i := 21) 24 rfl rfl (by kernel_rfl) (by kernel_rfl) (by kernel_rfl) (fun _ _ _ h => h) (sure_yes (by rfl) (fun w => by go_simp; try with_reducible rfl)) hHeld ?_
          simp only [List.setIfInBounds_toArray, List.set_cons_zero, List.set_cons_succ]
          refine take_at (i := 22) 25 rfl rfl (by kernel_rfl) (by kernel_rfl) (by kernel_rfl) (fun _ _ _ h => h) (sure_yes (by rfl) (fun w => by go_simp; try with_reducible rfl)) hHeld ?_
          simp only [List.setIfInBounds_toArray, List.set_cons_zero, List.set_cons_succ]
          refine take_at (i := 23) 26 rfl rfl (by kernel_rfl) (by kernel_rfl) (by kernel_rfl) (fun _ _ _ h => h) (sure_yes (by rfl) (fun w => by go_simp; try with_reducible rfl)) hHeld ?_
          simp only [List.setIfInBounds_toArray, List.set_cons_zero, List.set_cons_succ]
          refine take_at (i := 24) 27 rfl rfl (by kernel_rfl) (by kernel_rfl) (by kernel_rfl) (fun _ _ _ h => h) (sure_yes (by rfl) (fun w => by go_simp; try with_reducible rfl)) hHeld ?_
          simp only [List.setIfInBounds_toArray, List.set_cons_zero, List.set_cons_succ]
          refine take_at (i := 25) 28 rfl rfl (by kernel_rfl) (by kernel_rfl) (by kernel_rfl) (fun _ _ _ h => h) (str_yieldsR (by rfl) 9 (.tmp 27) rfl ⟨w.heap.size, 4, none⟩ rfl _ Tryz.underlying9 (fun _ h => (evAt_cells h.2).2.2.2.2.1)) hHeld ?_
          simp only [List.setIfInBounds_toArray, List.set_cons_zero, List.set_cons_succ]
          refine wpAnyH_ready (rs := [26]) (by kernel_rfl) (by simp) ?_
          refine AllReadyH.cons rfl (fun CONT hCONT => ?_) AllReadyH.nil
          go_simp
          go_at_call 25
          refine (OW.out _).mono ?_
          rintro x wz ⟨rfl, hb⟩
          dsimp only
          refine hCONT.out _ _ ⟨below_next hHeld.1 hb, evAt_kept hHeld.2 hb⟩ (fun hHeld => ?_)
          clear hCONT CONT hb
          refine take_at (i := 27) 30 rfl rfl (by kernel_rfl) (by kernel_rfl) (by kernel_rfl) (fun _ _ _ h => h) (sure_yes (by rfl) (fun w => by go_simp; try with_reducible rfl)) hHeld ?_
          simp only [List.setIfInBounds_toArray, List.set_cons_zero, List.set_cons_succ]
          refine take_at (i := 28) 31 rfl rfl (by kernel_rfl) (by kernel_rfl) (by kernel_rfl) (fun _ _ _ h => h) (sure_yes (by rfl) (fun w => by go_simp; try with_reducible rfl)) hHeld ?_
          simp only [List.setIfInBounds_toArray, List.set_cons_zero, List.set_cons_succ]
          refine wpAnyH_done (by kernel_rfl) ?_ _
          go_wp2
          go_ret
          exact ⟨by rw [HM.out]; rfl, hHeld.1⟩
        | true =>
          have HQ := Lib.hid (show mayE e = mayH e by rw [← hpq] at h3; simp [mayE, knownE, h1, h2, h3, h4])
          obtain ⟨b, hb⟩ : ∃ b, sameRow 32 e.sum zeroF = b := ⟨_, rfl⟩
          have HB := Lib.hid hb
          have hq := eql_rowV (P := Tryz.prog) Tryz.underlying27 Tryz.underlying5 cellsByte e.sum zeroF hb
          have hg := guard_rowV (P := Tryz.prog) digestGuard (.tmp 53) (.tmp 54) .u8 32 e.sum zeroF
          rw [zero_row] at hq hg
          rw [h4] at OW
          clear h1 h2 h3 h4 hv hl hp hn hpq hq0 hb
          go_enter Tryz.func7, Tryz.ntmps7
          go_upto_region 1 with fail
          generalize w.alloc (.cells (evC e (.slice ao n cap)) 29 (0, 0)) = W0 at *
          refine wp_region_held_drew (S := fun w' => Below w.heap.size w w' ∧ EvAt w' w.heap.size 29 e (.slice ao n cap)) (by kernel_rfl) ⟨drawS B0.out, E0.out⟩ (fun hHeld => ?_)
          generalize W0.drew = wd at hHeld ⊢
          refine take_at (i := 0) 3 rfl rfl (by kernel_rfl) (by kernel_rfl) (by kernel_rfl) (fun _ _ _ h => h) (sure_yes (by rfl) (fun w => by go_simp; try with_reducible rfl)) hHeld ?_
          simp only [List.setIfInBounds_toArray, List.set_cons_zero, List.set_cons_succ]
          refine take_at (i := 1) 4 rfl rfl (by kernel_rfl) (by kernel_rfl) (by kernel_rfl) (fun _ _ _ h => h) (dot_yields (by rfl) 23 (.tmp 3) rfl ⟨w.heap.size, 0, none⟩ rfl e.r e.q Tryz.underlying23 (by kernel_rfl) (fun _ h => evAt_dot h.2)) hHeld ?_
          simp only [List.setIfInBounds_toArray, List.set_cons_zero, List.set_cons_succ]
          refine wpAnyH_ready (rs := [2]) (by kernel_rfl) (by simp) ?_
          refine AllReadyH.cons rfl (fun CONT hCONT => ?_) AllReadyH.nil
          go_simp
          go_at_call 22
          refine (MD.out _).mono ?_
          rintro x wz ⟨rfl, hb⟩
          dsimp only
          refine hCONT.out _ _ ⟨below_next hHeld.1 hb, evAt_kept hHeld.2 hb⟩ (fun hHeld => ?_)
          clear hCONT CONT hb
          refine take_at (i := 3) 6 rfl rfl (by kernel_rfl) (by kernel_rfl) (by kernel_rfl) (fun _ _ _ h => h) (sure_yes (by rfl) (fun w => by go_simp; try with_reducible rfl)) hHeld ?_
          simp only [List.setIfInBounds_toArray, List.set_cons_zero, List.set_cons_succ]
          refine take_at (i := 4) 7 rfl rfl (by kernel_rfl) (by kernel_rfl) (by kernel_rfl) (fun _ _ _ h => h) (sure_yes (by rfl) (fun w => by go_simp; try with_reducible rfl)) hHeld ?_
          simp only [List.setIfInBounds_toArray, List.set_cons_zero, List.set_cons_succ]
          refine take_at (i := 5) 8 rfl rfl (by kernel_rfl) (by kernel_rfl) (by kernel_rfl) (fun _ _ _ h => h) (sure_yes (by rfl) (fun w => by go_simp; try with_reducible rfl)) hHeld ?_
          simp only [List.setIfInBounds_toArray, List.set_cons_zero, List.set_cons_succ]
          refine take_at (i := 6) 9 rfl rfl (by kernel_rfl) (by kernel_rfl) (by kernel_rfl) (fun _ _ _ h => h) (slice_yieldsR (by rfl) 25 (.tmp 8) rfl ⟨w.heap.size, 2, none⟩ rfl ao n cap Tryz.underlying25 (fun _ h => (evAt_cells h.2).2.2.1)) hHeld ?_
          simp only [List.setIfInBounds_toArray, List.set_cons_zero, List.set_cons_succ]
          refine wpAnyH_ready (rs := [7]) (by kernel_rfl) (by simp) ?_
          refine AllReadyH.cons rfl (fun CONT hCONT => ?_) AllReadyH.nil
          go_simp
          go_at_call 23
          refine (MV.out _ (dots_below HV.out hHeld.1)).mono ?_
          rintro x wz ⟨rfl, hb⟩
          dsimp only
          refine hCONT.out _ _ ⟨below_next hHeld.1 hb, evAt_kept hHeld.2 hb⟩ (fun hHeld => ?_)
          clear hCONT CONT hb
          refine take_at (i := 8) 11 rfl rfl (by kernel_rfl) (by kernel_rfl) (by kernel_rfl) (fun _ _ _ h => h) (sure_yes (by rfl) (fun w => by go_simp; try with_reducible rfl)) hHeld ?_
          simp only [List.setIfInBounds_toArray, List.set_cons_zero, List.set_cons_succ]
          refine take_at (i := 9) 12 rfl rfl (by kernel_rfl) (by kernel_rfl) (by kernel_rfl) (fun _ _ _ h => h) (sure_yes (by rfl) (fun w => by go_simp; try with_reducible rfl)) hHeld ?_
          simp only [List.setIfInBounds_toArray, List.set_cons_zero, List.set_cons_succ]
          refine take_at (i := 10) 13 rfl rfl (by kernel_rfl) (by kernel_rfl) (by kernel_rfl) (fun _ _ _ h => h) (sure_yes (by rfl) (fun w => by go_simp; try with_reducible rfl)) hHeld ?_
          simp only [List.setIfInBounds_toArray, List.set_cons_zero, List.set_cons_succ]
          refine take_at (i := 11) 14 rfl rfl (by kernel_rfl) (by kernel_rfl) (by kernel_rfl) (fun _ _ _ h => h) (sure_yes (by rfl) (fun w => by go_simp; try with_reducible rfl)) hHeld ?_
          simp only [List.setIfInBounds_toArray, List.set_cons_zero, List.set_cons_succ]
          refine take_at (i := 13) 16 rfl rfl (by kernel_rfl) (by kernel_rfl) (by kernel_rfl) (fun _ _ _ h => h) (sure_yes (by rfl) (fun w => by go_simp; try with_reducible rfl)) hHeld ?_
          simp only [List.setIfInBounds_toArray, List.set_cons_zero, List.set_cons_succ]
          refine take_at (i := 14) 17 rfl rfl (by kernel_rfl) (by kernel_rfl) (by kernel_rfl) (fun _ _ _ h => h) (sure_yes (by rfl) (fun w => by go_simp; try with_reducible rfl)) hHeld ?_
          simp only [List.setIfInBounds_toArray, List.set_cons_zero, List.set_cons_succ]
          refine take_at (i := 17) 20 rfl rfl (by kernel_rfl) (by kernel_rfl) (by kernel_rfl) (fun _ _ _ h => h) (sure_yes (by rfl) (fun w => by go_simp; try with_reducible rfl)) hHeld ?_
          simp only [List.setIfInBounds_toArray, List.set_cons_zero, List.set_cons_succ]
          refine take_at (i := 18) 21 rfl rfl (by kernel_rfl) (by kernel_rfl) (by kernel_rfl) (fun _ _ _ h => h) (sure_yes (by rfl) (fun w => by go_simp; try with_reducible rfl)) hHeld ?_
          simp only [List.setIfInBounds_toArray, List.set_cons_zero, List.set_cons_succ]
          refine take_at (i := 12) 15 rfl rfl (by kernel_rfl) (by kernel_rfl) (by kernel_rfl) (fun _ _ _ h => h) (slice_yieldsR (by rfl) 25 (.tmp 14) rfl ⟨w.heap.size, 2, none⟩ rfl ao n cap Tryz.underlying25 (fun _ h => (evAt_cells h.2).2.2.1)) hHeld ?_
          simp only [List.setIfInBounds_toArray, List.set_cons_zero, List.set_cons_succ]
          refine take_at (i := 15) 18 rfl rfl (by kernel_rfl) (by kernel_rfl) (by kernel_rfl) (fun _ _ _ h => h) (cell_yields (by rfl) 3 (.tmp 17) rfl w.heap.size 0 rfl .i64 _ Tryz.underlying3 (fun _ h => (evAt_cells h.2).1)) hHeld ?_
          simp only [List.setIfInBounds_toArray, List.set_cons_zero, List.set_cons_succ]
          refine take_at (i := 19) 22 rfl rfl (by kernel_rfl) (by kernel_rfl) (by kernel_rfl) (fun _ _ _ h => h) (cell_yields (by rfl) 2 (.tmp 21) rfl w.heap.size 1 rfl .i64 _ Tryz.underlying2 (fun _ h => (evAt_cells h.2).2.1)) hHeld ?_
          simp only [List.setIfInBounds_toArray, List.set_cons_zero, List.set_cons_succ]
          refine take_at (i := 20) 23 rfl rfl (by kernel_rfl) (by kernel_rfl) (by kernel_rfl) (fun _ _ _ h => h) (sure_yes (by rfl) (fun w => by go_simp; try with_reducible rfl)) hHeld ?_
          simp only [List.setIfInBounds_toArray, List.set_cons_zero, List.set_cons_succ]
          refine wpAnyH_ready (rs := [16]) (by kernel_rfl) (by simp) ?_
          refine AllReadyH.cons rfl (fun CONT hCONT => ?_) AllReadyH.nil
          go_simp
          go_at_call 24
          refine (GV.out _ (dots_below HV.out hHeld.1)).mono ?_
          rintro x wz ⟨rfl, hb⟩
          dsimp only
          refine hCONT.out _ _ ⟨below_next hHeld.1 hb, evAt_kept hHeld.2 hb⟩ (fun hHeld => ?_)
          clear hCONT CONT hb
          refine take_at (i := 21) 24 rfl rfl (by kernel_rfl) (by kernel_rfl) (by kernel_rfl) (fun _ _ _ h => h) (sure_yes (by rfl) (fun w => by go_simp; try with_reducible rfl)) hHeld ?_
          simp only [List.setIfInBounds_toArray, List.set_cons_zero, List.set_cons_succ]
          refine take_at (i := 22) 25 rfl rfl (by kernel_rfl) (by kernel_rfl) (by kernel_rfl) (fun _ _ _ h => h) (sure_yes (by rfl) (fun w => by go_simp; try with_reducible rfl)) hHeld ?_
          simp only [List.setIfInBounds_toArray, List.set_cons_zero, List.set_cons_succ]
          refine take_at (i := 23) 26 rfl rfl (by kernel_rfl) (by kernel_rfl) (by kernel_rfl) (fun _ _ _ h => h) (sure_yes (by rfl) (fun w => by go_simp; try with_reducible rfl)) hHeld ?_
          simp only [List.setIfInBounds_toArray, List.set_cons_zero, List.set_cons_succ]
          refine take_at (i := 24) 27 rfl rfl (by kernel_rfl) (by kernel_rfl) (by kernel_rfl) (fun _ _ _ h => h) (sure_yes (by rfl) (fun w => by go_simp; try with_reducible rfl)) hHeld ?_
          simp only [List.setIfInBounds_toArray, List.set_cons_zero, List.set_cons_succ]
          refine take_at (i := 25) 28 rfl rfl (by kernel_rfl) (by kernel_rfl) (by kernel_rfl) (fun _ _ _ h => h) (str_yieldsR (by rfl) 9 (.tmp 27) rfl ⟨w.heap.size, 4, none⟩ rfl _ Tryz.underlying9 (fun _ h => (evAt_cells h.2).2.2.2.2.1)) hHeld ?_
          simp only [List.setIfInBounds_toArray, List.set_cons_zero, List.set_cons_succ]
          refine wpAnyH_ready (rs := [26]) (by kernel_rfl) (by simp) ?_
          refine AllReadyH.cons rfl (fun CONT hCONT => ?_) AllReadyH.nil
          go_simp
          go_at_call 25
          refine (OW.out _).mono ?_
          rintro x wz ⟨rfl, hb⟩
          dsimp only
          refine hCONT.out _ _ ⟨below_next hHeld.1 hb, evAt_kept hHeld.2 hb⟩ (fun hHeld => ?_)
          clear hCONT CONT hb
          refine take_at (i := 27) 30 rfl rfl (by kernel_rfl) (by kernel_rfl) (by kernel_rfl) (fun _ _ _ h => h) (sure_yes (by rfl) (fun w => by go_simp; try with_reducible rfl)) hHeld ?_
          simp only [List.setIfInBounds_toArray, List.set_cons_zero, List.set_cons_succ]
          refine take_at (i := 28) 31 rfl rfl (by kernel_rfl) (by kernel_rfl) (by kernel_rfl) (fun _ _ _ h => h) (sure_yes (by rfl) (fun w => by go_simp; try with_reducible rfl)) hHeld ?_
          simp only [List.setIfInBounds_toArray, List.set_cons_zero, List.set_cons_succ]
          refine wpAnyH_done (by kernel_rfl) ?_ _
          obtain ⟨-, -, -, c3, -, c5⟩ := evAt_cells hHeld.2
          have BH := Lib.hid hHeld.1
          have EH := Lib.hid hHeld.2
          clear hHeld
          by_cases k1 : e.kind = 1
          · by_cases k3 : 0 ≤ e.size
            · have HM := Lib.hid (show mayE e = decide (e.size ≤ 65536) by rw [HQ.out]; simp [mayH, k1, k3])
              clear hq hg
              go_wp2
              go_ret
              exact ⟨by rw [HM.out]; rfl, BH.out⟩
            · have HM := Lib.hid (show mayE e = false by rw [HQ.out]; simp [mayH, k1, k3])
              clear hq hg
              go_wp2
              go_ret
              exact ⟨by rw [HM.out]; rfl, BH.out⟩
          · have q1 : (e.kind == 1) = false := beq_eq_false_iff_ne.2 k1
            by_cases k2 : e.kind = 2
            · by_cases k3 : e.size = 0
              · have HM := Lib.hid (show mayE e = b by rw [HQ.out]; simp [mayH, k2, k3, HB.out])
                go_wp2_with (first
                  | (refine load_sum_on (by rfl) 27 (.tmp 52) rfl w.heap.size rfl EH.out Tryz.underlying27 sumSize ?_))
                go_ret
                exact ⟨by rw [HM.out]; rfl, BH.out⟩
              · have HM := Lib.hid (show mayE e = false by rw [HQ.out]; simp [mayH, k2, k3])
                have q3 : (e.size == 0) = false := beq_eq_false_iff_ne.2 k3
                clear hq hg
                go_wp2
                go_ret
                exact ⟨by rw [HM.out]; rfl, BH.out⟩
            · have HM := Lib.hid (show mayE e = false by rw [HQ.out]; simp [mayH, k1, k2])
              have q2 : (e.kind == 2) = false := beq_eq_false_iff_ne.2 k2
              clear hq hg
              go_wp2
              go_ret
              exact ⟨by rw [HM.out]; rfl, BH.out⟩
      · have HM := Lib.hid (show mayE e = false by rw [← hpq] at h3; simp [mayE, knownE, h3])
        obtain ⟨G, hG⟩ : ∃ G, G = getV e.deps e.r := ⟨_, rfl⟩
        rw [← hG] at GV h3
        have q5 : (G != p) = true := bne_iff_ne.2 h3
        clear h1 h2 h3 hv hl hp hn hpq hq0 hG
        go_enter Tryz.func7, Tryz.ntmps7
        go_upto_region 1 with fail
        generalize w.alloc (.cells (evC e (.slice ao n cap)) 29 (0, 0)) = W0 at *
        refine wp_region_held_drew (S := fun w' => Below w.heap.size w w' ∧ EvAt w' w.heap.size 29 e (.slice ao n cap)) (by kernel_rfl) ⟨drawS B0.out, E0.out⟩ (fun hHeld => ?_)
        generalize W0.drew = wd at hHeld ⊢
        refine take_at (i := 0) 3 rfl rfl (by kernel_rfl) (by kernel_rfl) (by kernel_rfl) (fun _ _ _ h => h) (sure_yes (by rfl) (fun w => by go_simp; try with_reducible rfl)) hHeld ?_
        simp only [List.setIfInBounds_toArray, List.set_cons_zero, List.set_cons_succ]
        refine take_at (i := 1) 4 rfl rfl (by kernel_rfl) (by kernel_rfl) (by kernel_rfl) (fun _ _ _ h => h) (dot_yields (by rfl) 23 (.tmp 3) rfl ⟨w.heap.size, 0, none⟩ rfl e.r e.q Tryz.underlying23 (by kernel_rfl) (fun _ h => evAt_dot h.2)) hHeld ?_
        simp only [List.setIfInBounds_toArray, List.set_cons_zero, List.set_cons_succ]
        refine wpAnyH_ready (rs := [2]) (by kernel_rfl) (by simp) ?_
        refine AllReadyH.cons rfl (fun CONT hCONT => ?_) AllReadyH.nil
        go_simp
        go_at_call 22
        refine (MD.out _).mono ?_
        rintro x wz ⟨rfl, hb⟩
        dsimp only
        refine hCONT.out _ _ ⟨below_next hHeld.1 hb, evAt_kept hHeld.2 hb⟩ (fun hHeld => ?_)
        clear hCONT CONT hb
        refine take_at (i := 3) 6 rfl rfl (by kernel_rfl) (by kernel_rfl) (by kernel_rfl) (fun _ _ _ h => h) (sure_yes (by rfl) (fun w => by go_simp; try with_reducible rfl)) hHeld ?_
        simp only [List.setIfInBounds_toArray, List.set_cons_zero, List.set_cons_succ]
        refine take_at (i := 4) 7 rfl rfl (by kernel_rfl) (by kernel_rfl) (by kernel_rfl) (fun _ _ _ h => h) (sure_yes (by rfl) (fun w => by go_simp; try with_reducible rfl)) hHeld ?_
        simp only [List.setIfInBounds_toArray, List.set_cons_zero, List.set_cons_succ]
        refine take_at (i := 5) 8 rfl rfl (by kernel_rfl) (by kernel_rfl) (by kernel_rfl) (fun _ _ _ h => h) (sure_yes (by rfl) (fun w => by go_simp; try with_reducible rfl)) hHeld ?_
        simp only [List.setIfInBounds_toArray, List.set_cons_zero, List.set_cons_succ]
        refine take_at (i := 6) 9 rfl rfl (by kernel_rfl) (by kernel_rfl) (by kernel_rfl) (fun _ _ _ h => h) (slice_yieldsR (by rfl) 25 (.tmp 8) rfl ⟨w.heap.size, 2, none⟩ rfl ao n cap Tryz.underlying25 (fun _ h => (evAt_cells h.2).2.2.1)) hHeld ?_
        simp only [List.setIfInBounds_toArray, List.set_cons_zero, List.set_cons_succ]
        refine wpAnyH_ready (rs := [7]) (by kernel_rfl) (by simp) ?_
        refine AllReadyH.cons rfl (fun CONT hCONT => ?_) AllReadyH.nil
        go_simp
        go_at_call 23
        refine (MV.out _ (dots_below HV.out hHeld.1)).mono ?_
        rintro x wz ⟨rfl, hb⟩
        dsimp only
        refine hCONT.out _ _ ⟨below_next hHeld.1 hb, evAt_kept hHeld.2 hb⟩ (fun hHeld => ?_)
        clear hCONT CONT hb
        refine take_at (i := 8) 11 rfl rfl (by kernel_rfl) (by kernel_rfl) (by kernel_rfl) (fun _ _ _ h => h) (sure_yes (by rfl) (fun w => by go_simp; try with_reducible rfl)) hHeld ?_
        simp only [List.setIfInBounds_toArray, List.set_cons_zero, List.set_cons_succ]
        refine take_at (i := 9) 12 rfl rfl (by kernel_rfl) (by kernel_rfl) (by kernel_rfl) (fun _ _ _ h => h) (sure_yes (by rfl) (fun w => by go_simp; try with_reducible rfl)) hHeld ?_
        simp only [List.setIfInBounds_toArray, List.set_cons_zero, List.set_cons_succ]
        refine take_at (i := 10) 13 rfl rfl (by kernel_rfl) (by kernel_rfl) (by kernel_rfl) (fun _ _ _ h => h) (sure_yes (by rfl) (fun w => by go_simp; try with_reducible rfl)) hHeld ?_
        simp only [List.setIfInBounds_toArray, List.set_cons_zero, List.set_cons_succ]
        refine take_at (i := 11) 14 rfl rfl (by kernel_rfl) (by kernel_rfl) (by kernel_rfl) (fun _ _ _ h => h) (sure_yes (by rfl) (fun w => by go_simp; try with_reducible rfl)) hHeld ?_
        simp only [List.setIfInBounds_toArray, List.set_cons_zero, List.set_cons_succ]
        refine take_at (i := 13) 16 rfl rfl (by kernel_rfl) (by kernel_rfl) (by kernel_rfl) (fun _ _ _ h => h) (sure_yes (by rfl) (fun w => by go_simp; try with_reducible rfl)) hHeld ?_
        simp only [List.setIfInBounds_toArray, List.set_cons_zero, List.set_cons_succ]
        refine take_at (i := 14) 17 rfl rfl (by kernel_rfl) (by kernel_rfl) (by kernel_rfl) (fun _ _ _ h => h) (sure_yes (by rfl) (fun w => by go_simp; try with_reducible rfl)) hHeld ?_
        simp only [List.setIfInBounds_toArray, List.set_cons_zero, List.set_cons_succ]
        refine take_at (i := 17) 20 rfl rfl (by kernel_rfl) (by kernel_rfl) (by kernel_rfl) (fun _ _ _ h => h) (sure_yes (by rfl) (fun w => by go_simp; try with_reducible rfl)) hHeld ?_
        simp only [List.setIfInBounds_toArray, List.set_cons_zero, List.set_cons_succ]
        refine take_at (i := 18) 21 rfl rfl (by kernel_rfl) (by kernel_rfl) (by kernel_rfl) (fun _ _ _ h => h) (sure_yes (by rfl) (fun w => by go_simp; try with_reducible rfl)) hHeld ?_
        simp only [List.setIfInBounds_toArray, List.set_cons_zero, List.set_cons_succ]
        refine take_at (i := 12) 15 rfl rfl (by kernel_rfl) (by kernel_rfl) (by kernel_rfl) (fun _ _ _ h => h) (slice_yieldsR (by rfl) 25 (.tmp 14) rfl ⟨w.heap.size, 2, none⟩ rfl ao n cap Tryz.underlying25 (fun _ h => (evAt_cells h.2).2.2.1)) hHeld ?_
        simp only [List.setIfInBounds_toArray, List.set_cons_zero, List.set_cons_succ]
        refine take_at (i := 15) 18 rfl rfl (by kernel_rfl) (by kernel_rfl) (by kernel_rfl) (fun _ _ _ h => h) (cell_yields (by rfl) 3 (.tmp 17) rfl w.heap.size 0 rfl .i64 _ Tryz.underlying3 (fun _ h => (evAt_cells h.2).1)) hHeld ?_
        simp only [List.setIfInBounds_toArray, List.set_cons_zero, List.set_cons_succ]
        refine take_at (i := 19) 22 rfl rfl (by kernel_rfl) (by kernel_rfl) (by kernel_rfl) (fun _ _ _ h => h) (cell_yields (by rfl) 2 (.tmp 21) rfl w.heap.size 1 rfl .i64 _ Tryz.underlying2 (fun _ h => (evAt_cells h.2).2.1)) hHeld ?_
        simp only [List.setIfInBounds_toArray, List.set_cons_zero, List.set_cons_succ]
        refine take_at (i := 20) 23 rfl rfl (by kernel_rfl) (by kernel_rfl) (by kernel_rfl) (fun _ _ _ h => h) (sure_yes (by rfl) (fun w => by go_simp; try with_reducible rfl)) hHeld ?_
        simp only [List.setIfInBounds_toArray, List.set_cons_zero, List.set_cons_succ]
        refine wpAnyH_ready (rs := [16]) (by kernel_rfl) (by simp) ?_
        refine AllReadyH.cons rfl (fun CONT hCONT => ?_) AllReadyH.nil
        go_simp
        go_at_call 24
        refine (GV.out _ (dots_below HV.out hHeld.1)).mono ?_
        rintro x wz ⟨rfl, hb⟩
        dsimp only
        refine hCONT.out _ _ ⟨below_next hHeld.1 hb, evAt_kept hHeld.2 hb⟩ (fun hHeld => ?_)
        clear hCONT CONT hb
        refine take_at (i := 21) 24 rfl rfl (by kernel_rfl) (by kernel_rfl) (by kernel_rfl) (fun _ _ _ h => h) (sure_yes (by rfl) (fun w => by go_simp; try with_reducible rfl)) hHeld ?_
        simp only [List.setIfInBounds_toArray, List.set_cons_zero, List.set_cons_succ]
        refine take_at (i := 22) 25 rfl rfl (by kernel_rfl) (by kernel_rfl) (by kernel_rfl) (fun _ _ _ h => h) (sure_yes (by rfl) (fun w => by go_simp; try with_reducible rfl)) hHeld ?_
        simp only [List.setIfInBounds_toArray, List.set_cons_zero, List.set_cons_succ]
        refine take_at (i := 23) 26 rfl rfl (by kernel_rfl) (by kernel_rfl) (by kernel_rfl) (fun _ _ _ h => h) (sure_yes (by rfl) (fun w => by go_simp; try with_reducible rfl)) hHeld ?_
        simp only [List.setIfInBounds_toArray, List.set_cons_zero, List.set_cons_succ]
        refine take_at (i := 24) 27 rfl rfl (by kernel_rfl) (by kernel_rfl) (by kernel_rfl) (fun _ _ _ h => h) (.inr ⟨by rfl, rfl⟩) hHeld ?_
        simp only [List.setIfInBounds_toArray, List.set_cons_zero, List.set_cons_succ]
        refine take_at (i := 25) 28 rfl rfl (by kernel_rfl) (by kernel_rfl) (by kernel_rfl) (fun _ _ _ h => h) (.inr ⟨by rfl, rfl⟩) hHeld ?_
        simp only [List.setIfInBounds_toArray, List.set_cons_zero, List.set_cons_succ]
        refine take_at (i := 26) 29 rfl rfl (by kernel_rfl) (by kernel_rfl) (by kernel_rfl) (fun _ _ _ h => h) (.inr ⟨by rfl, rfl⟩) hHeld ?_
        simp only [List.setIfInBounds_toArray, List.set_cons_zero, List.set_cons_succ]
        refine take_at (i := 27) 30 rfl rfl (by kernel_rfl) (by kernel_rfl) (by kernel_rfl) (fun _ _ _ h => h) (.inr ⟨by rfl, rfl⟩) hHeld ?_
        simp only [List.setIfInBounds_toArray, List.set_cons_zero, List.set_cons_succ]
        refine take_at (i := 28) 31 rfl rfl (by kernel_rfl) (by kernel_rfl) (by kernel_rfl) (fun _ _ _ h => h) (sure_yes (by rfl) (fun w => by go_simp; try with_reducible rfl)) hHeld ?_
        simp only [List.setIfInBounds_toArray, List.set_cons_zero, List.set_cons_succ]
        refine wpAnyH_done (by kernel_rfl) ?_ _
        go_wp2
        go_ret
        exact ⟨by rw [HM.out]; rfl, hHeld.1⟩
set_option maxRecDepth 100000 in
set_option maxHeartbeats 16000000 in
theorem refKnows_any12 (e f : Ev) (hl : e.deps.length < 2000000) (v u : Value) (w : World) (hv : HasDots w v e.deps) : Calls Tryz.prog 9 #[.agg (evC e v), .agg (evC f u)] w fun x w' => x = .returned (.bool (hasV e.deps f.r f.q)) ∧ Below w.heap.size w w' := by
  obtain ⟨h1, h2, h3⟩ := two_evs w 29 e f v u
  have E1 := Lib.hid h1
  have E2 := Lib.hid h2
  have B0 := Lib.hid h3
  have HH := Lib.hid (refHas_any10 e.deps hl f.r f.q v _ (dots_below hv h3))
  obtain ⟨-, -, c2, -, -, -⟩ := evAt_cells h1
  obtain ⟨ao, cap, rfl⟩ := dots_shape hv e.deps.length rfl
  clear h1 h2 h3 hv hl
  go_enter Tryz.func9, Tryz.ntmps9
  go_upto_region 1 with fail
  generalize (w.alloc (.cells (evC e (.slice ao e.deps.length cap)) 29 (0, 0))).alloc (.cells (evC f u) 29 (0, 0)) = W0 at *
  go_wp2_with (first
    | (refine load_dot10 (by rfl) 23 (.tmp 7) rfl ⟨w.heap.size + 1, 0, none⟩ rfl f.r f.q Tryz.underlying23 (by kernel_rfl) (evAt_dot E2.out) ?_)
    | (go_at_call 27; refine HH.out.mono ?_; rintro x w1 ⟨rfl, hb⟩; have B1 := Lib.hid (below_next B0.out hb); clear hb))
  go_ret
  exact ⟨rfl, B1.out⟩
set_option maxRecDepth 100000 in
set_option maxHeartbeats 16000000 in
theorem refCmp_any12 (e f : Ev) (v u : Value) (w : World) : Calls Tryz.prog 11 #[.agg (evC e v), .agg (evC f u)] w fun x w' => x = .returned (.int .i64 (cmpE e f)) ∧ Below w.heap.size w w' := by
  obtain ⟨h1, h2, h3⟩ := two_evs w 29 e f v u
  have E1 := Lib.hid h1
  have E2 := Lib.hid h2
  have B0 := Lib.hid h3
  obtain ⟨-, -, -, -, d4, -⟩ := evAt_cells h1
  obtain ⟨-, -, -, -, f4, -⟩ := evAt_cells h2
  have CD := Lib.hid (fun w => refCompare_any e.r e.q f.r f.q w)
  have s1 : (str e.path).toList = e.path := str_toList _
  have s2 : (str f.path).toList = f.path := str_toList _
  rcases cmpB_cases e.path f.path with ⟨hc, he⟩ | ⟨hc, hl, hn⟩ | ⟨hc, hl, hn⟩
  · have HR := Lib.hid (show cmpE e f = cmpD e.r e.q f.r f.q by rw [cmpE, if_pos hc])
    have q1 : Op.bytesLess e.path f.path = false := by rw [he]; exact bytesLess_irrefl _
    have q2 : (e.path == f.path) = true := by rw [he]; simp
    clear h1 h2 h3 hc he
    go_enter Tryz.func11, Tryz.ntmps11
    go_upto_region 1 with fail
    generalize (w.alloc (.cells (evC e v) 29 (0, 0))).alloc (.cells (evC f u) 29 (0, 0)) = W0 at *
    go_wp2_with (first
      | (refine load_dot10 (by rfl) 23 (.tmp 15) rfl ⟨w.heap.size, 0, none⟩ rfl e.r e.q Tryz.underlying23 (by kernel_rfl) (evAt_dot E1.out) ?_)
      | (refine load_dot10 (by rfl) 23 (.tmp 17) rfl ⟨w.heap.size + 1, 0, none⟩ rfl f.r f.q Tryz.underlying23 (by kernel_rfl) (evAt_dot E2.out) ?_)
      | (go_at_call 31; refine (CD.out _).mono ?_; rintro x w1 ⟨rfl, hb⟩; have B1 := Lib.hid (below_next B0.out hb); clear hb))
    go_ret
    exact ⟨by rw [HR.out]; rfl, B1.out⟩
  · have HR := Lib.hid (show cmpE e f = -1 by rw [cmpE, if_neg (by omega), hc])
    have q1 : Op.bytesLess e.path f.path = true := hl
    clear h1 h2 h3 hc hl hn
    go_enter Tryz.func11, Tryz.ntmps11
    go_upto_region 1 with fail
    generalize (w.alloc (.cells (evC e v) 29 (0, 0))).alloc (.cells (evC f u) 29 (0, 0)) = W0 at *
    go_wp2_with (first
      | (refine load_dot10 (by rfl) 23 (.tmp 15) rfl ⟨w.heap.size, 0, none⟩ rfl e.r e.q Tryz.underlying23 (by kernel_rfl) (evAt_dot E1.out) ?_)
      | (refine load_dot10 (by rfl) 23 (.tmp 17) rfl ⟨w.heap.size + 1, 0, none⟩ rfl f.r f.q Tryz.underlying23 (by kernel_rfl) (evAt_dot E2.out) ?_)
      | (go_at_call 31; refine (CD.out _).mono ?_; rintro x w1 ⟨rfl, hb⟩; have B1 := Lib.hid (below_next B0.out hb); clear hb))
    go_ret
    exact ⟨by rw [HR.out]; rfl, B0.out⟩
  · have HR := Lib.hid (show cmpE e f = 1 by rw [cmpE, if_neg (by omega), hc])
    have q1 : Op.bytesLess e.path f.path = false := bl_asymm hl
    have q2 : (e.path == f.path) = false := beq_eq_false_iff_ne.2 hn
    clear h1 h2 h3 hc hl hn
    go_enter Tryz.func11, Tryz.ntmps11
    go_upto_region 1 with fail
    generalize (w.alloc (.cells (evC e v) 29 (0, 0))).alloc (.cells (evC f u) 29 (0, 0)) = W0 at *
    go_wp2_with (first
      | (refine load_dot10 (by rfl) 23 (.tmp 15) rfl ⟨w.heap.size, 0, none⟩ rfl e.r e.q Tryz.underlying23 (by kernel_rfl) (evAt_dot E1.out) ?_)
      | (refine load_dot10 (by rfl) 23 (.tmp 17) rfl ⟨w.heap.size + 1, 0, none⟩ rfl f.r f.q Tryz.underlying23 (by kernel_rfl) (evAt_dot E2.out) ?_)
      | (go_at_call 31; refine (CD.out _).mono ?_; rintro x w1 ⟨rfl, hb⟩; have B1 := Lib.hid (below_next B0.out hb); clear hb))
    go_ret
    exact ⟨by rw [HR.out]; rfl, B0.out⟩
end Go.Proofs.YteooklnejiipkaaGreatDoor
namespace Go.Proofs.YteooklnejiipkaaGreatDoor
open Go.ChangeShapes Go.WideShapes Go.ChangeAt Go.RowKit
/-- The cell of a slice of dots that lies in memory. -/
theorem open_dots_cell {H : Type} {enc : TypeId × Value → H} {P : Program} {w : World} {base : Nat} {sp : Nat → Bool} {held : Bool} {t e : TypeId} {f0 f1 : Field} {v : Value} {d : DataW H} {p : List MemPlace} {fuel : Nat}
    (ht : P.underlying t = some (.slice e)) (he : P.underlying e = some (.struct #[f0, f1])) (ce : P.cellsOf e = 2) (o0 : f0.offset = 0) (o1 : f1.offset = 1) (c0 : P.cellsOf f0.type = 1) (c1 : P.cellsOf f1.type = 1)
    (h0 : P.underlying f0.type = some (.int .i64)) (h1 : P.underlying f1.type = some (.int .i64)) (hf : DataW.trod enc P w base sp held fuel t [v] = some (d, p)) : ∃ l : List D2, HasDots w v l ∧ (l = [] ∨ ∃ elems spare, d = .slice elems spare ∧ l.length ≤ elems.length + spare.length) := by
  rcases Go.Deep.open_slice_pairs ht he ce o0 o1 c0 c1 hf with ⟨hcs, -⟩ | ⟨a, len, cap, m, n, V0, V1, D0, D1, P0, P1, hcs, _, hl, hm, hmm, hx, hrow⟩
  · simp only [List.cons.injEq, and_true] at hcs
    subst hcs
    exact ⟨[], dots_nil w, .inl rfl⟩
  · simp only [List.cons.injEq, and_true] at hcs
    subst hcs
    have hlm : len ≤ m := by rw [hmm]; split <;> omega
    have each : ∀ i, i < len → ∃ y : D2, w.cell? (a.add (i * 2)) = some (.int .i64 y.1) ∧ w.cell? (a.add (i * 2 + 1)) = some (.int .i64 y.2) := fun i hi => by
      obtain ⟨g1, g2, g3, g4⟩ := hrow i (by omega)
      obtain ⟨x, e1, -, -⟩ := DataW.trod_int h0 g3
      obtain ⟨z, e2, -, -⟩ := DataW.trod_int h1 g4
      simp only [List.cons.injEq, and_true] at e1 e2
      exact ⟨(x, z), by rw [g1, e1], by rw [g2, e2]⟩
    obtain ⟨y, hy⟩ := Go.Deep.choose_lt each
    have hus : ∀ i x, ((List.range len).map y)[i]? = some x → i < len ∧ x = y i := fun i x hx => by
      have hi : i < len := by
        have := (List.getElem?_eq_some_iff.1 hx).1
        simpa using this
      refine ⟨hi, ?_⟩
      rw [List.getElem?_map, List.getElem?_range hi] at hx
      exact (Option.some.inj hx).symm
    have hulen : ((List.range len).map y).length = len := by simp
    refine ⟨(List.range len).map y, ⟨some a, cap, by rw [hulen], (fun h => by cases h), fun ad had => ⟨by rw [hulen]; exact hl, fun j u hu => ?_⟩⟩, .inr ⟨_, _, (congrArg Prod.fst hx : _), by rw [hulen]; simp⟩⟩
    cases had
    obtain ⟨i, x, hx, hor⟩ := dotsC_inv _ j u hu
    obtain ⟨hi, rfl⟩ := hus i x hx
    rcases hor with ⟨rfl, rfl⟩ | ⟨rfl, rfl⟩
    · exact (hy i hi).1
    · exact (hy i hi).2
end Go.Proofs.YteooklnejiipkaaGreatDoor
namespace Go.Proofs.YteooklnejiipkaaGreatDoor
open Go.ChangeShapes Go.WideShapes Go.ChangeAt Go.RowKit
theorem open_digest_cells {H : Type} {enc : TypeId × Value → H} {P : Program} {w : World} {base : Nat} {sp : Nat → Bool} {held : Bool} {t e : TypeId} {cs : List Value} {x : DataW H × List MemPlace} {fuel : Nat}
    (ht : P.underlying t = some (.array 32 e)) (he : P.underlying e = some (.int .u8)) (hce : P.cellsOf e = 1) (hct : P.cellsOf t = 32) (h : DataW.trod enc P w base sp held fuel t cs = some x) :
    ∃ f : Nat → BitVec 32, (∀ i, u32 (f i) < 256) ∧ cs = (row .u8 32 f).toList := by
  obtain ⟨xs, m, -, -, hl, hxl, hel⟩ := DataW.trod_array ht h
  rw [hct] at hl
  have each : ∀ i, i < 32 → ∃ z : Int, cs[i]? = some (.int .u8 z) ∧ (Lit.int .u8 z).wf = true := fun i hi => by
    have g := hel i hi
    rw [hce, Nat.mul_one, List.getElem?_eq_getElem (by omega)] at g
    have e1 : (cs.drop i).take 1 = [cs[i]] := by rw [List.drop_eq_getElem_cons (by omega)]; rfl
    rw [e1] at g
    obtain ⟨z, ez, -, wz⟩ := DataW.trod_int he g
    simp only [List.cons.injEq, and_true] at ez
    exact ⟨z, by rw [List.getElem?_eq_getElem (by omega), ez], wz⟩
  obtain ⟨y, hy⟩ := Go.Deep.choose_lt each
  obtain ⟨f, h1, h2⟩ := bytes_fn (n := 32) (zs := (List.range 32).map y) (by simp) (fun z hz => by
    obtain ⟨i, hi, rfl⟩ := List.mem_map.1 hz
    exact (hy i (by simpa using hi)).2)
  refine ⟨f, h1, ?_⟩
  rw [← h2]
  apply List.ext_getElem?
  intro i
  by_cases hi : i < 32
  · rw [(hy i hi).1]; simp [List.getElem?_range hi]
  · rw [List.getElem?_eq_none (by omega), List.getElem?_eq_none (by simp; omega)]
set_option maxRecDepth 100000 in
set_option maxHeartbeats 4000000 in
set_option linter.unusedSimpArgs false in
theorem open_event {H : Type} {enc : TypeId × Value → H} {w : World} {base : Nat} {sp : Nat → Bool} {held : Bool} {r : Reach} {b0 : Nat} {v : Value} {d : DataW H} {p : List MemPlace} (hv : Value.okWide Tryz.prog w r b0 29 v) (h : DataW.Trod enc Tryz.prog w base sp held 29 v d p) :
    ∃ (e : Ev) (u : Value), v = .agg (evC e u) ∧ HasDots w u e.deps ∧ (∀ i, u32 (e.sum i) < 256) ∧ (Lit.int .i64 e.r).wf = true ∧ (Lit.int .i64 e.q).wf = true ∧ (Lit.int .i64 e.kind).wf = true ∧ (Lit.int .i64 e.size).wf = true ∧
      ∃ ds : List (DataW H), d = .agg ds ∧ ds[3]? = some (.lit (.string (str e.path).data.toList)) := by
  have hc0 : Tryz.prog.cellsOf 29 = 38 := by kernel_rfl
  have hc1 : Tryz.prog.cellsOf 23 = 2 := by kernel_rfl
  have hc2 : Tryz.prog.cellsOf 3 = 1 := by kernel_rfl
  have hc3 : Tryz.prog.cellsOf 2 = 1 := by kernel_rfl
  have hc4 : Tryz.prog.cellsOf 25 = 1 := by kernel_rfl
  have hc5 : Tryz.prog.cellsOf 9 = 1 := by kernel_rfl
  have hc6 : Tryz.prog.cellsOf 27 = 32 := by kernel_rfl
  have hc7 : Tryz.prog.cellsOf 5 = 1 := by kernel_rfl
  unfold Value.okWide at hv
  rw [Tryz.underlying29] at hv
  obtain ⟨cs, rfl, hsz, _⟩ := hv
  rw [hc0] at hsz
  obtain ⟨fuel, hy⟩ := h
  match cs, hsz with
  | ⟨k0 :: k1 :: k2 :: k3 :: k4 :: ks⟩, hsz =>
  obtain ⟨ys, m', _, hd, _, hl', hf⟩ := DataW.trod_struct Tryz.underlying29 hy
  match ys, hl' with
  | [y0, y1, y2, y3, y4, y5], _ =>
  have g0 := hf 0 _ rfl
  have g1 := hf 1 _ rfl
  have g2 := hf 2 _ rfl
  have g3 := hf 3 _ rfl
  have g4 := hf 4 _ rfl
  have g5 := hf 5 _ rfl
  simp [Value.cells, hc1, hc2, hc4, hc5, hc6] at g0 g1 g2 g3 g4 g5
  obtain ⟨zs, m2, _, _, _, hl2, hf2⟩ := DataW.trod_struct Tryz.underlying23 g0
  match zs, hl2 with
  | [z0, z1], _ =>
  have i0 := hf2 0 _ rfl
  have i1 := hf2 1 _ rfl
  simp [hc2, hc3] at i0 i1
  obtain ⟨a, e0, -, w0⟩ := DataW.trod_int Tryz.underlying3 i0
  obtain ⟨b, e1, -, w1⟩ := DataW.trod_int Tryz.underlying2 i1
  obtain ⟨l, hl3, -⟩ := open_dots_cell Tryz.underlying25 Tryz.underlying23 (by kernel_rfl) rfl rfl (by kernel_rfl) (by kernel_rfl) Tryz.underlying3 Tryz.underlying2 g1
  obtain ⟨kd, e2, -, w2⟩ := DataW.trod_int Tryz.underlying3 g2
  obtain ⟨x, e3, h3, -⟩ := DataW.trod_string Tryz.underlying9 g3
  obtain ⟨f, hf4, e4⟩ := open_digest_cells Tryz.underlying27 Tryz.underlying5 hc7 hc6 g4
  obtain ⟨sz, e5, -, w5⟩ := DataW.trod_int Tryz.underlying3 g5
  simp only [List.cons.injEq, and_true] at e0 e1 e2 e3
  have hlen : ks.length = 33 := by simpa using hsz
  have hks : ks = (row .u8 32 f).toList ++ [.int .i64 sz] := by
    rw [← e4, ← e5, List.take_of_length_le (l := ks.drop 32) (by rw [List.length_drop]; omega), List.take_append_drop]
  have hx : str x.data.toList = x := by unfold str; rfl
  refine ⟨⟨a, b, l, kd, x.data.toList, f, sz⟩, k2, ?_, hl3, hf4, w0, w1, w2, w5, [y0.1, y1.1, y2.1, y3.1, y4.1, y5.1], ?_, ?_⟩
  · rw [e0, e1, e2, e3, hks]
    refine congrArg Value.agg ?_
    apply Array.toList_inj.1
    simp only [evC, hx, Array.toList_append]
    rfl
  · exact (Prod.mk.inj hd).1
  · show some y3.1 = _
    rw [h3, hx]
theorem i64_of12 {a : Int} (h : (Lit.int .i64 a).wf = true) : -9223372036854775808 ≤ a ∧ a < 9223372036854775808 := by
  simp [Lit.wf, IntKind.min, IntKind.max, IntKind.signed, IntKind.bits] at h; omega
end Go.Proofs.YteooklnejiipkaaGreatDoor
namespace Go.Proofs.YteooklnejiipkaaGreatDoor
/-- What a struct's parts weigh is weighed with it. -/
theorem sized_parts {H : Type} {P : Program} {ts : List TypeId} {ds : List (DataW H)} (h : (DataW.weightsEach P ts ds).all (· ≤ reachBytes) = true) {j : Nat} {t : TypeId} {fs : Array Field} {parts : List (DataW H)} (ht : ts[j]? = some t) (hd : ds[j]? = some (.agg parts)) (hu : P.underlying t = some (.struct fs)) :
    (DataW.weightsEach P (fs.toList.map (·.type)) parts).all (· ≤ reachBytes) = true := by
  rw [List.all_eq_true]
  intro n hn
  exact List.all_eq_true.1 h n (DataW.weights_mem_each ht hd n (by simp only [DataW.weights, hu]; exact hn))
end Go.Proofs.YteooklnejiipkaaGreatDoor
