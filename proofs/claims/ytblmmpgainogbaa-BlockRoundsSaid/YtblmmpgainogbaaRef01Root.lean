/-
What the document's plain function Root returns for square and cube roots.
-/
import Derived.Test.YtblmmpgainogbaaRef01Roots
import Derived.Deep.RegionHeld3
namespace Go.Proofs.Ytblmmpgainogbaa
open Go.RowKit
theorem goal8_below {v g B : Nat} {w w' : World} (h : Goal8 v g w) (hb : Below B w w') (hg : g < B) : Goal8 v g w' := by
  obtain ⟨h0, h1, h2, h3, h4, h5, h6, h7⟩ := h
  exact ⟨(hb.cell (p := ⟨g, 0, none⟩) hg).trans h0, (hb.cell (p := ⟨g, 1, none⟩) hg).trans h1, (hb.cell (p := ⟨g, 2, none⟩) hg).trans h2, (hb.cell (p := ⟨g, 3, none⟩) hg).trans h3,
    (hb.cell (p := ⟨g, 4, none⟩) hg).trans h4, (hb.cell (p := ⟨g, 5, none⟩) hg).trans h5, (hb.cell (p := ⟨g, 6, none⟩) hg).trans h6, (hb.cell (p := ⟨g, 7, none⟩) hg).trans h7⟩
/-- What the search keeps of memory: the goal's block, and all that was there before. -/
def RootS (v : Nat) (w w' : World) : Prop :=
  w'.cell? ⟨w.heap.size, 0, none⟩ = some (.int .u64 (limb v 0)) ∧ w'.cell? ⟨w.heap.size, 1, none⟩ = some (.int .u64 (limb v 1)) ∧ w'.cell? ⟨w.heap.size, 2, none⟩ = some (.int .u64 (limb v 2)) ∧ w'.cell? ⟨w.heap.size, 3, none⟩ = some (.int .u64 (limb v 3)) ∧
  w'.cell? ⟨w.heap.size, 4, none⟩ = some (.int .u64 (limb v 4)) ∧ w'.cell? ⟨w.heap.size, 5, none⟩ = some (.int .u64 (limb v 5)) ∧ w'.cell? ⟨w.heap.size, 6, none⟩ = some (.int .u64 (limb v 6)) ∧ w'.cell? ⟨w.heap.size, 7, none⟩ = some (.int .u64 (limb v 7)) ∧ Below w.heap.size w w'
theorem rootS_of {v : Nat} {w w' : World} (h : Goal8 v w.heap.size w') (hb : Below w.heap.size w w') : RootS v w w' := by
  obtain ⟨h0, h1, h2, h3, h4, h5, h6, h7⟩ := h
  exact ⟨h0, h1, h2, h3, h4, h5, h6, h7, hb⟩
theorem rootS_goal {v : Nat} {w w' : World} (h : RootS v w w') : Goal8 v w.heap.size w' := by
  obtain ⟨h0, h1, h2, h3, h4, h5, h6, h7, _⟩ := h
  exact ⟨h0, h1, h2, h3, h4, h5, h6, h7⟩
theorem rootS_below {v : Nat} {w w' : World} (h : RootS v w w') : Below w.heap.size w w' := h.2.2.2.2.2.2.2.2
theorem rootS_keep {v : Nat} {w w' w1 : World} (h : RootS v w w') (hb : Below w'.heap.size w' w1) : RootS v w w1 :=
  rootS_of (goal8_below (rootS_goal h) hb (World.block_lt_of_cell? _ _ h.1)) ((rootS_below h).trans (hb.mono (rootS_below h).size))
theorem rootS_draw {v : Nat} {w w' : World} (h : RootS v w w') : RootS v w w'.drew := by
  obtain ⟨h0, h1, h2, h3, h4, h5, h6, h7, hb⟩ := h
  exact ⟨h0, h1, h2, h3, h4, h5, h6, h7, hb.drew⟩
theorem rootS_draws {v : Nat} {w w' : World} (h : RootS v w w') (n : Nat) : RootS v w (w'.drewN n) := by
  obtain ⟨h0, h1, h2, h3, h4, h5, h6, h7, hb⟩ := h
  exact ⟨h0, h1, h2, h3, h4, h5, h6, h7, below_draws hb n⟩
theorem refPower_sum2 (a b : Nat) (h : a + b < 68719476736) (w : World) :
    Calls Try.prog 36 #[.int .u64 ((a : Int) + (b : Int)), .int .i64 2] w (Power (a + b) 2 w) := by
  have := refPower_any (a + b) 2 h (by omega) w
  rwa [Int.natCast_add] at this
theorem refPower_sum3 (a b : Nat) (h : a + b < 68719476736) (w : World) :
    Calls Try.prog 36 #[.int .u64 ((a : Int) + (b : Int)), .int .i64 3] w (Power (a + b) 3 w) := by
  have := refPower_any (a + b) 3 h (by omega) w
  rwa [Int.natCast_add] at this
theorem refAbove_lit (a b : Nat) (ha : a / 65536 ^ 8 = 0) (hb : b / 65536 ^ 8 = 0) (w : World) :
    Calls Try.prog 35 #[.agg (limbs a), .agg #[.int .u64 (limb b 0), .int .u64 (limb b 1), .int .u64 (limb b 2), .int .u64 (limb b 3), .int .u64 (limb b 4), .int .u64 (limb b 5), .int .u64 (limb b 6), .int .u64 (limb b 7)]] w
      fun e w' => e = .returned (.bool (decide (b < a))) ∧ Below w.heap.size w w' := refAbove_any a b ha hb w
set_option maxRecDepth 100000 in
set_option maxHeartbeats 1000000 in
theorem refRoot2_any (p : Nat) (hp : p < 65536) (w : World) :
    Calls Try.prog 29 #[.int .u64 p, .int .i64 2] w fun e w' => e = .returned (.int .u64 (rootAt p 2 37)) ∧ Below w.heap.size w w' := by
  go_enter Try.func29, Try.ntmps29
  go_wp2
  go_loopw [6, 7] (fun n s wr => ∃ j : Nat, j ≤ 37 ∧ n = .int .u64 (rootAt p 2 j) ∧ s = .int .u64 (stepAt j) ∧ RootS (goalN p 2) w wr) (fun _ s _ => (intOf s).toNat)
  case atStart =>
    refine ⟨0, by omega, rfl, rfl, rootS_of ?_ ((Below.refl _ _).alloc (Nat.le_refl _) _)⟩
    refine goal8_of (t := 43) ?_
    rw [limbs_goal2 p hp]
    simp only [heap_at_alloc, if_pos]
  case round =>
    obtain ⟨j, hj, rfl, rfl, hg⟩ := hrel
    by_cases hlt : j < 37
    · have hpos := stepAt_pos j hlt
      have hbd := stepAt_bd j
      have hr := rootAt_bd p 2 j
      by_cases h1 : rootAt p 2 j + stepAt j < 68719476736
      · have hp2 := top_power (rootAt p 2 j + stepAt j) 2 h1 (by omega)
        have hg2 := top_goal p 2 hp (by omega)
        have HP2 := Lib.hid hp2
        have HG2 := Lib.hid hg2
        clear hp2 hg2
        have hg' := hg
        obtain ⟨g0, g1, g2, g3, g4, g5, g6, g7, hb⟩ := hg
        have HG := Lib.hid hg'
        clear hg'
        have hd : decide (((rootAt p 2 j : Int) + (stepAt j : Int)) < 68719476736) = true := decide_eq_true (by omega)
        have hw : IntKind.u64.wrap ((rootAt p 2 j : Int) + (stepAt j : Int)) = (rootAt p 2 j : Int) + (stepAt j : Int) := by
          rw [IntKind.wrap_u64]; omega
        have H1 := Lib.hid h1
        clear h1
        go_wp2
        go_region_held3 (fun w' => w'.cell? ⟨w.heap.size, 0, none⟩ = some (.int .u64 (limb (goalN p 2) 0)) ∧ w'.cell? ⟨w.heap.size, 1, none⟩ = some (.int .u64 (limb (goalN p 2) 1)) ∧ w'.cell? ⟨w.heap.size, 2, none⟩ = some (.int .u64 (limb (goalN p 2) 2)) ∧ w'.cell? ⟨w.heap.size, 3, none⟩ = some (.int .u64 (limb (goalN p 2) 3)) ∧ w'.cell? ⟨w.heap.size, 4, none⟩ = some (.int .u64 (limb (goalN p 2) 4)) ∧ w'.cell? ⟨w.heap.size, 5, none⟩ = some (.int .u64 (limb (goalN p 2) 5)) ∧ w'.cell? ⟨w.heap.size, 6, none⟩ = some (.int .u64 (limb (goalN p 2) 6)) ∧ w'.cell? ⟨w.heap.size, 7, none⟩ = some (.int .u64 (limb (goalN p 2) 7)) ∧ Below w.heap.size w w')
          (first | exact HG.out | exact rootS_keep (by assumption) hb1 | exact rootS_keep (by assumption) hb2 | exact rootS_draw (by assumption) | go_keep)
          (first | (go_at_call 36; refine (refPower_sum2 _ _ H1.out _).mono ?_; rintro e w1 ⟨rfl, hb1⟩) | (go_at_call 35; refine (refAbove_lit _ _ HP2.out HG2.out _).mono ?_; rintro e w2 ⟨rfl, hb2⟩))
        have hz : RootS (goalN p 2) w w2 := by assumption
        clear hw hb1 hb2 g0 g1 g2 g3 g4 g5 g6 g7 hb
        have HZ := Lib.hid hz
        clear hz
        clear hd
        generalize limbs ((rootAt p 2 j + stepAt j) ^ 2) = LL
        generalize hq : decide (goalN p 2 < (rootAt p 2 j + stepAt j) ^ 2) = q
        cases q
        · have HR := Lib.hid (rootAt_yes p 2 j H1.out (of_decide_eq_false hq))
          clear hq
          go_wp2
          go_roundw
          case rel => exact ⟨j + 1, by omega, by rw [HR.out]; rfl, by rw [stepAt_half], HZ.out⟩
          case measure => simp only [intOf]; omega
        · have HR := Lib.hid (rootAt_no p 2 j (.inr (of_decide_eq_true hq)))
          clear hq
          go_wp2
          go_roundw
          case rel => exact ⟨j + 1, by omega, by rw [HR.out], by rw [stepAt_half], HZ.out⟩
          case measure => simp only [intOf]; omega
      · have HR := Lib.hid (rootAt_no p 2 j (.inl h1))
        have hd : decide (((rootAt p 2 j : Int) + (stepAt j : Int)) < 68719476736) = false := decide_eq_false (by omega)
        have HG := Lib.hid hg
        clear hg h1
        go_wp2
        go_quiet (fail)
        go_wp2
        go_roundw
        case rel => exact ⟨j + 1, by omega, by rw [HR.out], by rw [stepAt_half], rootS_draws HG.out _⟩
        case measure => simp only [intOf]; omega
    · obtain rfl : j = 37 := by omega
      have hb := rootS_below hg
      rw [stepAt_end]
      have HG := Lib.hid hg
      clear hg
      go_wp2
      go_ret
      exact ⟨rfl, hb⟩
set_option maxRecDepth 100000 in
set_option maxHeartbeats 1000000 in
theorem refRoot3_any (p : Nat) (hp : p < 65536) (w : World) :
    Calls Try.prog 29 #[.int .u64 p, .int .i64 3] w fun e w' => e = .returned (.int .u64 (rootAt p 3 37)) ∧ Below w.heap.size w w' := by
  go_enter Try.func29, Try.ntmps29
  go_wp2
  go_loopw [6, 7] (fun n s wr => ∃ j : Nat, j ≤ 37 ∧ n = .int .u64 (rootAt p 3 j) ∧ s = .int .u64 (stepAt j) ∧ RootS (goalN p 3) w wr) (fun _ s _ => (intOf s).toNat)
  case atStart =>
    refine ⟨0, by omega, rfl, rfl, rootS_of ?_ ((Below.refl _ _).alloc (Nat.le_refl _) _)⟩
    refine goal8_of (t := 43) ?_
    rw [limbs_goal3 p hp]
    simp only [heap_at_alloc, if_pos]
  case round =>
    obtain ⟨j, hj, rfl, rfl, hg⟩ := hrel
    by_cases hlt : j < 37
    · have hpos := stepAt_pos j hlt
      have hbd := stepAt_bd j
      have hr := rootAt_bd p 3 j
      by_cases h1 : rootAt p 3 j + stepAt j < 68719476736
      · have hp2 := top_power (rootAt p 3 j + stepAt j) 3 h1 (by omega)
        have hg2 := top_goal p 3 hp (by omega)
        have HP2 := Lib.hid hp2
        have HG2 := Lib.hid hg2
        clear hp2 hg2
        have hg' := hg
        obtain ⟨g0, g1, g2, g3, g4, g5, g6, g7, hb⟩ := hg
        have HG := Lib.hid hg'
        clear hg'
        have hd : decide (((rootAt p 3 j : Int) + (stepAt j : Int)) < 68719476736) = true := decide_eq_true (by omega)
        have hw : IntKind.u64.wrap ((rootAt p 3 j : Int) + (stepAt j : Int)) = (rootAt p 3 j : Int) + (stepAt j : Int) := by
          rw [IntKind.wrap_u64]; omega
        have H1 := Lib.hid h1
        clear h1
        go_wp2
        go_region_held3 (fun w' => w'.cell? ⟨w.heap.size, 0, none⟩ = some (.int .u64 (limb (goalN p 3) 0)) ∧ w'.cell? ⟨w.heap.size, 1, none⟩ = some (.int .u64 (limb (goalN p 3) 1)) ∧ w'.cell? ⟨w.heap.size, 2, none⟩ = some (.int .u64 (limb (goalN p 3) 2)) ∧ w'.cell? ⟨w.heap.size, 3, none⟩ = some (.int .u64 (limb (goalN p 3) 3)) ∧ w'.cell? ⟨w.heap.size, 4, none⟩ = some (.int .u64 (limb (goalN p 3) 4)) ∧ w'.cell? ⟨w.heap.size, 5, none⟩ = some (.int .u64 (limb (goalN p 3) 5)) ∧ w'.cell? ⟨w.heap.size, 6, none⟩ = some (.int .u64 (limb (goalN p 3) 6)) ∧ w'.cell? ⟨w.heap.size, 7, none⟩ = some (.int .u64 (limb (goalN p 3) 7)) ∧ Below w.heap.size w w')
          (first | exact HG.out | exact rootS_keep (by assumption) hb1 | exact rootS_keep (by assumption) hb2 | exact rootS_draw (by assumption) | go_keep)
          (first | (go_at_call 36; refine (refPower_sum3 _ _ H1.out _).mono ?_; rintro e w1 ⟨rfl, hb1⟩) | (go_at_call 35; refine (refAbove_lit _ _ HP2.out HG2.out _).mono ?_; rintro e w2 ⟨rfl, hb2⟩))
        have hz : RootS (goalN p 3) w w2 := by assumption
        clear hw hb1 hb2 g0 g1 g2 g3 g4 g5 g6 g7 hb
        have HZ := Lib.hid hz
        clear hz
        clear hd
        generalize limbs ((rootAt p 3 j + stepAt j) ^ 3) = LL
        generalize hq : decide (goalN p 3 < (rootAt p 3 j + stepAt j) ^ 3) = q
        cases q
        · have HR := Lib.hid (rootAt_yes p 3 j H1.out (of_decide_eq_false hq))
          clear hq
          go_wp2
          go_roundw
          case rel => exact ⟨j + 1, by omega, by rw [HR.out]; rfl, by rw [stepAt_half], HZ.out⟩
          case measure => simp only [intOf]; omega
        · have HR := Lib.hid (rootAt_no p 3 j (.inr (of_decide_eq_true hq)))
          clear hq
          go_wp2
          go_roundw
          case rel => exact ⟨j + 1, by omega, by rw [HR.out], by rw [stepAt_half], HZ.out⟩
          case measure => simp only [intOf]; omega
      · have HR := Lib.hid (rootAt_no p 3 j (.inl h1))
        have hd : decide (((rootAt p 3 j : Int) + (stepAt j : Int)) < 68719476736) = false := decide_eq_false (by omega)
        have HG := Lib.hid hg
        clear hg h1
        go_wp2
        go_quiet (fail)
        go_wp2
        go_roundw
        case rel => exact ⟨j + 1, by omega, by rw [HR.out], by rw [stepAt_half], rootS_draws HG.out _⟩
        case measure => simp only [intOf]; omega
    · obtain rfl : j = 37 := by omega
      have hb := rootS_below hg
      rw [stepAt_end]
      have HG := Lib.hid hg
      clear hg
      go_wp2
      go_ret
      exact ⟨rfl, hb⟩
theorem refCube_any (p : Nat) (hp : p < 65536) (w : World) :
    Calls Try.prog 29 #[.int .u64 p, .int .i64 3] w fun e w' => e = .returned (.int .u64 (cubeRoot p)) ∧ Below w.heap.size w w' := by
  rw [cubeRoot_eq]; exact refRoot3_any p hp w
theorem refSquare_any (p : Nat) (hp : p < 65536) (w : World) :
    Calls Try.prog 29 #[.int .u64 p, .int .i64 2] w fun e w' => e = .returned (.int .u64 (squareRoot p)) ∧ Below w.heap.size w w' := by
  rw [squareRoot_eq]; exact refRoot2_any p hp w
end Go.Proofs.Ytblmmpgainogbaa
