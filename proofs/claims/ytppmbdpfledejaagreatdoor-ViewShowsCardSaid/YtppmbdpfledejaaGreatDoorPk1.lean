/-
Texts that all claims of this seat share, part 1: Ref04Num, Texts, Dots, OpenDots, VecMore, HexaFace, Event, Ref06Split, Ref06More, Ref06Copy, Ref09, Ref09Parse, Mark, Ref10, Ref10Of.
-/
import Derived.Test.YtppmbdpfledejaaGreatDoorProg
import Derived.StillTailTactics
import Derived.WalkKit
import Derived.Lib.Hide
import Derived.Deep.RegionWith
import Derived.WalkLawsBesides
import Derived.Laws.AppendOwn
import Derived.Deep.SlicePairs
import Derived.Lib.ItoaNum
import Derived.Lib.LaidTab
import Derived.Lib.Split
import Derived.Lib.IndexBytes
import Derived.Lib.IndexLaws
import Derived.Laws.DeepStrings4
import Derived.BigQuiet
import Derived.Deep.QuietTactic
import Derived.Deep.DeepCutAuto
import Derived.Laws.IdiomStrings
import Derived.Test.YtppmbdpfledejaaGreatDoorPk0
namespace Go.Proofs.YtppmbdpfledejaaGreatDoor
open Go.RowKit
theorem numL_nonneg (m : Nat) : numL (m : Int) = digs m := by unfold numL; rw [if_neg (by omega)]; simp
theorem numL_neg (m : Nat) (h : 0 < m) : numL (-(m : Int)) = 45 :: digs m := by unfold numL; rw [if_pos (by omega)]; simp
theorem numL_length (n : Int) (h : -9223372036854775808 ≤ n) (h2 : n < 9223372036854775808) : (numL n).length ≤ 20 := by
  have := digs_length 19 n.natAbs (by omega) (by omega)
  unfold numL; split <;> simp <;> omega
/-- A slice of one byte that was just made, as a text. -/
theorem conv_one (w : World) (c : UInt8) (n : Nat) (hn : c.toNat = n) : (convert 43 9 (.slice (some ⟨w.heap.size, 0, none⟩) 1 1)).run Tryz.prog (w.alloc (.cells #[.int .u8 (n : Int)] 5)) = .ok (.string (str [c])) (w.alloc (.cells #[.int .u8 (n : Int)] 5)) := by
  subst hn
  have h := has_new w 5 (0, 0) ([c].map w8)
  rw [show (bytesL ([c].map w8)).toArray = #[.int .u8 (c.toNat : Int)] by rw [bytesL_map]; rfl] at h
  exact conv_text Tryz.underlying43 Tryz.underlying5 Tryz.underlying9 (l := [c]) h
theorem text_one (w : World) (c : UInt8) (n : Nat) (hn : c.toNat = n) : HasText (w.alloc (.cells #[.int .u8 (n : Int)] 5)) (.slice (some ⟨w.heap.size, 0, none⟩) 1 1) [c] := by
  subst hn
  have h := has_new w 5 (0, 0) ([c].map w8)
  rw [show (bytesL ([c].map w8)).toArray = #[.int .u8 (c.toNat : Int)] by rw [bytesL_map]; rfl] at h
  exact h
set_option maxRecDepth 100000 in
set_option maxHeartbeats 4000000 in
theorem refNumber_pos (m : Nat) (hm : m < 9223372036854775808) (w : World) : Calls Tryz.prog 75 #[.int .i64 (m : Int)] w fun e w' => e = .returned (.string (str (digs m))) ∧ Below w.heap.size w w' := by
  induction m using Nat.strongRecOn generalizing w with
  | _ m ih =>
  by_cases h10 : m < 10
  · obtain ⟨c, hc⟩ : ∃ c : UInt8, c = UInt8.ofNat (48 + m) := ⟨_, rfl⟩
    obtain ⟨cn, hcn⟩ : ∃ cn, c.toNat = cn := ⟨_, rfl⟩
    have e1 : (48 : Int) + (m : Int) = (cn : Int) := by rw [← hcn, hc, dig_toNat m h10]; omega
    have hl := digs_lo m h10
    rw [← hc] at hl
    have HL := Lib.hid hl
    have hc256 : IntKind.u8.wrap (cn : Int) = (cn : Int) := by have := UInt8.toNat_lt c; rw [IntKind.wrap_u8]; omega
    have q0 : (m : Int) < 10 := by omega
    have hcv := conv_one w c cn hcn
    clear ih hl hc hm hcn
    go_enter Tryz.func75, Tryz.ntmps75
    go_wp2_with fail
    go_ret
    exact ⟨by rw [HL.out]; rfl, (Below.refl _ _).alloc (Nat.le_refl _) _⟩
  · obtain ⟨q, hq⟩ : ∃ q : Nat, q = m / 10 := ⟨_, rfl⟩
    obtain ⟨c, hc⟩ : ∃ c : UInt8, c = UInt8.ofNat (48 + m % 10) := ⟨_, rfl⟩
    obtain ⟨r, hr⟩ : ∃ r : Nat, r = m % 10 := ⟨_, rfl⟩
    have IH := Lib.hid (ih q (by omega) (by omega))
    have e0 : (m : Int) / 10 = (q : Int) := by omega
    have e1 : (m : Int).tmod 10 = (r : Int) := by rw [Int.tmod_eq_emod_of_nonneg (by omega)]; omega
    obtain ⟨cn, hcn⟩ : ∃ cn, c.toNat = cn := ⟨_, rfl⟩
    have e2 : (48 : Int) + (r : Int) = (cn : Int) := by rw [← hcn, hc, dig_toNat (m % 10) (by omega)]; omega
    have hr10 : (r : Int) < 10 := by omega
    have hc256 : IntKind.u8.wrap (cn : Int) = (cn : Int) := by have := UInt8.toNat_lt c; rw [IntKind.wrap_u8]; omega
    have hl := digs_hi m (by omega)
    rw [← hc, ← hq] at hl
    have hd : decide ((m : Int) < 10) = false := decide_eq_false (by omega)
    have ew2 : IntKind.i64.wrap (cn : Int) = (cn : Int) := by have := UInt8.toNat_lt c; rw [IntKind.wrap_i64]; omega
    have ew : IntKind.i64.wrap (q : Int) = (q : Int) := by rw [IntKind.wrap_i64]; omega
    have HT := Lib.hid (fun w => text_one w c cn hcn)
    have hadd := add_str (P := Tryz.prog) (digs q) [c] (by have := digs_length 19 q (by omega) (by omega); simp; omega)
    rw [← hl] at hadd
    clear ih hl hc hr hq hm hcn
    go_enter Tryz.func75, Tryz.ntmps75
    go_wp2_with fail
    -- REGION7
    refine wp_region_held_drew (S := fun w' => Below w.heap.size w w') (by kernel_rfl) (below_draws (Below.refl _ _) 1) (fun hHeld => ?_)
    refine take_at (i := 0) 34 rfl rfl (by kernel_rfl) (by kernel_rfl) (by kernel_rfl) (fun _ _ _ h => h) (sure_yes (by rfl) (fun w => by go_simp; try with_reducible rfl)) (by assumption) ?_
    simp only [List.setIfInBounds_toArray, List.set_cons_zero, List.set_cons_succ]
    refine take_at (i := 1) 35 rfl rfl (by kernel_rfl) (by kernel_rfl) (by kernel_rfl) (fun _ _ _ h => h) (sure_yes (by rfl) (fun w => by go_simp; try with_reducible rfl)) (by assumption) ?_
    simp only [List.setIfInBounds_toArray, List.set_cons_zero, List.set_cons_succ]
    refine take_at (i := 3) 37 rfl rfl (by kernel_rfl) (by kernel_rfl) (by kernel_rfl) (fun _ _ _ h => h) (sure_yes (by rfl) (fun w => by go_simp; try with_reducible rfl)) (by assumption) ?_
    simp only [List.setIfInBounds_toArray, List.set_cons_zero, List.set_cons_succ]
    refine take_at (i := 4) 38 rfl rfl (by kernel_rfl) (by kernel_rfl) (by kernel_rfl) (fun _ _ _ h => h) (sure_yes (by rfl) (fun w => by go_simp; try with_reducible rfl)) (by assumption) ?_
    simp only [List.setIfInBounds_toArray, List.set_cons_zero, List.set_cons_succ]
    refine take_at (i := 5) 39 rfl rfl (by kernel_rfl) (by kernel_rfl) (by kernel_rfl) (fun _ _ _ h => h) (sure_yes (by rfl) (fun w => by go_simp; try with_reducible rfl)) (by assumption) ?_
    simp only [List.setIfInBounds_toArray, List.set_cons_zero, List.set_cons_succ]
    refine take_at (i := 6) 40 rfl rfl (by kernel_rfl) (by kernel_rfl) (by kernel_rfl) (fun _ _ _ h => h) (sure_yes (by rfl) (fun w => by go_simp; try with_reducible rfl)) (by assumption) ?_
    simp only [List.setIfInBounds_toArray, List.set_cons_zero, List.set_cons_succ]
    refine wpAnyH_ready (rs := [2, 7]) (by kernel_rfl) (by simp) ?_
    refine AllReadyH.cons rfl (fun K hK => ?_) (AllReadyH.cons rfl (fun K hK => ?_) AllReadyH.nil)
    · go_simp
      go_at_call 75
      refine (IH.out _).mono ?_
      rintro e w1 ⟨rfl, hb1⟩
      go_wp2_with fail
      refine hK.out _ _ (below_next (below_draws (Below.refl _ _) 1) hb1) (fun hS1 => ?_)
      clear hK K
      refine wpAnyH_ready (rs := [7]) (by kernel_rfl) (by simp) ?_
      refine AllReadyH.cons rfl (fun K hK => ?_) AllReadyH.nil
      go_simp
      refine hK.out _ _ (hS1.alloc hS1.size _) (fun hS2 => ?_)
      clear hK K
      refine wpAnyH_ready (rs := [8]) (by kernel_rfl) (by simp) ?_
      refine AllReadyH.cons rfl (fun K hK => ?_) AllReadyH.nil
      refine conv_step 42 rfl (by rfl) 43 9 5 (.tmp 41) _ rfl rfl Tryz.underlying43 Tryz.underlying5 Tryz.underlying9 [c] (HT.out w1) ?_
      refine hK.out _ _ (by assumption) (fun _ => ?_)
      clear hK K
      simp only [List.setIfInBounds_toArray, List.set_cons_zero, List.set_cons_succ]
      refine take_at (i := 9) 43 rfl rfl (by kernel_rfl) (by kernel_rfl) (by kernel_rfl) (fun _ _ _ h => h) (sure_yes (by rfl) (fun w => by go_simp; try with_reducible rfl)) (by assumption) ?_
      simp only [List.setIfInBounds_toArray, List.set_cons_zero, List.set_cons_succ]
      refine take_at (i := 10) 2 rfl rfl (by kernel_rfl) (by kernel_rfl) (by kernel_rfl) (fun _ _ _ h => h) (sure_yes (by rfl) (fun w => by go_simp; try with_reducible rfl)) (by assumption) ?_
      simp only [List.setIfInBounds_toArray, List.set_cons_zero, List.set_cons_succ]
      refine wpAnyH_done (by kernel_rfl) ?_ _
      go_wp2
      go_ret
      exact ⟨rfl, by assumption⟩
    · go_simp
      refine hK.out _ _ ((below_draws (Below.refl _ _) 1).alloc (Nat.le_refl _) _) (fun hS2 => ?_)
      clear hK K
      refine wpAnyH_ready (rs := [2, 8]) (by kernel_rfl) (by simp) ?_
      refine AllReadyH.cons rfl (fun K hK => ?_) (AllReadyH.cons rfl (fun K hK => ?_) AllReadyH.nil)
      · go_simp
        go_at_call 75
        refine (IH.out _).mono ?_
        rintro e w1 ⟨rfl, hb1⟩
        go_wp2_with fail
        refine hK.out _ _ (below_next hS2 hb1) (fun hS1 => ?_)
        clear hK K
        refine wpAnyH_ready (rs := [8]) (by kernel_rfl) (by simp) ?_
        refine AllReadyH.cons rfl (fun K hK => ?_) AllReadyH.nil
        refine conv_step 42 rfl (by rfl) 43 9 5 (.tmp 41) _ rfl rfl Tryz.underlying43 Tryz.underlying5 Tryz.underlying9 [c] (has_below (w := (w.alloc _).drew) (HT.out w) hb1) ?_
        refine hK.out _ _ (by assumption) (fun _ => ?_)
        clear hK K
        simp only [List.setIfInBounds_toArray, List.set_cons_zero, List.set_cons_succ]
        refine take_at (i := 9) 43 rfl rfl (by kernel_rfl) (by kernel_rfl) (by kernel_rfl) (fun _ _ _ h => h) (sure_yes (by rfl) (fun w => by go_simp; try with_reducible rfl)) (by assumption) ?_
        simp only [List.setIfInBounds_toArray, List.set_cons_zero, List.set_cons_succ]
        refine take_at (i := 10) 2 rfl rfl (by kernel_rfl) (by kernel_rfl) (by kernel_rfl) (fun _ _ _ h => h) (sure_yes (by rfl) (fun w => by go_simp; try with_reducible rfl)) (by assumption) ?_
        simp only [List.setIfInBounds_toArray, List.set_cons_zero, List.set_cons_succ]
        refine wpAnyH_done (by kernel_rfl) ?_ _
        go_wp2
        go_ret
        exact ⟨rfl, by assumption⟩
      · refine conv_step 42 rfl (by rfl) 43 9 5 (.tmp 41) _ rfl rfl Tryz.underlying43 Tryz.underlying5 Tryz.underlying9 [c] (HT.out w) ?_
        refine hK.out _ _ (by assumption) (fun _ => ?_)
        clear hK K
        simp only [List.setIfInBounds_toArray, List.set_cons_zero, List.set_cons_succ]
        refine wpAnyH_ready (rs := [2]) (by kernel_rfl) (by simp) ?_
        refine AllReadyH.cons rfl (fun K hK => ?_) AllReadyH.nil
        go_simp
        go_at_call 75
        refine (IH.out _).mono ?_
        rintro e w1 ⟨rfl, hb1⟩
        go_wp2_with fail
        refine hK.out _ _ (below_next hS2 hb1) (fun hS1 => ?_)
        clear hK K
        refine take_at (i := 9) 43 rfl rfl (by kernel_rfl) (by kernel_rfl) (by kernel_rfl) (fun _ _ _ h => h) (sure_yes (by rfl) (fun w => by go_simp; try with_reducible rfl)) (by assumption) ?_
        simp only [List.setIfInBounds_toArray, List.set_cons_zero, List.set_cons_succ]
        refine take_at (i := 10) 2 rfl rfl (by kernel_rfl) (by kernel_rfl) (by kernel_rfl) (fun _ _ _ h => h) (sure_yes (by rfl) (fun w => by go_simp; try with_reducible rfl)) (by assumption) ?_
        simp only [List.setIfInBounds_toArray, List.set_cons_zero, List.set_cons_succ]
        refine wpAnyH_done (by kernel_rfl) ?_ _
        go_wp2
        go_ret
        exact ⟨rfl, by assumption⟩
set_option maxRecDepth 100000 in
set_option maxHeartbeats 4000000 in
theorem refNumber_neg (m : Nat) (h0 : 0 < m) (hm : m ≤ 9223372036854775808) (w : World) : Calls Tryz.prog 75 #[.int .i64 (-(m : Int))] w fun e w' => e = .returned (.string (str (45 :: digs m))) ∧ Below w.heap.size w w' := by
  induction m using Nat.strongRecOn generalizing w with
  | _ m ih =>
  obtain ⟨z, hz⟩ : ∃ z : Int, z = -(m : Int) := ⟨_, rfl⟩
  rw [← hz]
  have hneg : decide (z < 0) = true := decide_eq_true (by omega)
  by_cases h10 : m < 10
  · obtain ⟨c, hc⟩ : ∃ c : UInt8, c = UInt8.ofNat (48 + m) := ⟨_, rfl⟩
    obtain ⟨cn, hcn⟩ : ∃ cn, c.toNat = cn := ⟨_, rfl⟩
    have hcn2 : cn = 48 + m := by rw [← hcn, hc, dig_toNat m h10]
    have e1 : (48 : Int) - z = (cn : Int) := by omega
    have hl := digs_lo m h10
    rw [← hc] at hl
    have hadd := add_str (P := Tryz.prog) [45] [c] (by simp)
    rw [show [45] ++ [c] = 45 :: digs m from by rw [hl]; rfl] at hadd
    have hc256 : IntKind.u8.wrap (cn : Int) = (cn : Int) := by rw [IntKind.wrap_u8]; omega
    have ew2 : IntKind.i64.wrap (cn : Int) = (cn : Int) := by rw [IntKind.wrap_i64]; omega
    have q0 : decide (-10 < z) = true := decide_eq_true (by omega)
    have hcv := conv_one w c cn hcn
    have h45 : (ByteArray.mk #[45]) = str [45] := rfl
    clear ih hl hc hm hcn hz h0 hcn2
    go_enter Tryz.func75, Tryz.ntmps75
    go_wp2_with fail
    go_ret
    exact ⟨rfl, (Below.refl _ _).alloc (Nat.le_refl _) _⟩
  · obtain ⟨q, hq⟩ : ∃ q : Nat, q = m / 10 := ⟨_, rfl⟩
    obtain ⟨y, hy⟩ : ∃ y : Int, y = -(q : Int) := ⟨_, rfl⟩
    obtain ⟨c, hc⟩ : ∃ c : UInt8, c = UInt8.ofNat (48 + m % 10) := ⟨_, rfl⟩
    obtain ⟨r, hr⟩ : ∃ r : Int, r = -((m % 10 : Nat) : Int) := ⟨_, rfl⟩
    have ih' := ih q (by omega) (by omega) (by omega)
    rw [← hy] at ih'
    have IH := Lib.hid ih'
    have e0 : z.tdiv 10 = y := by rw [hz, hy, hq, Int.neg_tdiv, Int.tdiv_eq_ediv_of_nonneg (by omega)]; omega
    have e1 : z.tmod 10 = r := by rw [hz, hr, Int.neg_tmod, Int.tmod_eq_emod_of_nonneg (by omega)]; omega
    obtain ⟨cn, hcn⟩ : ∃ cn, c.toNat = cn := ⟨_, rfl⟩
    have hcn2 : cn = 48 + m % 10 := by rw [← hcn, hc, dig_toNat (m % 10) (by omega)]
    have e2 : (48 : Int) - r = (cn : Int) := by omega
    have hc256 : IntKind.u8.wrap (cn : Int) = (cn : Int) := by rw [IntKind.wrap_u8]; omega
    have ew2 : IntKind.i64.wrap (cn : Int) = (cn : Int) := by rw [IntKind.wrap_i64]; omega
    have ew : IntKind.i64.wrap y = y := by rw [IntKind.wrap_i64]; omega
    have ew3 : IntKind.i64.wrap r = r := by rw [IntKind.wrap_i64]; omega
    have hl := digs_hi m (by omega)
    rw [← hc, ← hq] at hl
    have HT := Lib.hid (fun w => text_one w c cn hcn)
    have hadd := add_str (P := Tryz.prog) (45 :: digs q) [c] (by have := digs_length 19 q (by omega) (by omega); simp; omega)
    rw [show (45 :: digs q) ++ [c] = 45 :: digs m from by rw [hl]; rfl] at hadd
    have hd : decide (-10 < z) = false := decide_eq_false (by omega)
    clear ih ih' hl hc hr hq hm hcn hcn2 hy hz h0
    go_enter Tryz.func75, Tryz.ntmps75
    go_wp2_with fail
    refine wp_region_held_drew (S := fun w' => Below w.heap.size w w') (by kernel_rfl) (below_draws (Below.refl _ _) 1) (fun hHeld => ?_)
    refine take_at (i := 0) 17 rfl rfl (by kernel_rfl) (by kernel_rfl) (by kernel_rfl) (fun _ _ _ h => h) (sure_yes (by rfl) (fun w => by go_simp; try with_reducible rfl)) (by assumption) ?_
    simp only [List.setIfInBounds_toArray, List.set_cons_zero, List.set_cons_succ]
    refine take_at (i := 1) 18 rfl rfl (by kernel_rfl) (by kernel_rfl) (by kernel_rfl) (fun _ _ _ h => h) (sure_yes (by rfl) (fun w => by go_simp; try with_reducible rfl)) (by assumption) ?_
    simp only [List.setIfInBounds_toArray, List.set_cons_zero, List.set_cons_succ]
    refine take_at (i := 3) 20 rfl rfl (by kernel_rfl) (by kernel_rfl) (by kernel_rfl) (fun _ _ _ h => h) (sure_yes (by rfl) (fun w => by go_simp; try with_reducible rfl)) (by assumption) ?_
    simp only [List.setIfInBounds_toArray, List.set_cons_zero, List.set_cons_succ]
    refine take_at (i := 4) 21 rfl rfl (by kernel_rfl) (by kernel_rfl) (by kernel_rfl) (fun _ _ _ h => h) (sure_yes (by rfl) (fun w => by go_simp; try with_reducible rfl)) (by assumption) ?_
    simp only [List.setIfInBounds_toArray, List.set_cons_zero, List.set_cons_succ]
    refine take_at (i := 5) 22 rfl rfl (by kernel_rfl) (by kernel_rfl) (by kernel_rfl) (fun _ _ _ h => h) (sure_yes (by rfl) (fun w => by go_simp; try with_reducible rfl)) (by assumption) ?_
    simp only [List.setIfInBounds_toArray, List.set_cons_zero, List.set_cons_succ]
    refine take_at (i := 6) 23 rfl rfl (by kernel_rfl) (by kernel_rfl) (by kernel_rfl) (fun _ _ _ h => h) (sure_yes (by rfl) (fun w => by go_simp; try with_reducible rfl)) (by assumption) ?_
    simp only [List.setIfInBounds_toArray, List.set_cons_zero, List.set_cons_succ]
    refine wpAnyH_ready (rs := [2, 7]) (by kernel_rfl) (by simp) ?_
    refine AllReadyH.cons rfl (fun K hK => ?_) (AllReadyH.cons rfl (fun K hK => ?_) AllReadyH.nil)
    · go_simp
      go_at_call 75
      refine (IH.out _).mono ?_
      rintro e w1 ⟨rfl, hb1⟩
      go_wp2_with fail
      refine hK.out _ _ (below_next (below_draws (Below.refl _ _) 1) hb1) (fun hS1 => ?_)
      clear hK K
      refine wpAnyH_ready (rs := [7]) (by kernel_rfl) (by simp) ?_
      refine AllReadyH.cons rfl (fun K hK => ?_) AllReadyH.nil
      go_simp
      refine hK.out _ _ (hS1.alloc hS1.size _) (fun hS2 => ?_)
      clear hK K
      refine wpAnyH_ready (rs := [8]) (by kernel_rfl) (by simp) ?_
      refine AllReadyH.cons rfl (fun K hK => ?_) AllReadyH.nil
      refine conv_step 25 rfl (by rfl) 43 9 5 (.tmp 24) _ rfl rfl Tryz.underlying43 Tryz.underlying5 Tryz.underlying9 [c] (HT.out w1) ?_
      refine hK.out _ _ (by assumption) (fun _ => ?_)
      clear hK K
      simp only [List.setIfInBounds_toArray, List.set_cons_zero, List.set_cons_succ]
      refine take_at (i := 9) 26 rfl rfl (by kernel_rfl) (by kernel_rfl) (by kernel_rfl) (fun _ _ _ h => h) (sure_yes (by rfl) (fun w => by go_simp; try with_reducible rfl)) (by assumption) ?_
      simp only [List.setIfInBounds_toArray, List.set_cons_zero, List.set_cons_succ]
      refine take_at (i := 10) 2 rfl rfl (by kernel_rfl) (by kernel_rfl) (by kernel_rfl) (fun _ _ _ h => h) (sure_yes (by rfl) (fun w => by go_simp; try with_reducible rfl)) (by assumption) ?_
      simp only [List.setIfInBounds_toArray, List.set_cons_zero, List.set_cons_succ]
      refine wpAnyH_done (by kernel_rfl) ?_ _
      go_wp2
      go_ret
      exact ⟨rfl, by assumption⟩
    · go_simp
      refine hK.out _ _ ((below_draws (Below.refl _ _) 1).alloc (Nat.le_refl _) _) (fun hS2 => ?_)
      clear hK K
      refine wpAnyH_ready (rs := [2, 8]) (by kernel_rfl) (by simp) ?_
      refine AllReadyH.cons rfl (fun K hK => ?_) (AllReadyH.cons rfl (fun K hK => ?_) AllReadyH.nil)
      · go_simp
        go_at_call 75
        refine (IH.out _).mono ?_
        rintro e w1 ⟨rfl, hb1⟩
        go_wp2_with fail
        refine hK.out _ _ (below_next hS2 hb1) (fun hS1 => ?_)
        clear hK K
        refine wpAnyH_ready (rs := [8]) (by kernel_rfl) (by simp) ?_
        refine AllReadyH.cons rfl (fun K hK => ?_) AllReadyH.nil
        refine conv_step 25 rfl (by rfl) 43 9 5 (.tmp 24) _ rfl rfl Tryz.underlying43 Tryz.underlying5 Tryz.underlying9 [c] (has_below (w := (w.alloc _).drew) (HT.out w) hb1) ?_
        refine hK.out _ _ (by assumption) (fun _ => ?_)
        clear hK K
        simp only [List.setIfInBounds_toArray, List.set_cons_zero, List.set_cons_succ]
        refine take_at (i := 9) 26 rfl rfl (by kernel_rfl) (by kernel_rfl) (by kernel_rfl) (fun _ _ _ h => h) (sure_yes (by rfl) (fun w => by go_simp; try with_reducible rfl)) (by assumption) ?_
        simp only [List.setIfInBounds_toArray, List.set_cons_zero, List.set_cons_succ]
        refine take_at (i := 10) 2 rfl rfl (by kernel_rfl) (by kernel_rfl) (by kernel_rfl) (fun _ _ _ h => h) (sure_yes (by rfl) (fun w => by go_simp; try with_reducible rfl)) (by assumption) ?_
        simp only [List.setIfInBounds_toArray, List.set_cons_zero, List.set_cons_succ]
        refine wpAnyH_done (by kernel_rfl) ?_ _
        go_wp2
        go_ret
        exact ⟨rfl, by assumption⟩
      · refine conv_step 25 rfl (by rfl) 43 9 5 (.tmp 24) _ rfl rfl Tryz.underlying43 Tryz.underlying5 Tryz.underlying9 [c] (HT.out w) ?_
        refine hK.out _ _ (by assumption) (fun _ => ?_)
        clear hK K
        simp only [List.setIfInBounds_toArray, List.set_cons_zero, List.set_cons_succ]
        refine wpAnyH_ready (rs := [2]) (by kernel_rfl) (by simp) ?_
        refine AllReadyH.cons rfl (fun K hK => ?_) AllReadyH.nil
        go_simp
        go_at_call 75
        refine (IH.out _).mono ?_
        rintro e w1 ⟨rfl, hb1⟩
        go_wp2_with fail
        refine hK.out _ _ (below_next hS2 hb1) (fun hS1 => ?_)
        clear hK K
        refine take_at (i := 9) 26 rfl rfl (by kernel_rfl) (by kernel_rfl) (by kernel_rfl) (fun _ _ _ h => h) (sure_yes (by rfl) (fun w => by go_simp; try with_reducible rfl)) (by assumption) ?_
        simp only [List.setIfInBounds_toArray, List.set_cons_zero, List.set_cons_succ]
        refine take_at (i := 10) 2 rfl rfl (by kernel_rfl) (by kernel_rfl) (by kernel_rfl) (fun _ _ _ h => h) (sure_yes (by rfl) (fun w => by go_simp; try with_reducible rfl)) (by assumption) ?_
        simp only [List.setIfInBounds_toArray, List.set_cons_zero, List.set_cons_succ]
        refine wpAnyH_done (by kernel_rfl) ?_ _
        go_wp2
        go_ret
        exact ⟨rfl, by assumption⟩
theorem refNumber_any (n : Int) (h1 : -9223372036854775808 ≤ n) (h2 : n < 9223372036854775808) (w : World) : Calls Tryz.prog 75 #[.int .i64 n] w fun e w' => e = .returned (.string (str (numL n))) ∧ Below w.heap.size w w' := by
  by_cases h : n < 0
  · obtain ⟨m, hm⟩ : ∃ m : Nat, n = -(m : Int) := ⟨n.natAbs, by omega⟩
    subst hm
    rw [numL_neg m (by omega)]
    exact refNumber_neg m (by omega) (by omega) w
  · obtain ⟨m, rfl⟩ : ∃ m : Nat, n = (m : Int) := ⟨n.natAbs, by omega⟩
    rw [numL_nonneg m]
    exact refNumber_pos m (by omega) w
end Go.Proofs.YtppmbdpfledejaaGreatDoor
namespace Go.Proofs.YtppmbdpfledejaaGreatDoor
open Go.RowKit
/-- Texts as the cells of a slice. -/
def textsL (ls : List (List UInt8)) : List Value := ls.map fun l => Value.string (str l)
/-- A slice value whose elements are these texts. -/
def HasTexts (w : World) (v : Value) (ls : List (List UInt8)) : Prop :=
  ∃ ao cap, v = .slice ao ls.length cap ∧ (ao = none → ls = [] ∧ cap = 0) ∧ ∀ ad, ao = some ad → ls.length ≤ cap ∧ ∀ j u, (textsL ls)[j]? = some u → w.cell? (ad.add j) = some u
theorem texts_nil (w : World) : HasTexts w (.slice none 0 0) [] := ⟨none, 0, rfl, fun _ => ⟨rfl, rfl⟩, fun _ h => by cases h⟩
theorem texts_of_own {w : World} {base : Nat} {e : TypeId} {v : Value} {ls : List (List UInt8)} (h : w.ownsRow base e 1 v ls.length (textsL ls)) : HasTexts w v ls := by
  rcases h.2 with ⟨rfl, h0⟩ | ⟨g, cap, cur, rfl, rest⟩
  · obtain rfl : ls = [] := List.eq_nil_of_length_eq_zero h0
    exact texts_nil w
  · exact ⟨some ⟨g, 0, none⟩, cap, rfl, (fun h => by cases h), fun ad had => ⟨rest.2.2.1, fun j u hu => by
      cases had; exact h.cells rfl j u hu⟩⟩
theorem texts_below {w w' : World} {v : Value} {ls : List (List UInt8)} (h : HasTexts w v ls) (hb : Below w.heap.size w w') : HasTexts w' v ls := by
  obtain ⟨ao, cap, rfl, hnil, hc⟩ := h
  refine ⟨ao, cap, rfl, hnil, fun ad had => ⟨(hc ad had).1, fun j u hu => ?_⟩⟩
  have h1 := (hc ad had).2 j u hu
  exact (World.cell?_of_block (hb.block (ad.add j).block (World.block_lt_of_cell? w _ h1))).trans h1
/-- A text of such a slice. -/
theorem texts_at {w : World} {v : Value} {ls : List (List UInt8)} (h : HasTexts w v ls) (n k : Nat) (hn : ls.length = n) (hk : k < n) (l : List UInt8) (hl : ls[k]? = some l) : ∃ ad cap, v = .slice (some ad) n cap ∧ w.cell? (ad.add k) = some (.string (str l)) := by
  obtain ⟨ao, cap, rfl, hnil, hcs⟩ := h
  subst hn
  cases ao with
  | none => obtain ⟨hl, _⟩ := hnil rfl; subst hl; simp at hk
  | some ad =>
    refine ⟨ad, cap, rfl, (hcs ad rfl).2 k _ ?_⟩
    simp only [textsL, List.getElem?_map, hl, Option.map]
theorem texts_shape {w : World} {v : Value} {ls : List (List UInt8)} (h : HasTexts w v ls) (n : Nat) (hn : ls.length = n) : ∃ ao cap, v = .slice ao n cap := by
  obtain ⟨ao, cap, rfl, -⟩ := h
  exact ⟨ao, cap, by rw [hn]⟩
end Go.Proofs.YtppmbdpfledejaaGreatDoor
namespace Go.Proofs.YtppmbdpfledejaaGreatDoor
open Go.RowKit
/-- Dots as the cells of a slice. -/
def dotsC : List D2 → List Value
  | [] => []
  | d :: t => .int .i64 d.1 :: .int .i64 d.2 :: dotsC t
theorem dotsC_append (l m : List D2) : dotsC (l ++ m) = dotsC l ++ dotsC m := by
  induction l with
  | nil => rfl
  | cons d t ih => rw [List.cons_append, dotsC, dotsC, ih]; rfl
theorem dotsC_at (l : List D2) : ∀ k d, l[k]? = some d → (dotsC l)[k * 2]? = some (.int .i64 d.1) ∧ (dotsC l)[k * 2 + 1]? = some (.int .i64 d.2) := by
  induction l with
  | nil => intro k d h; simp at h
  | cons y t ih =>
    intro k d h
    cases k with
    | zero => simp at h; subst h; exact ⟨rfl, rfl⟩
    | succ k =>
      have := ih k d (by simpa using h)
      rw [dotsC, show (k + 1) * 2 = k * 2 + 2 from by omega]
      exact this
theorem dotsC_inv (l : List D2) : ∀ j u, (dotsC l)[j]? = some u → ∃ i d, l[i]? = some d ∧ ((j = i * 2 ∧ u = .int .i64 d.1) ∨ (j = i * 2 + 1 ∧ u = .int .i64 d.2)) := by
  induction l with
  | nil => intro j u h; simp [dotsC] at h
  | cons d t ih =>
    intro j u h
    match j, h with
    | 0, h => exact ⟨0, d, rfl, .inl ⟨rfl, by simpa [dotsC] using h.symm⟩⟩
    | 1, h => exact ⟨0, d, rfl, .inr ⟨rfl, by simpa [dotsC] using h.symm⟩⟩
    | j + 2, h =>
      obtain ⟨i, y, h1, h2⟩ := ih j u (by simpa [dotsC] using h)
      exact ⟨i + 1, y, by simpa using h1, h2.elim (fun ⟨a, b⟩ => .inl ⟨by omega, b⟩) (fun ⟨a, b⟩ => .inr ⟨by omega, b⟩)⟩
theorem dotsC_one (l : List D2) : ∀ u ∈ dotsC l, u.oneCell' = true := by
  induction l with
  | nil => intro u h; cases h
  | cons d t ih =>
    intro u hu
    rw [dotsC] at hu
    rcases List.mem_cons.1 hu with rfl | hu
    · rfl
    · rcases List.mem_cons.1 hu with rfl | hu
      · rfl
      · exact ih u hu
/-- A slice value whose elements are these dots. -/
def HasDots (w : World) (v : Value) (l : List D2) : Prop :=
  ∃ ao cap, v = .slice ao l.length cap ∧ (ao = none → l = [] ∧ cap = 0) ∧ ∀ ad, ao = some ad → l.length ≤ cap ∧ ∀ j u, (dotsC l)[j]? = some u → w.cell? (ad.add j) = some u
theorem dots_nil (w : World) : HasDots w (.slice none 0 0) [] := ⟨none, 0, rfl, fun _ => ⟨rfl, rfl⟩, fun _ h => by cases h⟩
theorem dots_below {w w' : World} {v : Value} {l : List D2} (h : HasDots w v l) (hb : Below w.heap.size w w') : HasDots w' v l := by
  obtain ⟨ao, cap, rfl, hnil, hc⟩ := h
  refine ⟨ao, cap, rfl, hnil, fun ad had => ⟨(hc ad had).1, fun j u hu => ?_⟩⟩
  have h1 := (hc ad had).2 j u hu
  exact (World.cell?_of_block (hb.block (ad.add j).block (World.block_lt_of_cell? w _ h1))).trans h1
theorem dots_shape {w : World} {v : Value} {l : List D2} (h : HasDots w v l) (n : Nat) (hn : n = l.length) : ∃ ao cap, v = .slice ao n cap := by
  obtain ⟨ao, cap, rfl, -⟩ := h
  exact ⟨ao, cap, by rw [hn]⟩
theorem addr_next2 (ad : Addr) (k : Nat) : ad.add (k + 1) = ⟨(ad.add k).block, (ad.add k).off + 1, none⟩ := by
  unfold Addr.add
  rw [if_neg (by omega)]
  split
  · rename_i h; subst h; rfl
  · rfl
/-- A dot of such a slice. -/
theorem dots_at {w : World} {v : Value} {l : List D2} (h : HasDots w v l) (n k : Nat) (hn : l.length = n) (d : D2) (hd : l[k]? = some d) : ∃ ad cap, v = .slice (some ad) n cap ∧ w.cell? (ad.add (k * 2)) = some (.int .i64 d.1) ∧ w.cell? ⟨(ad.add (k * 2)).block, (ad.add (k * 2)).off + 1, none⟩ = some (.int .i64 d.2) := by
  obtain ⟨ao, cap, rfl, hnil, hc⟩ := h
  cases ao with
  | none => obtain ⟨rfl, _⟩ := hnil rfl; simp at hd
  | some ad =>
    obtain ⟨p1, p2⟩ := dotsC_at l k d hd
    exact ⟨ad, cap, by rw [← hn], (hc ad rfl).2 _ _ p1, by rw [← addr_next2]; exact (hc ad rfl).2 _ _ p2⟩
theorem dots_of_own {w : World} {base : Nat} {e : TypeId} {v : Value} {l : List D2} (h : w.ownsRow base e 2 v l.length (dotsC l)) : HasDots w v l := by
  rcases h.2 with ⟨rfl, h0⟩ | ⟨g, cap, cur, rfl, rest⟩
  · obtain rfl : l = [] := List.eq_nil_of_length_eq_zero h0
    exact dots_nil w
  · exact ⟨some ⟨g, 0, none⟩, cap, rfl, (fun h => by cases h), fun ad had => ⟨rest.2.2.1, fun j u hu => by
      cases had; exact h.cells rfl j u hu⟩⟩
/-- Dots in a block that holds dots alone. -/
def TypDots (w : World) (v : Value) (l : List D2) : Prop := HasDots w v l ∧ (l = [] ∨ ∃ k cs fr, v.ownBlock = some k ∧ w.heap[k]? = some (.cells cs 29 fr))
theorem typ_nil (w : World) : TypDots w (.slice none 0 0) [] := ⟨dots_nil w, .inl rfl⟩
theorem typ_of_own {w : World} {base : Nat} {v : Value} {l : List D2} (h : w.ownsRow base 29 2 v l.length (dotsC l)) : TypDots w v l := by
  refine ⟨dots_of_own h, ?_⟩
  rcases h.2 with ⟨rfl, h0⟩ | ⟨g, cap, cur, rfl, h1, h2, rest⟩
  · exact .inl (List.eq_nil_of_length_eq_zero h0)
  · exact .inr ⟨g, cur, (0, 0), rfl, h2⟩
theorem typ_below {w w' : World} {v : Value} {l : List D2} (h : TypDots w v l) (hb : Below w.heap.size w w') : TypDots w' v l := by
  refine ⟨dots_below h.1 hb, h.2.elim .inl fun ⟨k, cs, fr, h1, h2⟩ => .inr ⟨k, cs, fr, h1, ?_⟩⟩
  exact (hb.block k (Array.getElem?_eq_some_iff.1 h2).1).trans h2
theorem dots_own_nil (w : World) (e : TypeId) (base : Nat) : w.ownsRow base e 2 (.slice none 0 0) ([] : List D2).length (dotsC []) := ⟨rfl, .inl ⟨rfl, rfl⟩⟩
theorem append_dot {P : Program} {w : World} {ops : Array Oper} {rest : List Oper} {o : Oper} {a : Act} {Q : Exit → Act → World → Prop} (hgd : o.guard = none) (s x : Operand) (t : TypeId)
    (ho : o.op = .call { callee := .builtin .append, args := #[s, x], argTypes := #[t, t] })
    (base : Nat) (e : TypeId) (i : TypeInfo) (ht : P.underlying t = some (.slice e)) (hi : P.info? e = some i) (hz : (i.zero.map (·.cells.size), i.size, i.bytes) = (some 2, 2, 16))
    (v : Value) (l : List D2) (d : D2) (hs : a.eval s = v) (hown : w.ownsRow base e 2 v l.length (dotsC l)) (ad : Addr) (c : Nat) (hx : a.eval x = .slice (some ad) 1 c)
    (hc : w.cell? ad = some (.int .i64 d.1) ∧ w.cell? (ad.add 1) = some (.int .i64 d.2))
    (hlen : l.length + 1 ≤ 2000000) (hbase : base ≤ w.heap.size)
    (h : ∀ v' w', w'.ownsRow base e 2 v' (l ++ [d]).length (dotsC (l ++ [d])) → w.grownBy w' v.ownBlock → wpList P ops Q rest (a.put o.dst v') w') : wpList P ops Q (o :: rest) a w := by
  have hadd : ad.add 0 = ad := by unfold Addr.add; split <;> simp_all
  simp only [Prod.mk.injEq] at hz
  obtain ⟨hz1, hz2, hz3⟩ := hz
  cases hzz : i.zero with
  | none => rw [hzz] at hz1; cases hz1
  | some z =>
    rw [hzz] at hz1
    simp only [Option.map_some, Option.some.injEq] at hz1
    refine wpList_append_own w hgd s x t ho base e i z 2 16 ht hi hzz hz2 hz3 hz1 (by decide) v l.length (dotsC l) hs hown ad 1 c (dotsC [d]) hx rfl (fun j u hj => ?_) (fun u hu => dotsC_one [d] u hu)
      (by unfold maxLen; omega) (by omega) hbase fun v' w' h1 h2 _ => h v' w' (by rw [dotsC_append, List.length_append]; exact h1) h2
    match j, hj with
    | 0, hj => rw [hadd, hc.1]; exact hj
    | 1, hj => rw [hc.2]; exact hj
/-- An array of n numbers, each told by a function of its place. -/
def nums (n : Nat) (f : Nat → Int) : Array Value := ((List.range n).map fun i => Value.int .i64 (f i)).toArray
theorem nums_size (n : Nat) (f : Nat → Int) : (nums n f).size = n := by simp [nums]
theorem nums_get (n : Nat) (f : Nat → Int) (i : Nat) (h : i < n) : (nums n f)[i]? = some (.int .i64 (f i)) := by simp [nums, h]
theorem nums_congr (n : Nat) (f g : Nat → Int) (h : ∀ i, i < n → f i = g i) : nums n f = nums n g := by
  unfold nums; congr 1
  apply List.map_congr_left
  intro i hi
  rw [h i (by simpa using hi)]
theorem nums_set (n : Nat) (f g : Nat → Int) (i : Nat) (x : Int) (h : ∀ j, j < n → (if j = i then x else f j) = g j) : (nums n f).setIfInBounds i (.int .i64 x) = nums n g := by
  rw [← nums_congr n _ _ h]
  apply Array.ext_getElem?
  intro j
  rw [Array.getElem?_setIfInBounds, nums_size]
  by_cases hj : j < n
  · rw [nums_get _ _ _ hj]
    by_cases h : i = j
    · subst h; rw [if_pos rfl, if_pos hj, nums_get _ _ _ hj, if_pos rfl]
    · rw [if_neg h, nums_get _ _ _ hj, if_neg (Ne.symm h)]
  · have e1 : (nums n f)[j]? = none := by rw [Array.getElem?_eq_none_iff, nums_size]; omega
    have e2 : (nums n fun j => if j = i then x else f j)[j]? = none := by rw [Array.getElem?_eq_none_iff, nums_size]; omega
    rw [e1, e2]
    split
    · rw [if_neg (by omega)]
    · rfl
theorem nums_one (n : Nat) (f : Nat → Int) : (nums n f).all (·.oneCell') = true := by simp [nums, Value.oneCell']
theorem nums_cell {w : World} {g n : Nat} {t : TypeId} {f : Nat → Int} (h : w.heap[g]? = some (.cells (nums n f) t (0, 0))) (i : Nat) (hi : i < n) : w.cell? ⟨g, i, none⟩ = some (.int .i64 (f i)) := by
  rw [cell_of_row _ _ i _ _ _ h, nums_get _ _ _ hi]
/-- Two arrays as opaque values, compared by ==. -/
def numsV (n : Nat) (f : Nat → Int) : Value := .agg (nums n f)
/-- An array by value read at a place. -/
theorem index_nums {P : Program} (w : World) {t e : TypeId} {n : Nat} (f : Nat → Int) (i : Nat) (hi : i < n) (ht : P.underlying t = some (.array n e)) (he : P.underlying e = some (.int .i64)) (hc : P.cellsOf e = 1) :
    (Instr.index t (.agg (nums n f)) (.int .i64 (i : Int))).run P w = .ok (.int .i64 (f i)) w := by
  obtain ⟨inf, hinf⟩ := info_of he
  have hg := nums_get n f i hi
  have hn : (0 ≤ (i : Int) ∧ (i : Int) < (n : Int)) := by omega
  simp [Instr.index, run_underlying ht, run_underlying he, run_sizeOf w hinf, asIntOf, hn, hc, hg, hi, isAgg, go_sem]
end Go.Proofs.YtppmbdpfledejaaGreatDoor
namespace Go.Proofs.YtppmbdpfledejaaGreatDoor
open Go.ChangeShapes Go.WideShapes Go.ChangeAt Go.RowKit
/-- The cell of a slice of dots that lies in memory. -/
theorem open_dots_cell {H : Type} {enc : TypeId × Value → H} {P : Program} {w : World} {base : Nat} {sp : Nat → Bool} {held : Bool} {t e : TypeId} {f0 f1 : Field} {v : Value} {d : DataW H} {p : List MemPlace} {fuel : Nat}
    (ht : P.underlying t = some (.slice e)) (he : P.underlying e = some (.struct #[f0, f1])) (ce : P.cellsOf e = 2) (o0 : f0.offset = 0) (o1 : f1.offset = 1) (c0 : P.cellsOf f0.type = 1) (c1 : P.cellsOf f1.type = 1)
    (h0 : P.underlying f0.type = some (.int .i64)) (h1 : P.underlying f1.type = some (.int .i64)) (hf : DataW.trod enc P w base sp held fuel t [v] = some (d, p)) : ∃ l : List D2, HasDots w v l ∧ (l = [] ∨ ∃ elems spare, d = .slice elems spare ∧ l.length ≤ elems.length + spare.length) := by
  rcases Go.Deep.open_slice_pairs ht he ce o0 o1 c0 c1 hf with ⟨hcs, -⟩ | ⟨a, len, cap, m, n, V0, V1, D0, D1, P0, P1, hcs, _, hl, hm, hmm, hx, hrow⟩
  · simp only [List.cons.injEq, and_true] at hcs
    subst hcs
    exact ⟨[], dots_nil w, .inl rfl⟩
  · simp only [List.cons.injEq, and_true] at hcs
    subst hcs
    have hlm : len ≤ m := by rw [hmm]; split <;> omega
    have each : ∀ i, i < len → ∃ y : D2, w.cell? (a.add (i * 2)) = some (.int .i64 y.1) ∧ w.cell? (a.add (i * 2 + 1)) = some (.int .i64 y.2) := fun i hi => by
      obtain ⟨g1, g2, g3, g4⟩ := hrow i (by omega)
      obtain ⟨x, e1, -, -⟩ := DataW.trod_int h0 g3
      obtain ⟨z, e2, -, -⟩ := DataW.trod_int h1 g4
      simp only [List.cons.injEq, and_true] at e1 e2
      exact ⟨(x, z), by rw [g1, e1], by rw [g2, e2]⟩
    obtain ⟨y, hy⟩ := Go.Deep.choose_lt each
    have hus : ∀ i x, ((List.range len).map y)[i]? = some x → i < len ∧ x = y i := fun i x hx => by
      have hi : i < len := by
        have := (List.getElem?_eq_some_iff.1 hx).1
        simpa using this
      refine ⟨hi, ?_⟩
      rw [List.getElem?_map, List.getElem?_range hi] at hx
      exact (Option.some.inj hx).symm
    have hulen : ((List.range len).map y).length = len := by simp
    refine ⟨(List.range len).map y, ⟨some a, cap, by rw [hulen], (fun h => by cases h), fun ad had => ⟨by rw [hulen]; exact hl, fun j u hu => ?_⟩⟩, .inr ⟨_, _, (congrArg Prod.fst hx : _), by rw [hulen]; simp⟩⟩
    cases had
    obtain ⟨i, x, hx, hor⟩ := dotsC_inv _ j u hu
    obtain ⟨hi, rfl⟩ := hus i x hx
    rcases hor with ⟨rfl, rfl⟩ | ⟨rfl, rfl⟩
    · exact (hy i hi).1
    · exact (hy i hi).2
end Go.Proofs.YtppmbdpfledejaaGreatDoor
namespace Go.Proofs.YtppmbdpfledejaaGreatDoor
/-- Whether a dot may stand next behind others. -/
def fol (l : List D2) (d : D2) : Bool := mayT d && (l.isEmpty || decide ((l.getLastD (0, 0)).1 < d.1))
/-- Dots that may be, of rising replicas. -/
def Rising (l : List D2) : Prop := l.Pairwise (fun a b => a.1 < b.1) ∧ ∀ d ∈ l, mayT d = true
theorem rising_nil : Rising [] := ⟨List.Pairwise.nil, fun _ h => by cases h⟩
theorem rising_snoc (l : List D2) (d : D2) : Rising (l ++ [d]) ↔ Rising l ∧ fol l d = true := by
  unfold Rising fol
  rw [List.pairwise_append, Bool.and_eq_true, Bool.or_eq_true, decide_eq_true_eq]
  constructor
  · rintro ⟨⟨h1, -, h2⟩, h3⟩
    refine ⟨⟨h1, fun x hx => h3 x (List.mem_append.2 (.inl hx))⟩, h3 d (by simp), ?_⟩
    by_cases h : l = []
    · left; rw [h]; rfl
    · right
      obtain ⟨a, b, rfl⟩ := list_snoc l h
      rw [List.getLastD_concat]; exact h2 b (by simp) d (by simp)
  · rintro ⟨⟨h1, h2⟩, h3, h4⟩
    refine ⟨⟨h1, List.pairwise_singleton _ _, fun x hx y hy => ?_⟩, fun x hx => ?_⟩
    · rw [List.mem_singleton.1 hy]
      rcases h4 with h4 | h4
      · rw [List.isEmpty_iff.1 h4] at hx; cases hx
      · obtain ⟨a, b, rfl⟩ := list_snoc l (fun e => by rw [e] at hx; cases hx)
        rw [List.getLastD_concat] at h4
        rcases List.mem_append.1 hx with hx | hx
        · have := (List.pairwise_append.1 h1).2.2 x hx b (by simp); omega
        · rw [List.mem_singleton.1 hx]; exact h4
    · rcases List.mem_append.1 hx with hx | hx
      · exact h2 x hx
      · rw [List.mem_singleton.1 hx]; exact h3
theorem allV_none {l : List D2} {i : Nat} (h : ∀ d ∈ l, d.1 ≠ (i : Int)) : allV l i = 0 := by
  revert h
  refine snoc_ind (P := fun l => (∀ d ∈ l, d.1 ≠ (i : Int)) → allV l i = 0) (fun _ => rfl) ?_ l
  intro l a ih h
  rw [allV_snoc, ih (fun d hd => h d (List.mem_append.2 (.inl hd))), seen, if_neg (fun hh => h a (by simp) hh.2.1)]
theorem ofN_stay {n : Nat → Int} {k : Nat} : ∀ m, k ≤ m → (∀ i, k ≤ i → i < m → n i = 0) → ofN n m = ofN n k := by
  intro m
  induction m with
  | zero => intro h _; rw [show k = 0 by omega]
  | succ m ih =>
    intro h h0
    by_cases e : k = m + 1
    · rw [e]
    · rw [ofN, ih (by omega) (fun i h1 h2 => h0 i h1 (by omega)), h0 m (by omega) (by omega), if_neg (by omega), List.append_nil]
theorem rising_of {l : List D2} (h : Rising l) : ∀ N : Nat, (∀ d ∈ l, d.1 < (N : Int)) → ofN (allV l) N = l := by
  revert h
  refine snoc_ind (P := fun l => Rising l → ∀ N : Nat, (∀ d ∈ l, d.1 < (N : Int)) → ofN (allV l) N = l) ?_ ?_ l
  · intro _ N _
    exact ofN_stay (n := allV []) (k := 0) N (Nat.zero_le _) (fun i _ _ => rfl)
  · intro l d ih h N hN
    have hh := (rising_snoc l d).1 h
    have hm := mayT_bd (h.2 d (by simp))
    have hlt : ∀ x ∈ l, x.1 < d.1 := fun x hx => (List.pairwise_append.1 h.1).2.2 x hx d (by simp)
    obtain ⟨k, hk⟩ : ∃ k : Nat, d.1 = (k : Int) := ⟨d.1.toNat, by omega⟩
    have hkN : k < N := by have := hN d (by simp); omega
    have h0 : allV l k = 0 := allV_none fun x hx => by have := hlt x hx; omega
    have hbig : ∀ i, k + 1 ≤ i → i < N → allV (l ++ [d]) i = 0 := fun i h1 _ => allV_none fun x hx => by
      rcases List.mem_append.1 hx with hx | hx
      · have := hlt x hx; omega
      · rw [List.mem_singleton.1 hx]; omega
    have hd : allV (l ++ [d]) k = d.2 := by
      rw [allV_snoc, h0, seen, if_pos ⟨h.2 d (by simp), hk, by omega⟩]
    rw [ofN_stay (k := k + 1) N (by omega) hbig, ofN, hd, if_pos (by omega)]
    rw [ofN_congr (m := allV l) (fun i hi => by rw [allV_snoc, seen, if_neg (fun hh => by have := hh.2.1; omega)]), ih hh.1 k (fun x hx => by have := hlt x hx; omega), ← hk]
theorem ofN_rising {n : Nat → Int} (h : Cnt n) : ∀ k, k ≤ 32 → Rising (ofN n k) := by
  intro k
  induction k with
  | zero => intro _; exact rising_nil
  | succ k ih =>
    intro hk
    rw [ofN]
    by_cases hp : 0 < n k
    · rw [if_pos hp, rising_snoc]
      refine ⟨ih (by omega), ?_⟩
      have hc := h k (by omega)
      have hm : mayT ((k : Int), n k) = true := decide_eq_true (by simp only; omega)
      rw [fol, hm, Bool.true_and, Bool.or_eq_true, decide_eq_true_eq]
      by_cases e : ofN n k = []
      · left; rw [e]; rfl
      · right
        obtain ⟨a, b, hab⟩ := list_snoc _ e
        rw [hab, List.getLastD_concat]
        obtain ⟨i, h1, h2, -⟩ := ofN_mem (n := n) (k := k) (d := b) (by rw [hab]; simp)
        rw [h2]; simp only; omega
    · rw [if_neg hp, List.append_nil]; exact ih (by omega)
theorem mayV_rising (l : List D2) : mayV l = true ↔ Rising l := by
  rw [mayV, beq_iff_eq]
  constructor
  · intro h; rw [h]; exact ofN_rising (allV_cnt l) 32 (Nat.le_refl _)
  · intro h; exact (rising_of h 32 (fun d hd => by have := mayT_bd (h.2 d hd); omega)).symm
theorem mayV_nil : mayV [] = true := (mayV_rising []).2 rising_nil
theorem rising_length {l : List D2} (h : mayV l = true) : l.length ≤ 32 := by
  rw [mayV, beq_iff_eq] at h
  rw [h]; exact ofN_length _ 32
end Go.Proofs.YtppmbdpfledejaaGreatDoor
namespace Go.Proofs.YtppmbdpfledejaaGreatDoor
open Go.RowKit
/-- The table of the powers of ten, as strconv lays it. -/
def PowTab (w : World) : Prop := Lib.TabIs Tryz.prog w "internal/strconv.uint64pow10" .u64 Lib.pow10Tab
theorem gPow : Tryz.prog.globalNamed "internal/strconv.uint64pow10" = some 1 := by kernel_rfl
theorem powTab_below {w w' : World} (h : PowTab w) (hb : Below w.heap.size w w') : PowTab w' := by
  unfold PowTab Lib.TabIs World.var? at h ⊢
  rw [gPow] at h ⊢
  simp only [Option.bind_some] at h ⊢
  have hlt : 1 < w.heap.size := by
    rcases Nat.lt_or_ge 1 w.heap.size with h' | h'
    · exact h'
    · rw [Array.getElem?_eq_none h'] at h; cases h
  rw [hb.block _ hlt]
  exact h
end Go.Proofs.YtppmbdpfledejaaGreatDoor
namespace Go.Proofs.YtppmbdpfledejaaGreatDoor
open Go.RowKit
/-- An event: its dot, what was known, its kind, its path, the digest, the size. -/
structure Ev where
  r : Int
  q : Int
  deps : List D2
  kind : Int
  path : List UInt8
  sum : Nat → BitVec 32
  size : Int
def zeroF : Nat → BitVec 32 := fun _ => 0#32
theorem zeroF_byt (i : Nat) : u32 (zeroF i) < 256 := by unfold zeroF; decide
def noEv : Ev := ⟨0, 0, [], 0, [], zeroF, 0⟩
def mayH (e : Ev) : Bool := if e.kind = 1 then decide (0 ≤ e.size) && decide (e.size ≤ 65536) else if e.kind = 2 then decide (e.size = 0) && sameRow 32 e.sum zeroF else false
def knownE (e : Ev) : Bool := mayV e.deps && decide (getV e.deps e.r = e.q - 1)
def mayE (e : Ev) : Bool := mayD e.r e.q && (knownE e && (ownP e.path && mayH e))
/-- The k-th word of a text, by its blanks. -/
def wd (s : List UInt8) (k : Nat) : List UInt8 := (piecesB 32 s).getD k []
/-- The words of a text, five times cut at most. -/
def spl6 (s : List UInt8) : List (List UInt8) := Lib.splitN s [32] 6
def sd (s : List UInt8) (k : Nat) : List UInt8 := (spl6 s).getD k []
end Go.Proofs.YtppmbdpfledejaaGreatDoor
namespace Go.Proofs.YtppmbdpfledejaaGreatDoor
open Go.RowKit
theorem wrap_small6 (p : Nat) (h : p < 9223372036854775808) : IntKind.i64.wrap (p : Int) = (p : Int) := by rw [IntKind.wrap_i64]; omega
end Go.Proofs.YtppmbdpfledejaaGreatDoor
namespace Go.Proofs.YtppmbdpfledejaaGreatDoor
open Go.RowKit
set_option maxRecDepth 100000 in
set_option maxHeartbeats 4000000 in
theorem refUnder_any (s d : List UInt8) (hd : d.length < 1152921504606846976) (w : World) : Calls Tryz.prog 55 #[.string (str s), .string (str d)] w fun e w' => e = .returned (.bool (underP s d)) ∧ w = w' := by
  obtain ⟨n, hn⟩ : ∃ n, n = s.length := ⟨_, rfl⟩
  obtain ⟨m, hm⟩ : ∃ m, m = d.length := ⟨_, rfl⟩
  have hsz : (str s).size = n := by rw [str_size, hn]
  have hdz : (str d).size = m := by rw [str_size, hm]
  have hU := Lib.hid (show underP s d = (decide (m + 1 < n) && (s.take m == d && s.getD m 0 == 47)) by rw [underP, ← hn, ← hm])
  obtain ⟨m1, hm1⟩ : ∃ m1, m1 = m + 1 := ⟨_, rfl⟩
  have e1 : (m : Int) + 1 = (m1 : Int) := by omega
  have e2 := wrap_small6 m1 (by omega)
  have hld : (str d).toList = d := str_toList d
  by_cases hlt : m1 < n
  · have t1 : decide ((m1 : Int) < (n : Int)) = true := decide_eq_true (by omega)
    have hlt2 : (str (s.take m)).toList = s.take m := str_toList _
    obtain ⟨c, hc⟩ : ∃ c, s[m]? = some c := ⟨s[m]'(by omega), List.getElem?_eq_getElem _⟩
    obtain ⟨x, hx⟩ : ∃ x, c.toNat = x := ⟨_, rfl⟩
    have i1 : ∀ h : m < (str s).size, ((str s)[m]'h).toNat = x := fun h => by
      obtain ⟨h', e⟩ := List.getElem?_eq_some_iff.1 hc
      rw [← hx, ← e]; simp [str, ByteArray.getElem_eq_getElem_data]
    have s1 : (str s).extract 0 m = str (s.take m) := by unfold str; rw [ByteArray.extract_mk]; simp
    have q0 : (m1 : Int) < (n : Int) := by omega
    have h47 : (s.getD m 0 == 47) = ((x : Int) == 47) := by
      rw [List.getD_eq_getElem?_getD, hc, Option.getD_some, Bool.eq_iff_iff, beq_iff_eq, beq_iff_eq]
      constructor
      · intro h; subst h; rw [← hx]; rfl
      · intro h; exact UInt8.toNat_inj.1 (by rw [hx, show (47 : UInt8).toNat = 47 from rfl]; omega)
    have q1 : (m : Int) < (n : Int) := by omega
    have HR := Lib.hid (show underP s d = (s.take m == d && ((x : Int) == 47)) by rw [hU.out, decide_eq_true (show m + 1 < n by omega), Bool.true_and, h47])
    have q2 : ¬ (n : Int) < (m : Int) := by omega
    clear hn hm hm1 hlt hd hc hx h47
    cases ht : (s.take m == d) with
    | true =>
      rw [ht] at HR
      go_enter Tryz.func55, Tryz.ntmps55
      go_wp2
      go_ret
      exact ⟨by rw [HR.out]; rfl, rfl⟩
    | false =>
      rw [ht] at HR
      go_enter Tryz.func55, Tryz.ntmps55
      go_wp2
      go_ret
      exact ⟨by rw [HR.out]; rfl, rfl⟩
  · have t1 : decide ((m1 : Int) < (n : Int)) = false := decide_eq_false (by omega)
    have q0 : ¬ (m1 : Int) < (n : Int) := by omega
    have HR := Lib.hid (show underP s d = false by rw [hU.out, decide_eq_false (show ¬ m + 1 < n by omega)]; rfl)
    clear hn hm hm1 hlt hd
    go_enter Tryz.func55, Tryz.ntmps55
    go_wp2
    go_ret
    exact ⟨by rw [HR.out]; rfl, rfl⟩
end Go.Proofs.YtppmbdpfledejaaGreatDoor
namespace Go.Proofs.YtppmbdpfledejaaGreatDoor
open Go.RowKit
/-- Two texts one behind the other, as an operation, the whole under a name. -/
theorem add_as {P : Program} {o : Oper} {a : Act} {t rt : TypeId} {x y : Operand} {l m r : List UInt8} (ho : o.op = .binOp .add t x y rt) (hx : a.eval x = .string (str l)) (hy : a.eval y = .string (str m)) (hn : l.length + m.length ≤ 4611686018427387904) (hr : l ++ m = r) :
    ∀ w, (execOp a.eval o).run P w = .ok (.value (.string (str r))) w := by subst hr; exact add_op ho hx hy hn
set_option maxRecDepth 100000 in
set_option maxHeartbeats 4000000 in
theorem refCopy_any (s : List UInt8) (r q : Int) (hs : s.length < 1152921504606846976) (hr : -9223372036854775808 ≤ r ∧ r < 9223372036854775808) (hq : -9223372036854775808 ≤ q ∧ q < 9223372036854775808) (w : World) :
    Calls Tryz.prog 45 #[.string (str s), .agg #[.int .i64 r, .int .i64 q]] w fun e w' => e = .returned (.string (str (copyL s r q))) ∧ Below w.heap.size w w' := by
  have N1 := Lib.hid (refNumber_any r hr.1 hr.2)
  have N2 := Lib.hid (refNumber_any q hq.1 hq.2)
  have HL := Lib.hid (And.intro hs (And.intro (numL_length r hr.1 hr.2) (numL_length q hq.1 hq.2)))
  obtain ⟨R, hR⟩ : ∃ R, numL r = R := ⟨_, rfl⟩
  obtain ⟨Q, hQ⟩ : ∃ Q, numL q = Q := ⟨_, rfl⟩
  obtain ⟨A1, hA1⟩ : ∃ A1, s ++ [126] = A1 := ⟨_, rfl⟩
  obtain ⟨A2, hA2⟩ : ∃ A2, A1 ++ R = A2 := ⟨_, rfl⟩
  obtain ⟨A3, hA3⟩ : ∃ A3, A2 ++ [45] = A3 := ⟨_, rfl⟩
  obtain ⟨A4, hA4⟩ : ∃ A4, A3 ++ Q = A4 := ⟨_, rfl⟩
  have HE := Lib.hid (show A4 = copyL s r q by rw [← hA4, ← hA3, ← hA2, ← hA1, ← hR, ← hQ]; simp [copyL])
  have hA := Lib.hid (And.intro hA1 (And.intro hA2 (And.intro hA3 hA4)))
  rw [hR] at N1 HL
  rw [hQ] at N2 HL
  have c0 : (w.alloc (.cells #[.int .i64 r, .int .i64 q] 29 (0, 0))).cell? ⟨w.heap.size, 0, none⟩ = some (.int .i64 r) := by rw [cell_of_row _ _ 0 _ _ _ (heap_last w _)]; rfl
  have c1 : (w.alloc (.cells #[.int .i64 r, .int .i64 q] 29 (0, 0))).cell? ⟨w.heap.size, 1, none⟩ = some (.int .i64 q) := by rw [cell_of_row _ _ 1 _ _ _ (heap_last w _)]; rfl
  have B0 := Lib.hid ((Below.refl w.heap.size w).alloc (Nat.le_refl _) (.cells #[.int .i64 r, .int .i64 q] 29 (0, 0)))
  clear hs hr hq hR hQ hA1 hA2 hA3 hA4
  go_enter Tryz.func45, Tryz.ntmps45
  go_wp2
  refine wp_region_held_drew (S := fun w' => Below (w.alloc (.cells #[.int .i64 r, .int .i64 q] 29 (0, 0))).heap.size (w.alloc (.cells #[.int .i64 r, .int .i64 q] 29 (0, 0))) w') (by kernel_rfl) (below_draws (Below.refl _ _) 1) (fun hHeld => ?_)
  generalize (w.alloc (.cells #[.int .i64 r, .int .i64 q] 29 (0, 0))).drew = wd at hHeld ⊢
  refine take_at (i := 0) 5 rfl rfl (by kernel_rfl) (by kernel_rfl) (by kernel_rfl) (fun _ _ _ h => h) (sure_yes (by rfl) (fun w => by go_simp; try with_reducible rfl)) hHeld ?_
  simp only [List.setIfInBounds_toArray, List.set_cons_zero, List.set_cons_succ]
  refine take_at (i := 1) 6 rfl rfl (by kernel_rfl) (by kernel_rfl) (by kernel_rfl) (fun _ _ _ h => h) (sure_yes (by rfl) (add_as (l := s) (m := [126]) rfl rfl rfl (by have h1 := HL.out.1; have h2 := HL.out.2.1; have h3 := HL.out.2.2; have e1 := congrArg List.length hA.out.1; have e2 := congrArg List.length hA.out.2.1; have e3 := congrArg List.length hA.out.2.2.1; simp at e1 e2 e3 ⊢; omega) hA.out.1)) hHeld ?_
  simp only [List.setIfInBounds_toArray, List.set_cons_zero, List.set_cons_succ]
  refine take_at (i := 2) 7 rfl rfl (by kernel_rfl) (by kernel_rfl) (by kernel_rfl) (fun _ _ _ h => h) (sure_yes (by rfl) (fun w => by go_simp; try with_reducible rfl)) hHeld ?_
  simp only [List.setIfInBounds_toArray, List.set_cons_zero, List.set_cons_succ]
  refine take_at (i := 7) 12 rfl rfl (by kernel_rfl) (by kernel_rfl) (by kernel_rfl) (fun _ _ _ h => h) (sure_yes (by rfl) (fun w => by go_simp; try with_reducible rfl)) hHeld ?_
  simp only [List.setIfInBounds_toArray, List.set_cons_zero, List.set_cons_succ]
  refine take_at (i := 3) 8 rfl rfl (by kernel_rfl) (by kernel_rfl) (by kernel_rfl) (fun _ _ _ h => h) (cell_yields (by rfl) 3 (.tmp 7) rfl w.heap.size 0 rfl .i64 r Tryz.underlying3 (fun w' h => (cell_same (h.block w.heap.size (by simp)) 0).trans c0)) hHeld ?_
  simp only [List.setIfInBounds_toArray, List.set_cons_zero, List.set_cons_succ]
  refine take_at (i := 8) 13 rfl rfl (by kernel_rfl) (by kernel_rfl) (by kernel_rfl) (fun _ _ _ h => h) (cell_yields (by rfl) 2 (.tmp 12) rfl w.heap.size 1 rfl .i64 q Tryz.underlying2 (fun w' h => (cell_same (h.block w.heap.size (by simp)) 1).trans c1)) hHeld ?_
  simp only [List.setIfInBounds_toArray, List.set_cons_zero, List.set_cons_succ]
  refine wpAnyH_ready (rs := [4]) (by kernel_rfl) (by simp) ?_
  refine AllReadyH.cons rfl (fun K hK => ?_) AllReadyH.nil
  go_simp
  go_at_call 75
  refine (N1.out _).mono ?_
  rintro e w2 ⟨rfl, hb⟩
  dsimp only
  refine hK.out _ _ (below_next hHeld hb) (fun hHeld => ?_)
  clear hK K hb
  refine take_at (i := 5) 10 rfl rfl (by kernel_rfl) (by kernel_rfl) (by kernel_rfl) (fun _ _ _ h => h) (sure_yes (by rfl) (add_as (l := A1) (m := R) rfl rfl rfl (by have h1 := HL.out.1; have h2 := HL.out.2.1; have h3 := HL.out.2.2; have e1 := congrArg List.length hA.out.1; have e2 := congrArg List.length hA.out.2.1; have e3 := congrArg List.length hA.out.2.2.1; simp at e1 e2 e3 ⊢; omega) hA.out.2.1)) hHeld ?_
  simp only [List.setIfInBounds_toArray, List.set_cons_zero, List.set_cons_succ]
  refine take_at (i := 6) 11 rfl rfl (by kernel_rfl) (by kernel_rfl) (by kernel_rfl) (fun _ _ _ h => h) (sure_yes (by rfl) (add_as (l := A2) (m := [45]) rfl rfl rfl (by have h1 := HL.out.1; have h2 := HL.out.2.1; have h3 := HL.out.2.2; have e1 := congrArg List.length hA.out.1; have e2 := congrArg List.length hA.out.2.1; have e3 := congrArg List.length hA.out.2.2.1; simp at e1 e2 e3 ⊢; omega) hA.out.2.2.1)) hHeld ?_
  simp only [List.setIfInBounds_toArray, List.set_cons_zero, List.set_cons_succ]
  refine wpAnyH_ready (rs := [9]) (by kernel_rfl) (by simp) ?_
  refine AllReadyH.cons rfl (fun K hK => ?_) AllReadyH.nil
  go_simp
  go_at_call 75
  refine (N2.out _).mono ?_
  rintro e w2 ⟨rfl, hb⟩
  dsimp only
  refine hK.out _ _ (below_next hHeld hb) (fun hHeld => ?_)
  clear hK K hb
  refine take_at (i := 10) 15 rfl rfl (by kernel_rfl) (by kernel_rfl) (by kernel_rfl) (fun _ _ _ h => h) (sure_yes (by rfl) (add_as (l := A3) (m := Q) rfl rfl rfl (by have h1 := HL.out.1; have h2 := HL.out.2.1; have h3 := HL.out.2.2; have e1 := congrArg List.length hA.out.1; have e2 := congrArg List.length hA.out.2.1; have e3 := congrArg List.length hA.out.2.2.1; simp at e1 e2 e3 ⊢; omega) hA.out.2.2.2)) hHeld ?_
  simp only [List.setIfInBounds_toArray, List.set_cons_zero, List.set_cons_succ]
  refine take_at (i := 11) 4 rfl rfl (by kernel_rfl) (by kernel_rfl) (by kernel_rfl) (fun _ _ _ h => h) (sure_yes (by rfl) (fun w => by go_simp; try with_reducible rfl)) hHeld ?_
  simp only [List.setIfInBounds_toArray, List.set_cons_zero, List.set_cons_succ]
  refine wpAnyH_done (by kernel_rfl) ?_ _
  go_wp2
  go_ret
  exact ⟨by rw [← HE.out]; rfl, below_next B0.out hHeld⟩
end Go.Proofs.YtppmbdpfledejaaGreatDoor
namespace Go.Proofs.YtppmbdpfledejaaGreatDoor
open Go.RowKit
/-- A dot's cells, just boxed. -/
def dotO (r q : Int) : Obj := .cells #[.int .i64 r, .int .i64 q] 29 (0, 0)
theorem dot_cells {w : World} {g : Nat} {r q : Int} (h : w.heap[g]? = some (dotO r q)) : w.cell? ⟨g, 0, none⟩ = some (.int .i64 r) ∧ w.cell? ⟨g, 1, none⟩ = some (.int .i64 q) :=
  ⟨by rw [cell_of_row _ _ 0 _ _ _ h]; rfl, by rw [cell_of_row _ _ 1 _ _ _ h]; rfl⟩
theorem two_boxes (w : World) (r q r' q' : Int) : ((w.alloc (dotO r q)).alloc (dotO r' q')).heap[w.heap.size]? = some (dotO r q) ∧ ((w.alloc (dotO r q)).alloc (dotO r' q')).heap[w.heap.size + 1]? = some (dotO r' q') := by
  constructor
  · rw [heap_at_alloc, if_neg (by simp)]; exact heap_last _ _
  · have := heap_last (w.alloc (dotO r q)) (dotO r' q'); rwa [World.size_alloc] at this
set_option maxRecDepth 100000 in
set_option maxHeartbeats 4000000 in
theorem refCompare_any (r q r' q' : Int) (w : World) : Calls Tryz.prog 62 #[.agg #[.int .i64 r, .int .i64 q], .agg #[.int .i64 r', .int .i64 q']] w fun e w' => e = .returned (.int .i64 (cmpD r q r' q')) ∧ Below w.heap.size w w' := by
  obtain ⟨h1, h2⟩ := two_boxes w r q r' q'
  obtain ⟨c1, c2⟩ := dot_cells h1
  obtain ⟨d1, d2⟩ := dot_cells h2
  have H1 := Lib.hid h1
  have H2 := Lib.hid h2
  have B0 := Lib.hid (((Below.refl w.heap.size w).alloc (Nat.le_refl _) (dotO r q)).alloc (by simp) (dotO r' q'))
  have HC := Lib.hid (cmp_cases r q r' q')
  clear h1 h2
  unfold dotO at *
  go_enter Tryz.func62, Tryz.ntmps62
  go_upto_region 1 with fail
  generalize (w.alloc (.cells #[.int .i64 r, .int .i64 q] 29 (0, 0))).alloc (.cells #[.int .i64 r', .int .i64 q'] 29 (0, 0)) = W0 at *
  clear HC
  go_wp2_with (first
    | (refine load_row_on (by rfl) 29 (.tmp 2) rfl w.heap.size rfl 29 _ (0, 0) _ H1.out Tryz.underlying29 rfl (by kernel_rfl) ?_)
    | (refine load_row_on (by rfl) 29 (.tmp 3) rfl (w.heap.size + 1) rfl 29 _ (0, 0) _ H2.out Tryz.underlying29 rfl (by kernel_rfl) ?_))
  all_goals
    go_ret
    refine ⟨congrArg Ending.returned (show Value.int .i64 _ = Value.int .i64 _ from congrArg _ ?_), B0.out⟩
    unfold cmpD
    split <;> (try split) <;> (try omega)
  all_goals trace_state
/-- A dot's own box. -/
theorem one_box (w : World) (r q : Int) : (w.alloc (dotO r q)).heap[w.heap.size]? = some (dotO r q) := heap_last _ _
set_option maxRecDepth 100000 in
set_option maxHeartbeats 4000000 in
theorem refMay_any9 (r q : Int) (w : World) : Calls Tryz.prog 89 #[.agg #[.int .i64 r, .int .i64 q]] w fun e w' => e = .returned (.bool (mayD r q)) ∧ Below w.heap.size w w' := by
  have h1 := one_box w r q
  obtain ⟨c1, c2⟩ := dot_cells h1
  have B0 := Lib.hid ((Below.refl w.heap.size w).alloc (Nat.le_refl _) (dotO r q))
  clear h1
  unfold dotO at *
  go_enter Tryz.func89, Tryz.ntmps89
  go_wp2
  all_goals
    go_ret
    refine ⟨congrArg Ending.returned (show Value.bool _ = Value.bool _ from congrArg Value.bool ?_), B0.out⟩
    unfold mayD
    rw [Bool.eq_iff_iff]
    simp
    try omega
end Go.Proofs.YtppmbdpfledejaaGreatDoor
namespace Go.Proofs.YtppmbdpfledejaaGreatDoor
open Go.RowKit
theorem row_kept {g : Nat} {A B : World} {o : Obj} (h : A.heap[g]? = some o) (hb : Below A.heap.size A B) : B.heap[g]? = some o := (hb.block g (Array.getElem?_eq_some_iff.1 h).1).trans h
end Go.Proofs.YtppmbdpfledejaaGreatDoor
namespace Go.Proofs.YtppmbdpfledejaaGreatDoor
open Go.RowKit
theorem solo_below {g B : Nat} {w0 w w' : World} (hb : Below B w0 w) (h : Solo g w w') (hg : B ≤ g) : Below B w0 w' :=
  hb.trans ⟨h.os, h.tape, h.output, Nat.le_of_eq h.size.symm, fun j hj => h.block j (by omega)⟩
end Go.Proofs.YtppmbdpfledejaaGreatDoor
namespace Go.Proofs.YtppmbdpfledejaaGreatDoor
open Go.RowKit
/-- A number loaded from an address that is known in every world at hand. -/
theorem addr_yields {P : Program} {ops : Array Oper} {S : World → Prop} {o : Oper} {a : Act} (hw : Region.wanted o (yielded ops a.tmps) = true) (ty : TypeId) (x : Operand) (ho : o.op = .load ty x)
    (A : Addr) (hx : a.eval x = .pointer (some A)) (k : IntKind) (z : Int) (hu : P.underlying ty = some (.int k)) (hS : ∀ w, S w → w.cell? A = some (.int k z)) : YieldsIf P ops S o (.int k z) a :=
  .inl ⟨hw, fun w h => by
    have hc := hS w h
    unfold execOp
    simp [ho, hx, Instr.loadAt, Instr.sureAddr, loadVar, isAgg, run_underlying hu, hc]⟩
/-- A dot loaded from an address whose two cells are known in every world at hand. -/
theorem dot_yields {P : Program} {ops : Array Oper} {S : World → Prop} {o : Oper} {a : Act} (hw : Region.wanted o (yielded ops a.tmps) = true) (ty : TypeId) (x : Operand) (ho : o.op = .load ty x)
    (A : Addr) (hx : a.eval x = .pointer (some A)) (r q : Int) {fs : Array Field} (hu : P.underlying ty = some (.struct fs)) (hi : (P.info? ty).map (·.size) = some 2) (hS : ∀ w, S w → w.cell? A = some (.int .i64 r) ∧ w.cell? ⟨A.block, A.off + 1, none⟩ = some (.int .i64 q)) : YieldsIf P ops S o (.agg #[.int .i64 r, .int .i64 q]) a :=
  .inl ⟨hw, fun w h => by
    obtain ⟨h1, h2⟩ := hS w h
    have h3 : w.cell? (A.add 1) = some (.int .i64 q) := by rw [addr_next2 A 0]; simpa [Addr.add] using h2
    have h0 : A.add 0 = A := by unfold Addr.add; split <;> simp_all
    have hl : (loadCells A [Value.int .i64 r, Value.int .i64 q].length).run P w = .ok [Value.int .i64 r, Value.int .i64 q].toArray w :=
      run_loadCells_list (P := P) w A [Value.int .i64 r, Value.int .i64 q] (fun j v hv => by
        match j, hv with
        | 0, hv => rw [h0, h1]; exact hv
        | 1, hv => rw [h3]; exact hv)
    cases hq : P.info? ty with
    | none => simp [hq] at hi
    | some i =>
      have hs : i.size = 2 := by simpa [hq] using hi
      have hl2 : (loadCells A 2).run P w = .ok #[Value.int .i64 r, Value.int .i64 q] w := hl
      unfold execOp
      simp [ho, hx, Instr.loadAt, Instr.sureAddr, loadVar, isAgg, run_underlying hu, sizeOf, typeInfo, hq, hs, hl2]⟩

theorem zero32 : (Tryz.prog.info? 142).map (fun i => i.zero) = some (some (.agg (nums 32 fun _ => 0))) := by kernel_rfl
theorem allV_at {l : List D2} {k : Nat} {d : D2} (hd : l[k]? = some d) (i : Nat) : allV (l.take (k + 1)) i = seen i (allV (l.take k) i) d := by
  obtain ⟨h, rfl⟩ := List.getElem?_eq_some_iff.1 hd
  exact allV_take h i
theorem drawS {W w : World} (h : Below W.heap.size W w) : Below W.heap.size W w.drew := ⟨h.os, h.tape, h.output, h.size, h.block⟩
set_option maxRecDepth 100000 in
set_option maxHeartbeats 16000000 in
theorem refAll_any (l : List D2) (hl : l.length < 2000000) (v : Value) (w : World) (hv : HasDots w v l) : Calls Tryz.prog 87 #[v] w fun e w' => e = .returned (.agg (nums 32 (allV l))) ∧ Below w.heap.size w w' := by
  have HV := Lib.hid hv
  obtain ⟨n, hn⟩ : ∃ n, n = l.length := ⟨_, rfl⟩
  obtain ⟨ao, cap, rfl⟩ := dots_shape hv n hn
  have HN := Lib.hid hn
  have hn4 : n < 2000000 := by omega
  have Z0 := heap_last w (.cells (nums 32 fun _ => 0) 142 (0, 0))
  have Z1 := heap_last (w.alloc (.cells (nums 32 fun _ => 0) 142 (0, 0))) (.cells (nums 32 fun _ => 0) 142 (0, 0))
  have HZ := Lib.hid (And.intro (show ((w.alloc (.cells (nums 32 fun _ => 0) 142 (0, 0))).alloc (.cells (nums 32 fun _ => 0) 142 (0, 0))).heap[w.heap.size]? = some (.cells (nums 32 fun _ => 0) 142 (0, 0)) by rw [heap_at_alloc, if_neg (by simp)]; exact Z0) (by rwa [World.size_alloc] at Z1))
  have HB := Lib.hid (((Below.refl w.heap.size w).alloc (Nat.le_refl _) (.cells (nums 32 fun _ => 0) 142 (0, 0))).alloc (by simp) (.cells (nums 32 fun _ => 0) 142 (0, 0)))
  clear hn hv hl Z0 Z1
  go_enter Tryz.func87, Tryz.ntmps87
  go_wp2_with (first | (refine alloc_as rfl 142 rfl _ zero32 ?_))
  go_loopw [4] (fun c wr => ∃ k : Nat, k ≤ n ∧ c = .int .i64 (k : Int) ∧ wr.heap[w.heap.size]? = some (.cells (nums 32 fun _ => 0) 142 (0, 0)) ∧ wr.heap[w.heap.size + 1]? = some (.cells (nums 32 (allV (l.take k))) 142 (0, 0)) ∧ Below w.heap.size w wr) (fun c _ => n - (intOf c).toNat)
  case atStart => exact ⟨0, Nat.zero_le _, rfl, HZ.out.1, HZ.out.2, HB.out⟩
  case round =>
    clear HZ HB
    obtain ⟨k, hk, rfl, hz, ho, hb⟩ := hrel
    by_cases hlt : k < n
    · have q0 : (k : Int) < (n : Int) := by omega
      have hkl : k < l.length := by rw [← HN.out]; exact hlt
      obtain ⟨d, hd⟩ : ∃ d, l[k]? = some d := ⟨_, List.getElem?_eq_getElem hkl⟩
      have HA := Lib.hid (allV_at hd)
      obtain ⟨r, q⟩ := d
      obtain ⟨ad, cap', e, c0, c1⟩ := dots_at (dots_below HV.out hb) n k HN.out.symm _ hd
      cases e
      have C0 := Lib.hid c0
      have C1 := Lib.hid c1
      have HZ := Lib.hid hz
      have HO := Lib.hid ho
      have HB := Lib.hid hb
      have MY := Lib.hid (fun w => refMay_any9 r q w)
      have KK := Lib.hid (show k + 1 ≤ n ∧ n - (k + 1) < n - k by omega)
      clear c0 c1 hz ho hb hd hkl
      cases hm : mayD r q with
      | false =>
        rw [hm] at MY
        have HS := Lib.hid (show nums 32 (allV (l.take (k + 1))) = nums 32 (allV (l.take k)) from nums_congr _ _ _ fun i _ => by
          rw [HA.out i, seen, if_neg (fun h => by have h2 := h.1; rw [mayT, hm] at h2; cases h2)])
        clear hm HA
        go_wp2
        refine wp_region_held_drew (S := fun w' => Below wr.heap.size wr w') (by kernel_rfl) (drawS (Below.refl _ _)) (fun hHeld => ?_)
        generalize wr.drew = wd at hHeld ⊢
        refine take_at (i := 0) 11 rfl rfl (by kernel_rfl) (by kernel_rfl) (by kernel_rfl) (fun _ _ _ h => h) (sure_yes (by rfl) (fun w => by go_simp; try with_reducible rfl)) hHeld ?_
        simp only [List.setIfInBounds_toArray, List.set_cons_zero, List.set_cons_succ]
        refine take_at (i := 1) 12 rfl rfl (by kernel_rfl) (by kernel_rfl) (by kernel_rfl) (fun _ _ _ h => h) (sure_yes (by rfl) (fun w => by go_simp; try with_reducible rfl)) hHeld ?_
        simp only [List.setIfInBounds_toArray, List.set_cons_zero, List.set_cons_succ]
        refine take_at (i := 2) 13 rfl rfl (by kernel_rfl) (by kernel_rfl) (by kernel_rfl) (fun _ _ _ h => h) (sure_yes (by rfl) (fun w => by go_simp; try with_reducible rfl)) hHeld ?_
        simp only [List.setIfInBounds_toArray, List.set_cons_zero, List.set_cons_succ]
        refine take_at (i := 3) 14 rfl rfl (by kernel_rfl) (by kernel_rfl) (by kernel_rfl) (fun _ _ _ h => h) (dot_yields (by rfl) 29 (.tmp 13) rfl (ad.add (k * 2)) rfl r q Tryz.underlying29 (by kernel_rfl) (fun w h => ⟨(World.cell?_of_block (h.block _ (World.block_lt_of_cell? _ _ C0.out))).trans C0.out, (World.cell?_of_block (h.block _ (World.block_lt_of_cell? _ _ C1.out))).trans C1.out⟩)) hHeld ?_
        simp only [List.setIfInBounds_toArray, List.set_cons_zero, List.set_cons_succ]
        refine wpAnyH_ready (rs := [4]) (by kernel_rfl) (by simp) ?_
        refine AllReadyH.cons rfl (fun K hK => ?_) AllReadyH.nil
        go_simp
        go_at_call 89
        refine (MY.out _).mono ?_
        rintro e w6 ⟨rfl, hb⟩
        dsimp only
        refine hK.out _ _ (below_next hHeld hb) (fun hHeld => ?_)
        clear hK K hb
        refine take_at (i := 5) 16 rfl rfl (by kernel_rfl) (by kernel_rfl) (by kernel_rfl) (fun _ _ _ h => h) (sure_yes (by rfl) (fun w => by go_simp; try with_reducible rfl)) hHeld ?_
        simp only [List.setIfInBounds_toArray, List.set_cons_zero, List.set_cons_succ]
        refine take_at (i := 6) 17 rfl rfl (by kernel_rfl) (by kernel_rfl) (by kernel_rfl) (fun _ _ _ h => h) (.inr ⟨by rfl, rfl⟩) hHeld ?_
        simp only [List.setIfInBounds_toArray, List.set_cons_zero, List.set_cons_succ]
        refine take_at (i := 7) 18 rfl rfl (by kernel_rfl) (by kernel_rfl) (by kernel_rfl) (fun _ _ _ h => h) (.inr ⟨by rfl, rfl⟩) hHeld ?_
        simp only [List.setIfInBounds_toArray, List.set_cons_zero, List.set_cons_succ]
        refine take_at (i := 8) 19 rfl rfl (by kernel_rfl) (by kernel_rfl) (by kernel_rfl) (fun _ _ _ h => h) (.inr ⟨by rfl, rfl⟩) hHeld ?_
        simp only [List.setIfInBounds_toArray, List.set_cons_zero, List.set_cons_succ]
        refine take_at (i := 9) 20 rfl rfl (by kernel_rfl) (by kernel_rfl) (by kernel_rfl) (fun _ _ _ h => h) (.inr ⟨by rfl, rfl⟩) hHeld ?_
        simp only [List.setIfInBounds_toArray, List.set_cons_zero, List.set_cons_succ]
        refine take_at (i := 10) 21 rfl rfl (by kernel_rfl) (by kernel_rfl) (by kernel_rfl) (fun _ _ _ h => h) (.inr ⟨by rfl, rfl⟩) hHeld ?_
        simp only [List.setIfInBounds_toArray, List.set_cons_zero, List.set_cons_succ]
        refine take_at (i := 11) 22 rfl rfl (by kernel_rfl) (by kernel_rfl) (by kernel_rfl) (fun _ _ _ h => h) (.inr ⟨by rfl, rfl⟩) hHeld ?_
        simp only [List.setIfInBounds_toArray, List.set_cons_zero, List.set_cons_succ]
        refine take_at (i := 12) 23 rfl rfl (by kernel_rfl) (by kernel_rfl) (by kernel_rfl) (fun _ _ _ h => h) (.inr ⟨by rfl, rfl⟩) hHeld ?_
        simp only [List.setIfInBounds_toArray, List.set_cons_zero, List.set_cons_succ]
        refine take_at (i := 13) 24 rfl rfl (by kernel_rfl) (by kernel_rfl) (by kernel_rfl) (fun _ _ _ h => h) (.inr ⟨by rfl, rfl⟩) hHeld ?_
        simp only [List.setIfInBounds_toArray, List.set_cons_zero, List.set_cons_succ]
        refine take_at (i := 14) 25 rfl rfl (by kernel_rfl) (by kernel_rfl) (by kernel_rfl) (fun _ _ _ h => h) (.inr ⟨by rfl, rfl⟩) hHeld ?_
        simp only [List.setIfInBounds_toArray, List.set_cons_zero, List.set_cons_succ]
        refine take_at (i := 15) 26 rfl rfl (by kernel_rfl) (by kernel_rfl) (by kernel_rfl) (fun _ _ _ h => h) (.inr ⟨by rfl, rfl⟩) hHeld ?_
        simp only [List.setIfInBounds_toArray, List.set_cons_zero, List.set_cons_succ]
        refine take_at (i := 16) 27 rfl rfl (by kernel_rfl) (by kernel_rfl) (by kernel_rfl) (fun _ _ _ h => h) (.inr ⟨by rfl, rfl⟩) hHeld ?_
        simp only [List.setIfInBounds_toArray, List.set_cons_zero, List.set_cons_succ]
        refine take_at (i := 17) 28 rfl rfl (by kernel_rfl) (by kernel_rfl) (by kernel_rfl) (fun _ _ _ h => h) (.inr ⟨by rfl, rfl⟩) hHeld ?_
        simp only [List.setIfInBounds_toArray, List.set_cons_zero, List.set_cons_succ]
        refine take_at (i := 18) 29 rfl rfl (by kernel_rfl) (by kernel_rfl) (by kernel_rfl) (fun _ _ _ h => h) (.inr ⟨by rfl, rfl⟩) hHeld ?_
        simp only [List.setIfInBounds_toArray, List.set_cons_zero, List.set_cons_succ]
        refine take_at (i := 19) 30 rfl rfl (by kernel_rfl) (by kernel_rfl) (by kernel_rfl) (fun _ _ _ h => h) (sure_yes (by rfl) (fun w => by go_simp; try with_reducible rfl)) hHeld ?_
        simp only [List.setIfInBounds_toArray, List.set_cons_zero, List.set_cons_succ]
        refine wpAnyH_done (by kernel_rfl) ?_ _
        go_wp2
        refine ⟨⟨k + 1, KK.out.1, by simp, row_kept HZ.out hHeld, by rw [HS.out]; exact row_kept HO.out hHeld, below_next HB.out hHeld⟩, ?_⟩
        simp [intOf]; exact KK.out.2
      | true =>
        rw [hm] at MY
        have hb := mayT_bd (d := (r, q)) hm
        simp only at hb
        obtain ⟨i, hi⟩ : ∃ i : Nat, r = (i : Int) := ⟨r.toNat, by omega⟩
        subst hi
        have hi32 : i < 32 := by omega
        have qi : (i : Int) < 32 := by omega
        obtain ⟨m, hme⟩ : ∃ m, m = allV (l.take k) i := ⟨_, rfl⟩
        have CM := Lib.hid (show wr.cell? ⟨w.heap.size + 1, i, none⟩ = some (.int .i64 m) by rw [hme]; exact nums_cell HO.out i hi32)
        by_cases hgt : m < q
        · have d1 : decide (q > m) = true := decide_eq_true hgt
          have HS := Lib.hid (show (nums 32 (allV (l.take k))).setIfInBounds i (.int .i64 q) = nums 32 (allV (l.take (k + 1))) from nums_set _ _ _ _ _ fun j _ => by
            rw [HA.out j, seen]
            by_cases hj : j = i
            · subst hj; rw [if_pos rfl, if_pos ⟨hm, rfl, by rw [← hme]; exact hgt⟩]
            · rw [if_neg hj, if_neg (fun h => hj (by have := h.2.1; simp only at this; omega))])
          clear hm HA hb hgt hme hi32
          go_wp2
          refine wp_region_held_drew (S := fun w' => Below wr.heap.size wr w') (by kernel_rfl) (drawS (Below.refl _ _)) (fun hHeld => ?_)
          generalize wr.drew = wd at hHeld ⊢
          refine take_at (i := 0) 11 rfl rfl (by kernel_rfl) (by kernel_rfl) (by kernel_rfl) (fun _ _ _ h => h) (sure_yes (by rfl) (fun w => by go_simp; try with_reducible rfl)) hHeld ?_
          simp only [List.setIfInBounds_toArray, List.set_cons_zero, List.set_cons_succ]
          refine take_at (i := 1) 12 rfl rfl (by kernel_rfl) (by kernel_rfl) (by kernel_rfl) (fun _ _ _ h => h) (sure_yes (by rfl) (fun w => by go_simp; try with_reducible rfl)) hHeld ?_
          simp only [List.setIfInBounds_toArray, List.set_cons_zero, List.set_cons_succ]
          refine take_at (i := 2) 13 rfl rfl (by kernel_rfl) (by kernel_rfl) (by kernel_rfl) (fun _ _ _ h => h) (sure_yes (by rfl) (fun w => by go_simp; try with_reducible rfl)) hHeld ?_
          simp only [List.setIfInBounds_toArray, List.set_cons_zero, List.set_cons_succ]
          refine take_at (i := 3) 14 rfl rfl (by kernel_rfl) (by kernel_rfl) (by kernel_rfl) (fun _ _ _ h => h) (dot_yields (by rfl) 29 (.tmp 13) rfl (ad.add (k * 2)) rfl (i : Int) q Tryz.underlying29 (by kernel_rfl) (fun w h => ⟨(World.cell?_of_block (h.block _ (World.block_lt_of_cell? _ _ C0.out))).trans C0.out, (World.cell?_of_block (h.block _ (World.block_lt_of_cell? _ _ C1.out))).trans C1.out⟩)) hHeld ?_
          simp only [List.setIfInBounds_toArray, List.set_cons_zero, List.set_cons_succ]
          refine wpAnyH_ready (rs := [4]) (by kernel_rfl) (by simp) ?_
          refine AllReadyH.cons rfl (fun K hK => ?_) AllReadyH.nil
          go_simp
          go_at_call 89
          refine (MY.out _).mono ?_
          rintro e w6 ⟨rfl, hb⟩
          dsimp only
          refine hK.out _ _ (below_next hHeld hb) (fun hHeld => ?_)
          clear hK K hb
          refine take_at (i := 5) 16 rfl rfl (by kernel_rfl) (by kernel_rfl) (by kernel_rfl) (fun _ _ _ h => h) (sure_yes (by rfl) (fun w => by go_simp; try with_reducible rfl)) hHeld ?_
          simp only [List.setIfInBounds_toArray, List.set_cons_zero, List.set_cons_succ]
          refine take_at (i := 6) 17 rfl rfl (by kernel_rfl) (by kernel_rfl) (by kernel_rfl) (fun _ _ _ h => h) (sure_yes (by rfl) (fun w => by go_simp; try with_reducible rfl)) hHeld ?_
          simp only [List.setIfInBounds_toArray, List.set_cons_zero, List.set_cons_succ]
          refine take_at (i := 7) 18 rfl rfl (by kernel_rfl) (by kernel_rfl) (by kernel_rfl) (fun _ _ _ h => h) (sure_yes (by rfl) (fun w => by go_simp; try with_reducible rfl)) hHeld ?_
          simp only [List.setIfInBounds_toArray, List.set_cons_zero, List.set_cons_succ]
          refine take_at (i := 8) 19 rfl rfl (by kernel_rfl) (by kernel_rfl) (by kernel_rfl) (fun _ _ _ h => h) (sure_yes (by rfl) (fun w => by go_simp; try with_reducible rfl)) hHeld ?_
          simp only [List.setIfInBounds_toArray, List.set_cons_zero, List.set_cons_succ]
          refine take_at (i := 9) 20 rfl rfl (by kernel_rfl) (by kernel_rfl) (by kernel_rfl) (fun _ _ _ h => h) (sure_yes (by rfl) (fun w => by go_simp; try with_reducible rfl)) hHeld ?_
          simp only [List.setIfInBounds_toArray, List.set_cons_zero, List.set_cons_succ]
          refine take_at (i := 11) 22 rfl rfl (by kernel_rfl) (by kernel_rfl) (by kernel_rfl) (fun _ _ _ h => h) (sure_yes (by rfl) (fun w => by go_simp; try with_reducible rfl)) hHeld ?_
          simp only [List.setIfInBounds_toArray, List.set_cons_zero, List.set_cons_succ]
          refine take_at (i := 12) 23 rfl rfl (by kernel_rfl) (by kernel_rfl) (by kernel_rfl) (fun _ _ _ h => h) (sure_yes (by rfl) (fun w => by go_simp; try with_reducible rfl)) hHeld ?_
          simp only [List.setIfInBounds_toArray, List.set_cons_zero, List.set_cons_succ]
          refine take_at (i := 13) 24 rfl rfl (by kernel_rfl) (by kernel_rfl) (by kernel_rfl) (fun _ _ _ h => h) (sure_yes (by rfl) (fun w => by go_simp; try with_reducible rfl)) hHeld ?_
          simp only [List.setIfInBounds_toArray, List.set_cons_zero, List.set_cons_succ]
          refine take_at (i := 14) 25 rfl rfl (by kernel_rfl) (by kernel_rfl) (by kernel_rfl) (fun _ _ _ h => h) (sure_yes (by rfl) (fun w => by go_simp; try with_reducible rfl)) hHeld ?_
          simp only [List.setIfInBounds_toArray, List.set_cons_zero, List.set_cons_succ]
          refine take_at (i := 10) 21 rfl rfl (by kernel_rfl) (by kernel_rfl) (by kernel_rfl) (fun _ _ _ h => h) (addr_yields (by rfl) 2 (.tmp 20) rfl (⟨(ad.add (k * 2)).block, (ad.add (k * 2)).off + 1, none⟩) rfl .i64 (q) Tryz.underlying2 (fun w h => (World.cell?_of_block (h.block _ (World.block_lt_of_cell? _ _ C1.out))).trans C1.out)) hHeld ?_
          simp only [List.setIfInBounds_toArray, List.set_cons_zero, List.set_cons_succ]
          refine take_at (i := 15) 26 rfl rfl (by kernel_rfl) (by kernel_rfl) (by kernel_rfl) (fun _ _ _ h => h) (addr_yields (by rfl) 3 (.tmp 25) rfl (ad.add (k * 2)) rfl .i64 ((i : Int)) Tryz.underlying3 (fun w h => (World.cell?_of_block (h.block _ (World.block_lt_of_cell? _ _ C0.out))).trans C0.out)) hHeld ?_
          simp only [List.setIfInBounds_toArray, List.set_cons_zero, List.set_cons_succ]
          refine take_at (i := 16) 27 rfl rfl (by kernel_rfl) (by kernel_rfl) (by kernel_rfl) (fun _ _ _ h => h) (sure_yes (by rfl) (fun w => by go_simp; try with_reducible rfl)) hHeld ?_
          simp only [List.setIfInBounds_toArray, List.set_cons_zero, List.set_cons_succ]
          refine take_at (i := 17) 28 rfl rfl (by kernel_rfl) (by kernel_rfl) (by kernel_rfl) (fun _ _ _ h => h) (addr_yields (by rfl) 2 (.tmp 27) rfl (⟨w.heap.size + 1, i, none⟩) rfl .i64 (m) Tryz.underlying2 (fun w h => (World.cell?_of_block (h.block _ (World.block_lt_of_cell? _ _ CM.out))).trans CM.out)) hHeld ?_
          simp only [List.setIfInBounds_toArray, List.set_cons_zero, List.set_cons_succ]
          refine take_at (i := 18) 29 rfl rfl (by kernel_rfl) (by kernel_rfl) (by kernel_rfl) (fun _ _ _ h => h) (sure_yes (by rfl) (fun w => by go_simp; try with_reducible rfl)) hHeld ?_
          simp only [List.setIfInBounds_toArray, List.set_cons_zero, List.set_cons_succ]
          refine take_at (i := 19) 30 rfl rfl (by kernel_rfl) (by kernel_rfl) (by kernel_rfl) (fun _ _ _ h => h) (sure_yes (by rfl) (fun w => by go_simp; try with_reducible rfl)) hHeld ?_
          simp only [List.setIfInBounds_toArray, List.set_cons_zero, List.set_cons_succ]
          refine wpAnyH_done (by kernel_rfl) ?_ _
          have c0 := (World.cell?_of_block (hHeld.block _ (World.block_lt_of_cell? _ _ C0.out))).trans C0.out
          have c1 := (World.cell?_of_block (hHeld.block _ (World.block_lt_of_cell? _ _ C1.out))).trans C1.out
          have HO6 := Lib.hid (row_kept HO.out hHeld)
          have HZ6 := Lib.hid (row_kept HZ.out hHeld)
          have HB6 := Lib.hid (below_next HB.out hHeld)
          clear hHeld C0 C1 CM HO HZ HB
          go_wp2
          go_still_tail 11, (by kernel_rfl)
          change wpList _ _ _ _ _ w6.drew
          have hz : w6.drew.heap[w.heap.size]? = _ := HZ6.out
          have ho : w6.drew.heap[w.heap.size + 1]? = _ := HO6.out
          have hb := below_draws HB6.out 1
          change Below _ _ w6.drew at hb
          clear HO6 HZ6 HB6 c0 c1
          generalize w6.drew = w7 at *
          go_wp2_with (first
            | (refine store_cell rfl 2 (.tmp 41) (.tmp 40) rfl rfl .i64 (w.heap.size + 1) i _ q 142 ho rfl rfl (by rw [nums_size]; omega) (by kernel_rfl) ?_; intro w8 hg8 hs8; rw [HS.out] at hg8; have H8 := Lib.hid (And.intro hg8 (And.intro ((hs8.block w.heap.size (by omega)).trans hz) (solo_below hb hs8 (by omega)))); clear hg8 hs8 hz ho hb))
          refine ⟨⟨k + 1, KK.out.1, by simp, H8.out.2.1, H8.out.1, H8.out.2.2⟩, ?_⟩
          simp [intOf]; exact KK.out.2
        · have d1 : decide (q > m) = false := decide_eq_false (by omega)
          have HS := Lib.hid (show nums 32 (allV (l.take (k + 1))) = nums 32 (allV (l.take k)) from nums_congr _ _ _ fun j _ => by
            rw [HA.out j, seen, if_neg (fun h => by
              obtain rfl : j = i := by have := h.2.1; simp only at this; omega
              rw [← hme] at h; exact hgt h.2.2)])
          clear hm HA hb hgt hme hi32
          go_wp2
          refine wp_region_held_drew (S := fun w' => Below wr.heap.size wr w') (by kernel_rfl) (drawS (Below.refl _ _)) (fun hHeld => ?_)
          generalize wr.drew = wd at hHeld ⊢
          refine take_at (i := 0) 11 rfl rfl (by kernel_rfl) (by kernel_rfl) (by kernel_rfl) (fun _ _ _ h => h) (sure_yes (by rfl) (fun w => by go_simp; try with_reducible rfl)) hHeld ?_
          simp only [List.setIfInBounds_toArray, List.set_cons_zero, List.set_cons_succ]
          refine take_at (i := 1) 12 rfl rfl (by kernel_rfl) (by kernel_rfl) (by kernel_rfl) (fun _ _ _ h => h) (sure_yes (by rfl) (fun w => by go_simp; try with_reducible rfl)) hHeld ?_
          simp only [List.setIfInBounds_toArray, List.set_cons_zero, List.set_cons_succ]
          refine take_at (i := 2) 13 rfl rfl (by kernel_rfl) (by kernel_rfl) (by kernel_rfl) (fun _ _ _ h => h) (sure_yes (by rfl) (fun w => by go_simp; try with_reducible rfl)) hHeld ?_
          simp only [List.setIfInBounds_toArray, List.set_cons_zero, List.set_cons_succ]
          refine take_at (i := 3) 14 rfl rfl (by kernel_rfl) (by kernel_rfl) (by kernel_rfl) (fun _ _ _ h => h) (dot_yields (by rfl) 29 (.tmp 13) rfl (ad.add (k * 2)) rfl (i : Int) q Tryz.underlying29 (by kernel_rfl) (fun w h => ⟨(World.cell?_of_block (h.block _ (World.block_lt_of_cell? _ _ C0.out))).trans C0.out, (World.cell?_of_block (h.block _ (World.block_lt_of_cell? _ _ C1.out))).trans C1.out⟩)) hHeld ?_
          simp only [List.setIfInBounds_toArray, List.set_cons_zero, List.set_cons_succ]
          refine wpAnyH_ready (rs := [4]) (by kernel_rfl) (by simp) ?_
          refine AllReadyH.cons rfl (fun K hK => ?_) AllReadyH.nil
          go_simp
          go_at_call 89
          refine (MY.out _).mono ?_
          rintro e w6 ⟨rfl, hb⟩
          dsimp only
          refine hK.out _ _ (below_next hHeld hb) (fun hHeld => ?_)
          clear hK K hb
          refine take_at (i := 5) 16 rfl rfl (by kernel_rfl) (by kernel_rfl) (by kernel_rfl) (fun _ _ _ h => h) (sure_yes (by rfl) (fun w => by go_simp; try with_reducible rfl)) hHeld ?_
          simp only [List.setIfInBounds_toArray, List.set_cons_zero, List.set_cons_succ]
          refine take_at (i := 6) 17 rfl rfl (by kernel_rfl) (by kernel_rfl) (by kernel_rfl) (fun _ _ _ h => h) (sure_yes (by rfl) (fun w => by go_simp; try with_reducible rfl)) hHeld ?_
          simp only [List.setIfInBounds_toArray, List.set_cons_zero, List.set_cons_succ]
          refine take_at (i := 7) 18 rfl rfl (by kernel_rfl) (by kernel_rfl) (by kernel_rfl) (fun _ _ _ h => h) (sure_yes (by rfl) (fun w => by go_simp; try with_reducible rfl)) hHeld ?_
          simp only [List.setIfInBounds_toArray, List.set_cons_zero, List.set_cons_succ]
          refine take_at (i := 8) 19 rfl rfl (by kernel_rfl) (by kernel_rfl) (by kernel_rfl) (fun _ _ _ h => h) (sure_yes (by rfl) (fun w => by go_simp; try with_reducible rfl)) hHeld ?_
          simp only [List.setIfInBounds_toArray, List.set_cons_zero, List.set_cons_succ]
          refine take_at (i := 9) 20 rfl rfl (by kernel_rfl) (by kernel_rfl) (by kernel_rfl) (fun _ _ _ h => h) (sure_yes (by rfl) (fun w => by go_simp; try with_reducible rfl)) hHeld ?_
          simp only [List.setIfInBounds_toArray, List.set_cons_zero, List.set_cons_succ]
          refine take_at (i := 11) 22 rfl rfl (by kernel_rfl) (by kernel_rfl) (by kernel_rfl) (fun _ _ _ h => h) (sure_yes (by rfl) (fun w => by go_simp; try with_reducible rfl)) hHeld ?_
          simp only [List.setIfInBounds_toArray, List.set_cons_zero, List.set_cons_succ]
          refine take_at (i := 12) 23 rfl rfl (by kernel_rfl) (by kernel_rfl) (by kernel_rfl) (fun _ _ _ h => h) (sure_yes (by rfl) (fun w => by go_simp; try with_reducible rfl)) hHeld ?_
          simp only [List.setIfInBounds_toArray, List.set_cons_zero, List.set_cons_succ]
          refine take_at (i := 13) 24 rfl rfl (by kernel_rfl) (by kernel_rfl) (by kernel_rfl) (fun _ _ _ h => h) (sure_yes (by rfl) (fun w => by go_simp; try with_reducible rfl)) hHeld ?_
          simp only [List.setIfInBounds_toArray, List.set_cons_zero, List.set_cons_succ]
          refine take_at (i := 14) 25 rfl rfl (by kernel_rfl) (by kernel_rfl) (by kernel_rfl) (fun _ _ _ h => h) (sure_yes (by rfl) (fun w => by go_simp; try with_reducible rfl)) hHeld ?_
          simp only [List.setIfInBounds_toArray, List.set_cons_zero, List.set_cons_succ]
          refine take_at (i := 10) 21 rfl rfl (by kernel_rfl) (by kernel_rfl) (by kernel_rfl) (fun _ _ _ h => h) (addr_yields (by rfl) 2 (.tmp 20) rfl (⟨(ad.add (k * 2)).block, (ad.add (k * 2)).off + 1, none⟩) rfl .i64 (q) Tryz.underlying2 (fun w h => (World.cell?_of_block (h.block _ (World.block_lt_of_cell? _ _ C1.out))).trans C1.out)) hHeld ?_
          simp only [List.setIfInBounds_toArray, List.set_cons_zero, List.set_cons_succ]
          refine take_at (i := 15) 26 rfl rfl (by kernel_rfl) (by kernel_rfl) (by kernel_rfl) (fun _ _ _ h => h) (addr_yields (by rfl) 3 (.tmp 25) rfl (ad.add (k * 2)) rfl .i64 ((i : Int)) Tryz.underlying3 (fun w h => (World.cell?_of_block (h.block _ (World.block_lt_of_cell? _ _ C0.out))).trans C0.out)) hHeld ?_
          simp only [List.setIfInBounds_toArray, List.set_cons_zero, List.set_cons_succ]
          refine take_at (i := 16) 27 rfl rfl (by kernel_rfl) (by kernel_rfl) (by kernel_rfl) (fun _ _ _ h => h) (sure_yes (by rfl) (fun w => by go_simp; try with_reducible rfl)) hHeld ?_
          simp only [List.setIfInBounds_toArray, List.set_cons_zero, List.set_cons_succ]
          refine take_at (i := 17) 28 rfl rfl (by kernel_rfl) (by kernel_rfl) (by kernel_rfl) (fun _ _ _ h => h) (addr_yields (by rfl) 2 (.tmp 27) rfl (⟨w.heap.size + 1, i, none⟩) rfl .i64 (m) Tryz.underlying2 (fun w h => (World.cell?_of_block (h.block _ (World.block_lt_of_cell? _ _ CM.out))).trans CM.out)) hHeld ?_
          simp only [List.setIfInBounds_toArray, List.set_cons_zero, List.set_cons_succ]
          refine take_at (i := 18) 29 rfl rfl (by kernel_rfl) (by kernel_rfl) (by kernel_rfl) (fun _ _ _ h => h) (sure_yes (by rfl) (fun w => by go_simp; try with_reducible rfl)) hHeld ?_
          simp only [List.setIfInBounds_toArray, List.set_cons_zero, List.set_cons_succ]
          refine take_at (i := 19) 30 rfl rfl (by kernel_rfl) (by kernel_rfl) (by kernel_rfl) (fun _ _ _ h => h) (sure_yes (by rfl) (fun w => by go_simp; try with_reducible rfl)) hHeld ?_
          simp only [List.setIfInBounds_toArray, List.set_cons_zero, List.set_cons_succ]
          refine wpAnyH_done (by kernel_rfl) ?_ _
          go_wp2
          refine ⟨⟨k + 1, KK.out.1, by simp, row_kept HZ.out hHeld, by rw [HS.out]; exact row_kept HO.out hHeld, below_next HB.out hHeld⟩, ?_⟩
          simp [intOf]; exact KK.out.2
    · have q0 : ¬ (k : Int) < (n : Int) := by omega
      have HE := Lib.hid (show l.take k = l by rw [show k = l.length by rw [← HN.out]; omega, List.take_length])
      rw [HE.out] at ho
      have HZ := Lib.hid hz
      have HO := Lib.hid ho
      have HB := Lib.hid hb
      clear hz ho hb
      go_wp2_with (first
        | (refine wpList_load_row rfl 142 (.tmp 3) rfl (w.heap.size + 1) rfl 142 _ (0, 0) _ HO.out Tryz.underlying142 rfl (by rw [nums_size]; kernel_rfl) ?_)
        | (refine wpList_store_row rfl 142 (.tmp 2) (.tmp 42) rfl w.heap.size _ rfl rfl 142 _ HZ.out (by rw [nums_size]; kernel_rfl) (by rw [nums_size, nums_size]) (nums_one _ _) ?_))
      exact bodyPost_ret (results_cell_row Tryz.results87 _ _ w.heap.size 142 _ (0, 0) _ rfl (setRow_heap _ _ _ _ _ _ HZ.out) Tryz.underlying142 rfl (by rw [nums_size]; kernel_rfl)) rfl ⟨rfl, below_setRow HB.out (Nat.le_refl _) _⟩
end Go.Proofs.YtppmbdpfledejaaGreatDoor
namespace Go.Proofs.YtppmbdpfledejaaGreatDoor
open Go.RowKit
/-- A dot loaded from an address whose two cells are known. -/
theorem load_dot10 {P : Program} {ops : Array Oper} {rest : List Oper} {o : Oper} {a : Act} {w : World} {Q : Exit → Act → World → Prop} (hw : Region.wanted o (yielded ops a.tmps) = true) (ty : TypeId) (x : Operand) (ho : o.op = .load ty x)
    (A : Addr) (hx : a.eval x = .pointer (some A)) (r q : Int) {fs : Array Field} (hu : P.underlying ty = some (.struct fs)) (hi : (P.info? ty).map (·.size) = some 2) (hc : w.cell? A = some (.int .i64 r) ∧ w.cell? ⟨A.block, A.off + 1, none⟩ = some (.int .i64 q))
    (h : wpList P ops Q rest (a.put o.dst (.agg #[.int .i64 r, .int .i64 q])) w) : wpList P ops Q (o :: rest) a w := by
  rcases dot_yields (S := fun w' => w' = w) hw ty x ho A hx r q hu hi (fun w' e => by rw [e]; exact hc) with ⟨-, hy⟩ | ⟨hn, -⟩
  · refine wpList_step fun K hK => ?_
    rw [if_pos hw]
    unfold Oper.wp
    rw [hy w rfl]
    exact hK _ _ h
  · rw [hw] at hn; cases hn
theorem infoDot : ∃ i, Tryz.prog.info? 29 = some i ∧ (i.zero.map (·.cells.size), i.size, i.bytes) = (some 2, 2, 16) := by
  have h : (Tryz.prog.info? 29).map (fun i => (i.zero.map (·.cells.size), i.size, i.bytes)) = some (some 2, 2, 16) := by kernel_rfl
  cases hi : Tryz.prog.info? 29 with
  | none => rw [hi] at h; cases h
  | some i => rw [hi] at h; exact ⟨i, rfl, Option.some.inj h⟩
set_option maxRecDepth 100000 in
theorem dot_built2 (r q : Int) : Tryz.prog.built 29 [(0, .int .i64 r), (1, .int .i64 q)] = some #[.int .i64 r, .int .i64 q] := by rfl
set_option maxRecDepth 100000 in
set_option maxHeartbeats 16000000 in
theorem refOf_typ (f : Nat → Int) (w : World) : Calls Tryz.prog 88 #[.agg (nums 32 f)] w fun e w' => ∃ v, e = .returned v ∧ TypDots w' v (ofV f) ∧ Below w.heap.size w w' := by
  obtain ⟨i0, hi, hz⟩ := infoDot
  have HX := Lib.hid (heap_last w (.cells (nums 32 f) 142 (0, 0)))
  have HB := Lib.hid ((Below.refl w.heap.size w).alloc (Nat.le_refl _) (.cells (nums 32 f) 142 (0, 0)))
  have HW := Lib.hid (show w.heap.size < (w.alloc (.cells (nums 32 f) 142 (0, 0))).heap.size by simp)
  go_enter Tryz.func88, Tryz.ntmps88
  go_wp2
  go_loopw [3, 4] (fun v c wr => ∃ k : Nat, k ≤ 32 ∧ c = .int .i64 (k : Int) ∧ wr.ownsRow (w.heap.size + 1) 29 2 v (ofN f k).length (dotsC (ofN f k)) ∧ wr.heap[w.heap.size]? = some (.cells (nums 32 f) 142 (0, 0)) ∧ w.heap.size < wr.heap.size ∧ Below w.heap.size w wr) (fun _ c _ => 32 - (intOf c).toNat)
  case atStart => exact ⟨0, by omega, rfl, dots_own_nil _ _ _, HX.out, HW.out, HB.out⟩
  case round =>
    clear HX HB HW
    obtain ⟨k, hk, rfl, ho, hx, hs, hb⟩ := hrel
    have HO := Lib.hid ho
    have HX := Lib.hid hx
    have HB := Lib.hid hb
    have HS := Lib.hid hs
    by_cases hlt : k < 32
    · have q0 : (k : Int) < 32 := by omega
      have c0 := nums_cell HX.out k hlt
      have HL := Lib.hid (ofN_length f k)
      have KK := Lib.hid (show k + 1 ≤ 32 ∧ 32 - (k + 1) < 32 - k by omega)
      obtain ⟨m, hm⟩ : ∃ m, m = f k := ⟨_, rfl⟩
      rw [← hm] at c0
      by_cases hp : 0 < m
      · have d1 : decide (m > 0) = true := decide_eq_true hp
        have HN := Lib.hid (show ofN f (k + 1) = ofN f k ++ [((k : Int), m)] by rw [ofN, if_pos (by rw [← hm]; exact hp), ← hm])
        clear hp hm ho hx hb hs hlt
        go_wp2_with (first
          | (refine build_on (by rfl) 29 #[(0, .tmp 14), (1, .tmp 17)] rfl _ _ (dot_built2 (k : Int) m) (by simp [Act.eval]) ?_)
          | (at_builtin; refine append_dot rfl (.tmp 13) (.tmp 19) 75 rfl (w.heap.size + 1) 29 i0 Tryz.underlying75 hi hz _ (ofN f k) ((k : Int), m) rfl (HO.out.alloc _) ⟨wr.heap.size, 0, none⟩ 1 rfl ⟨(cell_of_row _ _ 0 _ _ _ (heap_last wr _)).trans rfl, by rw [Addr.add_lit]; exact (cell_of_row _ _ (0 + 1) _ _ _ (heap_last wr _)).trans rfl⟩ (by have := HL.out; have := KK.out.1; omega) (by have := HS.out; simp <;> omega) ?_; intro v1 w1 ho hg; rw [← HN.out] at ho; have HO1 := Lib.hid ho; have HB1 := Lib.hid (below_grown (HB.out.alloc HB.out.size _) hg (by have := HS.out; simp <;> omega) (fun j hj => by have := (HO.out.lt j hj).1; omega)); have HX1 := Lib.hid (show w1.heap[w.heap.size]? = some (.cells (nums 32 f) 142 (0, 0)) from (hg.block w.heap.size (by have := HS.out; simp <;> omega) (fun h => by have := (HO.out.lt _ h.symm).1; omega)).trans (by rw [heap_at_alloc, if_neg (by have := HS.out; omega)]; exact HX.out)); have HS1 := Lib.hid (show w.heap.size < w1.heap.size from Nat.lt_of_lt_of_le HS.out (Nat.le_trans (by simp) hg.size)); clear ho hg))
        refine ⟨⟨k + 1, KK.out.1, by simp, HO1.out, HX1.out, HS1.out, HB1.out⟩, ?_⟩
        have := KK.out.2; simp [intOf]; omega
      · have d1 : decide (m > 0) = false := decide_eq_false hp
        have HN := Lib.hid (show ofN f (k + 1) = ofN f k by rw [ofN, if_neg (by rw [← hm]; exact hp), List.append_nil])
        clear hp hm ho hx hb hs hlt
        go_wp2
        refine ⟨⟨k + 1, KK.out.1, by simp, by rw [HN.out]; exact HO.out, HX.out, HS.out, HB.out⟩, ?_⟩
        have := KK.out.2; simp [intOf]; omega
    · have q0 : ¬ (k : Int) < 32 := by omega
      obtain rfl : k = 32 := by omega
      have HD := Lib.hid (typ_of_own HO.out)
      clear ho hx hb hs hlt
      go_wp2
      go_ret
      exact ⟨_, rfl, HD.out, HB.out⟩
end Go.Proofs.YtppmbdpfledejaaGreatDoor
