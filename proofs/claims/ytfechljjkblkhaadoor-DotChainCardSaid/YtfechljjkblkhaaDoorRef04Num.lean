/-
What the document's own Number and Read return.
-/
import Derived.Test.YtfechljjkblkhaaDoorRef04
namespace Go.Proofs.YtfechljjkblkhaaDoor
open Go.RowKit
theorem numL_nonneg (m : Nat) : numL (m : Int) = digs m := by unfold numL; rw [if_neg (by omega)]; simp
theorem numL_neg (m : Nat) (h : 0 < m) : numL (-(m : Int)) = 45 :: digs m := by unfold numL; rw [if_pos (by omega)]; simp
theorem numL_length (n : Int) (h : -9223372036854775808 ≤ n) (h2 : n < 9223372036854775808) : (numL n).length ≤ 20 := by
  have := digs_length 19 n.natAbs (by omega) (by omega)
  unfold numL; split <;> simp <;> omega
/-- A slice of one byte that was just made, as a text. -/
theorem conv_one (w : World) (c : UInt8) (n : Nat) (hn : c.toNat = n) : (convert 58 9 (.slice (some ⟨w.heap.size, 0, none⟩) 1 1)).run Tryd.prog (w.alloc (.cells #[.int .u8 (n : Int)] 5)) = .ok (.string (str [c])) (w.alloc (.cells #[.int .u8 (n : Int)] 5)) := by
  subst hn
  have h := has_new w 5 (0, 0) ([c].map w8)
  rw [show (bytesL ([c].map w8)).toArray = #[.int .u8 (c.toNat : Int)] by rw [bytesL_map]; rfl] at h
  exact conv_text Tryd.underlying58 Tryd.underlying5 Tryd.underlying9 (l := [c]) h
theorem text_one (w : World) (c : UInt8) (n : Nat) (hn : c.toNat = n) : HasText (w.alloc (.cells #[.int .u8 (n : Int)] 5)) (.slice (some ⟨w.heap.size, 0, none⟩) 1 1) [c] := by
  subst hn
  have h := has_new w 5 (0, 0) ([c].map w8)
  rw [show (bytesL ([c].map w8)).toArray = #[.int .u8 (c.toNat : Int)] by rw [bytesL_map]; rfl] at h
  exact h
set_option maxHeartbeats 4000000 in
theorem refNumber_pos (m : Nat) (hm : m < 9223372036854775808) (w : World) : Calls Tryd.prog 28 #[.int .i64 (m : Int)] w fun e w' => e = .returned (.string (str (digs m))) ∧ Below w.heap.size w w' := by
  induction m using Nat.strongRecOn generalizing w with
  | _ m ih =>
  by_cases h10 : m < 10
  · obtain ⟨c, hc⟩ : ∃ c : UInt8, c = UInt8.ofNat (48 + m) := ⟨_, rfl⟩
    obtain ⟨cn, hcn⟩ : ∃ cn, c.toNat = cn := ⟨_, rfl⟩
    have e1 : (48 : Int) + (m : Int) = (cn : Int) := by rw [← hcn, hc, dig_toNat m h10]; omega
    have hl := digs_lo m h10
    rw [← hc] at hl
    have HL := Lib.hid hl
    have hc256 : IntKind.u8.wrap (cn : Int) = (cn : Int) := by have := UInt8.toNat_lt c; rw [IntKind.wrap_u8]; omega
    have q0 : (m : Int) < 10 := by omega
    have hcv := conv_one w c cn hcn
    clear ih hl hc hm hcn
    go_enter Tryd.func28, Tryd.ntmps28
    go_wp2_with fail
    go_ret
    exact ⟨by rw [HL.out]; rfl, (Below.refl _ _).alloc (Nat.le_refl _) _⟩
  · obtain ⟨q, hq⟩ : ∃ q : Nat, q = m / 10 := ⟨_, rfl⟩
    obtain ⟨c, hc⟩ : ∃ c : UInt8, c = UInt8.ofNat (48 + m % 10) := ⟨_, rfl⟩
    obtain ⟨r, hr⟩ : ∃ r : Nat, r = m % 10 := ⟨_, rfl⟩
    have IH := Lib.hid (ih q (by omega) (by omega))
    have e0 : (m : Int) / 10 = (q : Int) := by omega
    have e1 : (m : Int).tmod 10 = (r : Int) := by rw [Int.tmod_eq_emod_of_nonneg (by omega)]; omega
    obtain ⟨cn, hcn⟩ : ∃ cn, c.toNat = cn := ⟨_, rfl⟩
    have e2 : (48 : Int) + (r : Int) = (cn : Int) := by rw [← hcn, hc, dig_toNat (m % 10) (by omega)]; omega
    have hr10 : (r : Int) < 10 := by omega
    have hc256 : IntKind.u8.wrap (cn : Int) = (cn : Int) := by have := UInt8.toNat_lt c; rw [IntKind.wrap_u8]; omega
    have hl := digs_hi m (by omega)
    rw [← hc, ← hq] at hl
    have hd : decide ((m : Int) < 10) = false := decide_eq_false (by omega)
    have ew2 : IntKind.i64.wrap (cn : Int) = (cn : Int) := by have := UInt8.toNat_lt c; rw [IntKind.wrap_i64]; omega
    have ew : IntKind.i64.wrap (q : Int) = (q : Int) := by rw [IntKind.wrap_i64]; omega
    have HT := Lib.hid (fun w => text_one w c cn hcn)
    have hadd := add_str (P := Tryd.prog) (digs q) [c] (by have := digs_length 19 q (by omega) (by omega); simp; omega)
    rw [← hl] at hadd
    clear ih hl hc hr hq hm hcn
    go_enter Tryd.func28, Tryd.ntmps28
    go_wp2_with fail
    -- REGION7
    refine wp_region_held_drew (S := fun w' => Below w.heap.size w w') (by kernel_rfl) (below_draws (Below.refl _ _) 1) (fun hHeld => ?_)
    refine take_at (i := 0) 34 rfl rfl (by kernel_rfl) (by kernel_rfl) (by kernel_rfl) (fun _ _ _ h => h) (sure_yes (by rfl) (fun w => by go_simp; try with_reducible rfl)) (by assumption) ?_
    simp only [List.setIfInBounds_toArray, List.set_cons_zero, List.set_cons_succ]
    refine take_at (i := 1) 35 rfl rfl (by kernel_rfl) (by kernel_rfl) (by kernel_rfl) (fun _ _ _ h => h) (sure_yes (by rfl) (fun w => by go_simp; try with_reducible rfl)) (by assumption) ?_
    simp only [List.setIfInBounds_toArray, List.set_cons_zero, List.set_cons_succ]
    refine take_at (i := 3) 37 rfl rfl (by kernel_rfl) (by kernel_rfl) (by kernel_rfl) (fun _ _ _ h => h) (sure_yes (by rfl) (fun w => by go_simp; try with_reducible rfl)) (by assumption) ?_
    simp only [List.setIfInBounds_toArray, List.set_cons_zero, List.set_cons_succ]
    refine take_at (i := 4) 38 rfl rfl (by kernel_rfl) (by kernel_rfl) (by kernel_rfl) (fun _ _ _ h => h) (sure_yes (by rfl) (fun w => by go_simp; try with_reducible rfl)) (by assumption) ?_
    simp only [List.setIfInBounds_toArray, List.set_cons_zero, List.set_cons_succ]
    refine take_at (i := 5) 39 rfl rfl (by kernel_rfl) (by kernel_rfl) (by kernel_rfl) (fun _ _ _ h => h) (sure_yes (by rfl) (fun w => by go_simp; try with_reducible rfl)) (by assumption) ?_
    simp only [List.setIfInBounds_toArray, List.set_cons_zero, List.set_cons_succ]
    refine take_at (i := 6) 40 rfl rfl (by kernel_rfl) (by kernel_rfl) (by kernel_rfl) (fun _ _ _ h => h) (sure_yes (by rfl) (fun w => by go_simp; try with_reducible rfl)) (by assumption) ?_
    simp only [List.setIfInBounds_toArray, List.set_cons_zero, List.set_cons_succ]
    refine wpAnyH_ready (rs := [2, 7]) (by kernel_rfl) (by simp) ?_
    refine AllReadyH.cons rfl (fun K hK => ?_) (AllReadyH.cons rfl (fun K hK => ?_) AllReadyH.nil)
    · go_simp
      go_at_call 28
      refine (IH.out _).mono ?_
      rintro e w1 ⟨rfl, hb1⟩
      go_wp2_with fail
      refine hK.out _ _ (below_next (below_draws (Below.refl _ _) 1) hb1) (fun hS1 => ?_)
      clear hK K
      refine wpAnyH_ready (rs := [7]) (by kernel_rfl) (by simp) ?_
      refine AllReadyH.cons rfl (fun K hK => ?_) AllReadyH.nil
      go_simp
      refine hK.out _ _ (hS1.alloc hS1.size _) (fun hS2 => ?_)
      clear hK K
      refine wpAnyH_ready (rs := [8]) (by kernel_rfl) (by simp) ?_
      refine AllReadyH.cons rfl (fun K hK => ?_) AllReadyH.nil
      refine conv_step 42 rfl (by rfl) 58 9 5 (.tmp 41) _ rfl rfl Tryd.underlying58 Tryd.underlying5 Tryd.underlying9 [c] (HT.out w1) ?_
      refine hK.out _ _ (by assumption) (fun _ => ?_)
      clear hK K
      simp only [List.setIfInBounds_toArray, List.set_cons_zero, List.set_cons_succ]
      refine take_at (i := 9) 43 rfl rfl (by kernel_rfl) (by kernel_rfl) (by kernel_rfl) (fun _ _ _ h => h) (sure_yes (by rfl) (fun w => by go_simp; try with_reducible rfl)) (by assumption) ?_
      simp only [List.setIfInBounds_toArray, List.set_cons_zero, List.set_cons_succ]
      refine take_at (i := 10) 2 rfl rfl (by kernel_rfl) (by kernel_rfl) (by kernel_rfl) (fun _ _ _ h => h) (sure_yes (by rfl) (fun w => by go_simp; try with_reducible rfl)) (by assumption) ?_
      simp only [List.setIfInBounds_toArray, List.set_cons_zero, List.set_cons_succ]
      refine wpAnyH_done (by kernel_rfl) ?_ _
      go_wp2
      go_ret
      exact ⟨rfl, by assumption⟩
    · go_simp
      refine hK.out _ _ ((below_draws (Below.refl _ _) 1).alloc (Nat.le_refl _) _) (fun hS2 => ?_)
      clear hK K
      refine wpAnyH_ready (rs := [2, 8]) (by kernel_rfl) (by simp) ?_
      refine AllReadyH.cons rfl (fun K hK => ?_) (AllReadyH.cons rfl (fun K hK => ?_) AllReadyH.nil)
      · go_simp
        go_at_call 28
        refine (IH.out _).mono ?_
        rintro e w1 ⟨rfl, hb1⟩
        go_wp2_with fail
        refine hK.out _ _ (below_next hS2 hb1) (fun hS1 => ?_)
        clear hK K
        refine wpAnyH_ready (rs := [8]) (by kernel_rfl) (by simp) ?_
        refine AllReadyH.cons rfl (fun K hK => ?_) AllReadyH.nil
        refine conv_step 42 rfl (by rfl) 58 9 5 (.tmp 41) _ rfl rfl Tryd.underlying58 Tryd.underlying5 Tryd.underlying9 [c] (has_below (w := (w.alloc _).drew) (HT.out w) hb1) ?_
        refine hK.out _ _ (by assumption) (fun _ => ?_)
        clear hK K
        simp only [List.setIfInBounds_toArray, List.set_cons_zero, List.set_cons_succ]
        refine take_at (i := 9) 43 rfl rfl (by kernel_rfl) (by kernel_rfl) (by kernel_rfl) (fun _ _ _ h => h) (sure_yes (by rfl) (fun w => by go_simp; try with_reducible rfl)) (by assumption) ?_
        simp only [List.setIfInBounds_toArray, List.set_cons_zero, List.set_cons_succ]
        refine take_at (i := 10) 2 rfl rfl (by kernel_rfl) (by kernel_rfl) (by kernel_rfl) (fun _ _ _ h => h) (sure_yes (by rfl) (fun w => by go_simp; try with_reducible rfl)) (by assumption) ?_
        simp only [List.setIfInBounds_toArray, List.set_cons_zero, List.set_cons_succ]
        refine wpAnyH_done (by kernel_rfl) ?_ _
        go_wp2
        go_ret
        exact ⟨rfl, by assumption⟩
      · refine conv_step 42 rfl (by rfl) 58 9 5 (.tmp 41) _ rfl rfl Tryd.underlying58 Tryd.underlying5 Tryd.underlying9 [c] (HT.out w) ?_
        refine hK.out _ _ (by assumption) (fun _ => ?_)
        clear hK K
        simp only [List.setIfInBounds_toArray, List.set_cons_zero, List.set_cons_succ]
        refine wpAnyH_ready (rs := [2]) (by kernel_rfl) (by simp) ?_
        refine AllReadyH.cons rfl (fun K hK => ?_) AllReadyH.nil
        go_simp
        go_at_call 28
        refine (IH.out _).mono ?_
        rintro e w1 ⟨rfl, hb1⟩
        go_wp2_with fail
        refine hK.out _ _ (below_next hS2 hb1) (fun hS1 => ?_)
        clear hK K
        refine take_at (i := 9) 43 rfl rfl (by kernel_rfl) (by kernel_rfl) (by kernel_rfl) (fun _ _ _ h => h) (sure_yes (by rfl) (fun w => by go_simp; try with_reducible rfl)) (by assumption) ?_
        simp only [List.setIfInBounds_toArray, List.set_cons_zero, List.set_cons_succ]
        refine take_at (i := 10) 2 rfl rfl (by kernel_rfl) (by kernel_rfl) (by kernel_rfl) (fun _ _ _ h => h) (sure_yes (by rfl) (fun w => by go_simp; try with_reducible rfl)) (by assumption) ?_
        simp only [List.setIfInBounds_toArray, List.set_cons_zero, List.set_cons_succ]
        refine wpAnyH_done (by kernel_rfl) ?_ _
        go_wp2
        go_ret
        exact ⟨rfl, by assumption⟩
set_option maxHeartbeats 4000000 in
theorem refNumber_neg (m : Nat) (h0 : 0 < m) (hm : m ≤ 9223372036854775808) (w : World) : Calls Tryd.prog 28 #[.int .i64 (-(m : Int))] w fun e w' => e = .returned (.string (str (45 :: digs m))) ∧ Below w.heap.size w w' := by
  induction m using Nat.strongRecOn generalizing w with
  | _ m ih =>
  obtain ⟨z, hz⟩ : ∃ z : Int, z = -(m : Int) := ⟨_, rfl⟩
  rw [← hz]
  have hneg : decide (z < 0) = true := decide_eq_true (by omega)
  by_cases h10 : m < 10
  · obtain ⟨c, hc⟩ : ∃ c : UInt8, c = UInt8.ofNat (48 + m) := ⟨_, rfl⟩
    obtain ⟨cn, hcn⟩ : ∃ cn, c.toNat = cn := ⟨_, rfl⟩
    have hcn2 : cn = 48 + m := by rw [← hcn, hc, dig_toNat m h10]
    have e1 : (48 : Int) - z = (cn : Int) := by omega
    have hl := digs_lo m h10
    rw [← hc] at hl
    have hadd := add_str (P := Tryd.prog) [45] [c] (by simp)
    rw [show [45] ++ [c] = 45 :: digs m from by rw [hl]; rfl] at hadd
    have hc256 : IntKind.u8.wrap (cn : Int) = (cn : Int) := by rw [IntKind.wrap_u8]; omega
    have ew2 : IntKind.i64.wrap (cn : Int) = (cn : Int) := by rw [IntKind.wrap_i64]; omega
    have q0 : decide (-10 < z) = true := decide_eq_true (by omega)
    have hcv := conv_one w c cn hcn
    have h45 : (ByteArray.mk #[45]) = str [45] := rfl
    clear ih hl hc hm hcn hz h0 hcn2
    go_enter Tryd.func28, Tryd.ntmps28
    go_wp2_with fail
    go_ret
    exact ⟨rfl, (Below.refl _ _).alloc (Nat.le_refl _) _⟩
  · obtain ⟨q, hq⟩ : ∃ q : Nat, q = m / 10 := ⟨_, rfl⟩
    obtain ⟨y, hy⟩ : ∃ y : Int, y = -(q : Int) := ⟨_, rfl⟩
    obtain ⟨c, hc⟩ : ∃ c : UInt8, c = UInt8.ofNat (48 + m % 10) := ⟨_, rfl⟩
    obtain ⟨r, hr⟩ : ∃ r : Int, r = -((m % 10 : Nat) : Int) := ⟨_, rfl⟩
    have ih' := ih q (by omega) (by omega) (by omega)
    rw [← hy] at ih'
    have IH := Lib.hid ih'
    have e0 : z.tdiv 10 = y := by rw [hz, hy, hq, Int.neg_tdiv, Int.tdiv_eq_ediv_of_nonneg (by omega)]; omega
    have e1 : z.tmod 10 = r := by rw [hz, hr, Int.neg_tmod, Int.tmod_eq_emod_of_nonneg (by omega)]; omega
    obtain ⟨cn, hcn⟩ : ∃ cn, c.toNat = cn := ⟨_, rfl⟩
    have hcn2 : cn = 48 + m % 10 := by rw [← hcn, hc, dig_toNat (m % 10) (by omega)]
    have e2 : (48 : Int) - r = (cn : Int) := by omega
    have hc256 : IntKind.u8.wrap (cn : Int) = (cn : Int) := by rw [IntKind.wrap_u8]; omega
    have ew2 : IntKind.i64.wrap (cn : Int) = (cn : Int) := by rw [IntKind.wrap_i64]; omega
    have ew : IntKind.i64.wrap y = y := by rw [IntKind.wrap_i64]; omega
    have ew3 : IntKind.i64.wrap r = r := by rw [IntKind.wrap_i64]; omega
    have hl := digs_hi m (by omega)
    rw [← hc, ← hq] at hl
    have HT := Lib.hid (fun w => text_one w c cn hcn)
    have hadd := add_str (P := Tryd.prog) (45 :: digs q) [c] (by have := digs_length 19 q (by omega) (by omega); simp; omega)
    rw [show (45 :: digs q) ++ [c] = 45 :: digs m from by rw [hl]; rfl] at hadd
    have hd : decide (-10 < z) = false := decide_eq_false (by omega)
    clear ih ih' hl hc hr hq hm hcn hcn2 hy hz h0
    go_enter Tryd.func28, Tryd.ntmps28
    go_wp2_with fail
    refine wp_region_held_drew (S := fun w' => Below w.heap.size w w') (by kernel_rfl) (below_draws (Below.refl _ _) 1) (fun hHeld => ?_)
    refine take_at (i := 0) 17 rfl rfl (by kernel_rfl) (by kernel_rfl) (by kernel_rfl) (fun _ _ _ h => h) (sure_yes (by rfl) (fun w => by go_simp; try with_reducible rfl)) (by assumption) ?_
    simp only [List.setIfInBounds_toArray, List.set_cons_zero, List.set_cons_succ]
    refine take_at (i := 1) 18 rfl rfl (by kernel_rfl) (by kernel_rfl) (by kernel_rfl) (fun _ _ _ h => h) (sure_yes (by rfl) (fun w => by go_simp; try with_reducible rfl)) (by assumption) ?_
    simp only [List.setIfInBounds_toArray, List.set_cons_zero, List.set_cons_succ]
    refine take_at (i := 3) 20 rfl rfl (by kernel_rfl) (by kernel_rfl) (by kernel_rfl) (fun _ _ _ h => h) (sure_yes (by rfl) (fun w => by go_simp; try with_reducible rfl)) (by assumption) ?_
    simp only [List.setIfInBounds_toArray, List.set_cons_zero, List.set_cons_succ]
    refine take_at (i := 4) 21 rfl rfl (by kernel_rfl) (by kernel_rfl) (by kernel_rfl) (fun _ _ _ h => h) (sure_yes (by rfl) (fun w => by go_simp; try with_reducible rfl)) (by assumption) ?_
    simp only [List.setIfInBounds_toArray, List.set_cons_zero, List.set_cons_succ]
    refine take_at (i := 5) 22 rfl rfl (by kernel_rfl) (by kernel_rfl) (by kernel_rfl) (fun _ _ _ h => h) (sure_yes (by rfl) (fun w => by go_simp; try with_reducible rfl)) (by assumption) ?_
    simp only [List.setIfInBounds_toArray, List.set_cons_zero, List.set_cons_succ]
    refine take_at (i := 6) 23 rfl rfl (by kernel_rfl) (by kernel_rfl) (by kernel_rfl) (fun _ _ _ h => h) (sure_yes (by rfl) (fun w => by go_simp; try with_reducible rfl)) (by assumption) ?_
    simp only [List.setIfInBounds_toArray, List.set_cons_zero, List.set_cons_succ]
    refine wpAnyH_ready (rs := [2, 7]) (by kernel_rfl) (by simp) ?_
    refine AllReadyH.cons rfl (fun K hK => ?_) (AllReadyH.cons rfl (fun K hK => ?_) AllReadyH.nil)
    · go_simp
      go_at_call 28
      refine (IH.out _).mono ?_
      rintro e w1 ⟨rfl, hb1⟩
      go_wp2_with fail
      refine hK.out _ _ (below_next (below_draws (Below.refl _ _) 1) hb1) (fun hS1 => ?_)
      clear hK K
      refine wpAnyH_ready (rs := [7]) (by kernel_rfl) (by simp) ?_
      refine AllReadyH.cons rfl (fun K hK => ?_) AllReadyH.nil
      go_simp
      refine hK.out _ _ (hS1.alloc hS1.size _) (fun hS2 => ?_)
      clear hK K
      refine wpAnyH_ready (rs := [8]) (by kernel_rfl) (by simp) ?_
      refine AllReadyH.cons rfl (fun K hK => ?_) AllReadyH.nil
      refine conv_step 25 rfl (by rfl) 58 9 5 (.tmp 24) _ rfl rfl Tryd.underlying58 Tryd.underlying5 Tryd.underlying9 [c] (HT.out w1) ?_
      refine hK.out _ _ (by assumption) (fun _ => ?_)
      clear hK K
      simp only [List.setIfInBounds_toArray, List.set_cons_zero, List.set_cons_succ]
      refine take_at (i := 9) 26 rfl rfl (by kernel_rfl) (by kernel_rfl) (by kernel_rfl) (fun _ _ _ h => h) (sure_yes (by rfl) (fun w => by go_simp; try with_reducible rfl)) (by assumption) ?_
      simp only [List.setIfInBounds_toArray, List.set_cons_zero, List.set_cons_succ]
      refine take_at (i := 10) 2 rfl rfl (by kernel_rfl) (by kernel_rfl) (by kernel_rfl) (fun _ _ _ h => h) (sure_yes (by rfl) (fun w => by go_simp; try with_reducible rfl)) (by assumption) ?_
      simp only [List.setIfInBounds_toArray, List.set_cons_zero, List.set_cons_succ]
      refine wpAnyH_done (by kernel_rfl) ?_ _
      go_wp2
      go_ret
      exact ⟨rfl, by assumption⟩
    · go_simp
      refine hK.out _ _ ((below_draws (Below.refl _ _) 1).alloc (Nat.le_refl _) _) (fun hS2 => ?_)
      clear hK K
      refine wpAnyH_ready (rs := [2, 8]) (by kernel_rfl) (by simp) ?_
      refine AllReadyH.cons rfl (fun K hK => ?_) (AllReadyH.cons rfl (fun K hK => ?_) AllReadyH.nil)
      · go_simp
        go_at_call 28
        refine (IH.out _).mono ?_
        rintro e w1 ⟨rfl, hb1⟩
        go_wp2_with fail
        refine hK.out _ _ (below_next hS2 hb1) (fun hS1 => ?_)
        clear hK K
        refine wpAnyH_ready (rs := [8]) (by kernel_rfl) (by simp) ?_
        refine AllReadyH.cons rfl (fun K hK => ?_) AllReadyH.nil
        refine conv_step 25 rfl (by rfl) 58 9 5 (.tmp 24) _ rfl rfl Tryd.underlying58 Tryd.underlying5 Tryd.underlying9 [c] (has_below (w := (w.alloc _).drew) (HT.out w) hb1) ?_
        refine hK.out _ _ (by assumption) (fun _ => ?_)
        clear hK K
        simp only [List.setIfInBounds_toArray, List.set_cons_zero, List.set_cons_succ]
        refine take_at (i := 9) 26 rfl rfl (by kernel_rfl) (by kernel_rfl) (by kernel_rfl) (fun _ _ _ h => h) (sure_yes (by rfl) (fun w => by go_simp; try with_reducible rfl)) (by assumption) ?_
        simp only [List.setIfInBounds_toArray, List.set_cons_zero, List.set_cons_succ]
        refine take_at (i := 10) 2 rfl rfl (by kernel_rfl) (by kernel_rfl) (by kernel_rfl) (fun _ _ _ h => h) (sure_yes (by rfl) (fun w => by go_simp; try with_reducible rfl)) (by assumption) ?_
        simp only [List.setIfInBounds_toArray, List.set_cons_zero, List.set_cons_succ]
        refine wpAnyH_done (by kernel_rfl) ?_ _
        go_wp2
        go_ret
        exact ⟨rfl, by assumption⟩
      · refine conv_step 25 rfl (by rfl) 58 9 5 (.tmp 24) _ rfl rfl Tryd.underlying58 Tryd.underlying5 Tryd.underlying9 [c] (HT.out w) ?_
        refine hK.out _ _ (by assumption) (fun _ => ?_)
        clear hK K
        simp only [List.setIfInBounds_toArray, List.set_cons_zero, List.set_cons_succ]
        refine wpAnyH_ready (rs := [2]) (by kernel_rfl) (by simp) ?_
        refine AllReadyH.cons rfl (fun K hK => ?_) AllReadyH.nil
        go_simp
        go_at_call 28
        refine (IH.out _).mono ?_
        rintro e w1 ⟨rfl, hb1⟩
        go_wp2_with fail
        refine hK.out _ _ (below_next hS2 hb1) (fun hS1 => ?_)
        clear hK K
        refine take_at (i := 9) 26 rfl rfl (by kernel_rfl) (by kernel_rfl) (by kernel_rfl) (fun _ _ _ h => h) (sure_yes (by rfl) (fun w => by go_simp; try with_reducible rfl)) (by assumption) ?_
        simp only [List.setIfInBounds_toArray, List.set_cons_zero, List.set_cons_succ]
        refine take_at (i := 10) 2 rfl rfl (by kernel_rfl) (by kernel_rfl) (by kernel_rfl) (fun _ _ _ h => h) (sure_yes (by rfl) (fun w => by go_simp; try with_reducible rfl)) (by assumption) ?_
        simp only [List.setIfInBounds_toArray, List.set_cons_zero, List.set_cons_succ]
        refine wpAnyH_done (by kernel_rfl) ?_ _
        go_wp2
        go_ret
        exact ⟨rfl, by assumption⟩
theorem refNumber_any (n : Int) (h1 : -9223372036854775808 ≤ n) (h2 : n < 9223372036854775808) (w : World) : Calls Tryd.prog 28 #[.int .i64 n] w fun e w' => e = .returned (.string (str (numL n))) ∧ Below w.heap.size w w' := by
  by_cases h : n < 0
  · obtain ⟨m, hm⟩ : ∃ m : Nat, n = -(m : Int) := ⟨n.natAbs, by omega⟩
    subst hm
    rw [numL_neg m (by omega)]
    exact refNumber_neg m (by omega) (by omega) w
  · obtain ⟨m, rfl⟩ : ∃ m : Nat, n = (m : Int) := ⟨n.natAbs, by omega⟩
    rw [numL_nonneg m]
    exact refNumber_pos m (by omega) w
end Go.Proofs.YtfechljjkblkhaaDoor
