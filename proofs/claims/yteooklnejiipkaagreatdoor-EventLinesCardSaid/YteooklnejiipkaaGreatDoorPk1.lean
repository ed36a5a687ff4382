/-
Texts that all claims of this seat share, part 1: Ref04, Ref04Num, VecText, VecMore, HexaFace, Event, Texts, Dots, Ref04Read.
-/
import Derived.Test.YteooklnejiipkaaGreatDoorProg
import Derived.StillTailTactics
import Derived.WalkKit
import Derived.Lib.Hide
import Derived.Deep.RegionWith
import Derived.WalkLawsBesides
import Derived.Lib.ItoaNum
import Derived.Lib.LaidTab
import Derived.Lib.Split
import Derived.Lib.IndexBytes
import Derived.Lib.IndexLaws
import Derived.Laws.AppendOwn
import Derived.Test.YteooklnejiipkaaGreatDoorPk0
namespace Go.Proofs.YteooklnejiipkaaGreatDoor
open Go.RowKit
theorem infoByte : (Tryz.prog.info? 5).map (fun i => (i.zero, i.size, i.bytes)) = some (some (.int .u8 0), 1, 1) := by kernel_rfl
theorem refFigure_any (n : Nat) (h : n < 16) (w : World) : Calls Tryz.prog 66 #[.int .u8 (n : Int)] w fun e w' => e = .returned (.int .u8 (figN n : Int)) ∧ w = w' := by
  have hn : (n : Int) < 16 := by omega
  by_cases h1 : n < 10
  · have e1 : (48 : Int) + (n : Int) = (figN n : Int) := by unfold figN; rw [if_pos h1]; omega
    have e2 : (figN n : Int) < 256 := by omega
    have hd : decide ((n : Int) < 10) = true := decide_eq_true (by omega)
    go_enter Tryz.func66, Tryz.ntmps66
    go_wp2
    go_ret
    exact ⟨rfl, rfl⟩
  · have e1 : (87 : Int) + (n : Int) = (figN n : Int) := by unfold figN; rw [if_neg h1]; omega
    have e2 : (figN n : Int) < 256 := by omega
    have hd : decide ((n : Int) < 10) = false := decide_eq_false (by omega)
    go_enter Tryz.func66, Tryz.ntmps66
    go_wp2
    go_ret
    exact ⟨rfl, rfl⟩
/-- What value answers. -/
def figI (c : UInt8) : Int := match fig c with | some n => n | none => -1
set_option maxRecDepth 100000 in
set_option maxHeartbeats 1000000 in
theorem refValue_any (c : UInt8) (w : World) : Calls Tryz.prog 73 #[.int .u8 (c.toNat : Int)] w fun e w' => e = .returned (.int .i64 (figI c)) ∧ w = w' := by
  have hc := UInt8.toNat_lt c
  go_enter Tryz.func73, Tryz.ntmps73
  go_wp2
  go_loopw [3] (fun v wr => wr = w ∧ ∃ k : Nat, k ≤ 16 ∧ v = .int .i64 k ∧ ∀ j, j < k → c.toNat ≠ figN j) (fun v _ => 16 - (intOf v).toNat)
  case atStart => exact ⟨rfl, 0, by omega, rfl, fun j hj => by omega⟩
  case round =>
    obtain ⟨rfl, k, hk, rfl, hall⟩ := hrel
    have HA := Lib.hid hall
    clear hall
    by_cases h16 : k < 16
    · have q0 : (k : Int) < 16 := by omega
      by_cases he : c.toNat = figN k
      · have hb : ((figN k : Int) == (c.toNat : Int)) = true := by simp; omega
        have HF := Lib.hid (show figI c = (k : Int) by unfold figI; rw [fig_of_eq h16 he])
        clear he
        go_wp2_with (first | (go_at_call 66; refine (refFigure_any k h16 _).mono ?_; rintro e w' ⟨rfl, rfl⟩))
        go_ret
        exact ⟨by rw [HF.out]; rfl, rfl⟩
      · have hb : ((figN k : Int) == (c.toNat : Int)) = false := by simp; omega
        have HE := Lib.hid he
        clear he
        go_wp2_with (first | (go_at_call 66; refine (refFigure_any k h16 _).mono ?_; rintro e w' ⟨rfl, rfl⟩))
        go_roundw
        case rel => exact ⟨trivial, k + 1, by omega, by go_num, fun j hj => by
          rcases Nat.lt_or_ge j k with h | h
          · exact HA.out j h
          · obtain rfl : j = k := by omega
            exact HE.out⟩
        case measure => simp [intOf]; omega
    · obtain rfl : k = 16 := by omega
      have HF := Lib.hid (show figI c = -1 by
        unfold figI
        cases h : fig c with
        | none => rfl
        | some n => obtain ⟨h1, h2⟩ := fig_some h; exact absurd h2 (HA.out n h1))
      go_wp2
      go_ret
      exact ⟨by rw [HF.out]; rfl, rfl⟩
set_option maxRecDepth 100000 in
set_option maxHeartbeats 2000000 in
theorem refText_any (f : Nat → BitVec 32) (hf : ∀ i, u32 (f i) < 256) (w : World) : Calls Tryz.prog 41 #[.agg (row .u8 32 f)] w fun e w' => e = .returned (.string (str (textF f))) ∧ Below w.heap.size w w' := by
  obtain ⟨i0, hi, hz0, hz1, hz2⟩ := info_parts infoByte
  have HD := Lib.hid (heap_last w (.cells (row .u8 32 f) 27 (0, 0)))
  have HB := Lib.hid ((Below.refl w.heap.size w).alloc (Nat.le_refl _) (.cells (row .u8 32 f) 27 (0, 0)))
  go_enter Tryz.func41, Tryz.ntmps41
  go_wp2
  go_loopw [3, 4] (fun v c wr => ∃ k : Nat, k ≤ 32 ∧ c = .int .i64 k ∧ (∃ ao cap, v = .slice ao (2 * k) cap) ∧ wr.ownsRow (w.heap.size + 1) 5 1 v ((textTo f k).map w8).length (bytesL ((textTo f k).map w8)) ∧ wr.heap[w.heap.size]? = some (.cells (row .u8 32 f) 27 (0, 0)) ∧ w.heap.size < wr.heap.size ∧ Below w.heap.size w wr) (fun _ c _ => 32 - (intOf c).toNat)
  case atStart => exact ⟨0, by omega, rfl, ⟨_, _, rfl⟩, ⟨rfl, .inl ⟨rfl, rfl⟩⟩, HD.out, by simp, HB.out⟩
  case round =>
    clear HD HB
    obtain ⟨k, hk, rfl, ⟨ao, cap, rfl⟩, hown, hd, hs, hb⟩ := hrel
    have HO := Lib.hid hown
    have HD := Lib.hid hd
    have HB := Lib.hid hb
    by_cases h32 : k < 32
    · have q0 : (k : Int) < 32 := by omega
      obtain ⟨x, hx⟩ : ∃ x : Nat, x = (f k).toNat := ⟨_, rfl⟩
      have hx2 := hf k
      have c0 := (cell_of_row wr _ k _ _ _ hd).trans (row_get .u8 32 f k h32)
      rw [show Go.Proofs.YteooklnejiipkaaGreatDoor.u32 (f k) = (x : Int) from by rw [hx]; rfl] at c0 hx2
      obtain ⟨a, ha⟩ : ∃ a : Nat, a = x / 16 := ⟨_, rfl⟩
      obtain ⟨b, hb'⟩ : ∃ b : Nat, b = x % 16 := ⟨_, rfl⟩
      have e1 : (x : Int) / 16 = (a : Int) := by omega
      have e2 : (x : Int).tmod 16 = (b : Int) := by rw [Int.tmod_eq_emod_of_nonneg (by omega)]; omega
      have ew : IntKind.u8.wrap (a : Int) = (a : Int) := by rw [IntKind.wrap_u8]; omega
      have ha16 : a < 16 := by omega
      have hb16 : b < 16 := by omega
      have HE := Lib.hid (show textTo f (k + 1) = textTo f k ++ [figure a, figure b] by rw [textTo_succ, ha, hb', hx])
      have HS := Lib.hid hs
      clear hown hd hb ha hb' hx hs
      -- TEXT-REGION
      have hN := has_new wr 5 (0, 0) ([figure a, figure b].map w8)
      rw [show (bytesL ([figure a, figure b].map w8)).toArray = #[.int .u8 (figN a : Int), .int .u8 (figN b : Int)] by rw [bytesL_map]; simp [figure_toNat a ha16, figure_toNat b hb16]] at hN
      have HN := Lib.hid hN
      clear hN
      go_wp2
      refine wp_region_held_drew (S := fun w' => w'.cell? ⟨w.heap.size, k, none⟩ = some (.int .u8 (x : Int))) (by kernel_rfl) c0 (fun hHeld => ?_)
      refine take_at (i := 0) 9 rfl rfl (by kernel_rfl) (by kernel_rfl) (by kernel_rfl) (fun _ _ _ h => h) (sure_yes (by rfl) (fun w => by go_simp; try with_reducible rfl)) (by assumption) ?_
      simp only [List.setIfInBounds_toArray, List.set_cons_zero, List.set_cons_succ]
      refine take_at (i := 1) 10 rfl rfl (by kernel_rfl) (by kernel_rfl) (by kernel_rfl) (fun _ _ _ h => h) (sure_yes (by rfl) (fun w => by go_simp; try with_reducible rfl)) (by assumption) ?_
      simp only [List.setIfInBounds_toArray, List.set_cons_zero, List.set_cons_succ]
      refine take_at (i := 2) 11 rfl rfl (by kernel_rfl) (by kernel_rfl) (by kernel_rfl) (fun _ _ _ h => h) (sure_yes (by rfl) (fun w => by go_simp; try with_reducible rfl)) (by assumption) ?_
      simp only [List.setIfInBounds_toArray, List.set_cons_zero, List.set_cons_succ]
      refine take_at (i := 6) 15 rfl rfl (by kernel_rfl) (by kernel_rfl) (by kernel_rfl) (fun _ _ _ h => h) (sure_yes (by rfl) (fun w => by go_simp; try with_reducible rfl)) (by assumption) ?_
      simp only [List.setIfInBounds_toArray, List.set_cons_zero, List.set_cons_succ]
      refine take_at (i := 7) 16 rfl rfl (by kernel_rfl) (by kernel_rfl) (by kernel_rfl) (fun _ _ _ h => h) (sure_yes (by rfl) (fun w => by go_simp; try with_reducible rfl)) (by assumption) ?_
      simp only [List.setIfInBounds_toArray, List.set_cons_zero, List.set_cons_succ]
      refine take_at (i := 3) 12 rfl rfl (by kernel_rfl) (by kernel_rfl) (by kernel_rfl) (fun _ _ _ h => h) (cell_yields (by rfl) 5 (.tmp 11) rfl w.heap.size k rfl .u8 x Tryz.underlying5 (fun _ h => h)) (by assumption) ?_
      simp only [List.setIfInBounds_toArray, List.set_cons_zero, List.set_cons_succ]
      refine take_at (i := 4) 13 rfl rfl (by kernel_rfl) (by kernel_rfl) (by kernel_rfl) (fun _ _ _ h => h) (sure_yes (by rfl) (fun w => by go_simp; try with_reducible rfl)) (by assumption) ?_
      simp only [List.setIfInBounds_toArray, List.set_cons_zero, List.set_cons_succ]
      refine take_at (i := 8) 17 rfl rfl (by kernel_rfl) (by kernel_rfl) (by kernel_rfl) (fun _ _ _ h => h) (cell_yields (by rfl) 5 (.tmp 16) rfl w.heap.size k rfl .u8 x Tryz.underlying5 (fun _ h => h)) (by assumption) ?_
      simp only [List.setIfInBounds_toArray, List.set_cons_zero, List.set_cons_succ]
      refine take_at (i := 9) 18 rfl rfl (by kernel_rfl) (by kernel_rfl) (by kernel_rfl) (fun _ _ _ h => h) (sure_yes (by rfl) (fun w => by go_simp; try with_reducible rfl)) (by assumption) ?_
      simp only [List.setIfInBounds_toArray, List.set_cons_zero, List.set_cons_succ]
      refine wpAnyH_ready (rs := [5]) (by kernel_rfl) (by simp) ?_
      refine AllReadyH.cons rfl (fun K hK => ?_) AllReadyH.nil
      go_simp
      go_at_call 66
      refine (refFigure_any a ha16 _).mono ?_
      rintro e w' ⟨rfl, rfl⟩
      go_wp2_with fail
      refine hK.out _ _ (by assumption) (fun _ => ?_)
      clear hK K
      refine wpAnyH_ready (rs := [10]) (by kernel_rfl) (by simp) ?_
      refine AllReadyH.cons rfl (fun K hK => ?_) AllReadyH.nil
      go_simp
      go_at_call 66
      refine (refFigure_any b hb16 _).mono ?_
      rintro e w' ⟨rfl, rfl⟩
      go_wp2_with fail
      refine hK.out _ _ (by assumption) (fun _ => ?_)
      clear hK K
      refine wpAnyH_ready (rs := [11]) (by kernel_rfl) (by simp) ?_
      refine AllReadyH.cons rfl (fun K hK => ?_) AllReadyH.nil
      go_simp
      refine hK.out _ _ (cell_alloc_drew c0 _) (fun hS1 => ?_)
      clear hK K
      refine wpAnyH_ready (rs := [12]) (by kernel_rfl) (by simp) ?_
      refine AllReadyH.cons rfl (fun K hK => ?_) AllReadyH.nil
      refine append_has_wp 21 rfl (by rfl) (.tmp 9) (.tmp 20) 85 rfl (w.heap.size + 1) 5 i0 Tryz.underlying85 hi hz0 hz1 hz2 (.slice ao (2 * k) cap) ((textTo f k).map w8) ([figure a, figure b].map w8) rfl (HO.out.alloc _) (.slice (some ⟨wr.heap.size, 0, none⟩) 2 2) rfl HN.out (by simp [textTo_length]; omega) (by simp; have := HS.out; omega) ?_
      intro v1 w1 ho1 hg1 hn1
      have hrow := fun k hk => (HO.out.lt k hk).1
      have hb1 : w1.heap[w.heap.size]? = wr.heap[w.heap.size]? := (hg1.block w.heap.size (by simp; have := HS.out; omega) (fun h => absurd (hrow _ h.symm) (by omega))).trans (by rw [show ((wr.alloc _).drew).heap[w.heap.size]? = (wr.alloc _).heap[w.heap.size]? from rfl, heap_at_alloc, if_neg (by have := HS.out; omega)])
      refine hK.out _ _ ((cell_same hb1 k).trans c0) (fun hS2 => ?_)
      clear hK K
      obtain ⟨ao1, cap1, rfl⟩ := own_slice ho1
      have HO1 := Lib.hid ho1
      have HD1 := Lib.hid (hb1.trans HD.out)
      have HB1 := Lib.hid (below_grown (below_draws (HB.out.alloc HB.out.size _) 1) hg1 (by simp; have := HS.out; omega) (fun k hk => Nat.le_of_succ_le (hrow k hk)))
      have HS1 := Lib.hid (show w.heap.size < w1.heap.size from Nat.lt_of_lt_of_le HS.out (Nat.le_trans (by simp) hg1.size))
      clear ho1 hg1 hn1 hrow hb1
      refine take_at (i := 13) 3 rfl rfl (by kernel_rfl) (by kernel_rfl) (by kernel_rfl) (fun _ _ _ h => h) (sure_yes (by rfl) (fun w => by go_simp; try with_reducible rfl)) (by assumption) ?_
      simp only [List.setIfInBounds_toArray, List.set_cons_zero, List.set_cons_succ]
      refine wpAnyH_done (by kernel_rfl) ?_ _
      clear HO HD HB HN HS c0 hS1 hS2
      go_wp2
      have h := HO1.out
      rw [← List.map_append, ← HE.out, show ((textTo f (k + 1)).map w8).length = (textTo f k).length + 2 from by simp [textTo_length]; omega] at h
      refine ⟨⟨k + 1, by omega, by go_num, ⟨ao1, cap1, by rw [textTo_length]; rfl⟩, ?_, HD1.out, HS1.out, HB1.out⟩, by simp [intOf]; omega⟩
      rw [show ((textTo f (k + 1)).map w8).length = (textTo f k).length + 2 from by simp [textTo_length]; omega]
      exact h
    · obtain rfl : k = 32 := by omega
      have hcv := conv_text Tryz.underlying85 Tryz.underlying5 Tryz.underlying9 (show HasText wr _ (textF f) from has_of_own hown)
      clear hown HO HD hd hf
      go_wp2
      go_ret
      exact ⟨rfl, hb⟩
end Go.Proofs.YteooklnejiipkaaGreatDoor
namespace Go.Proofs.YteooklnejiipkaaGreatDoor
open Go.RowKit
theorem numL_nonneg (m : Nat) : numL (m : Int) = digs m := by unfold numL; rw [if_neg (by omega)]; simp
theorem numL_neg (m : Nat) (h : 0 < m) : numL (-(m : Int)) = 45 :: digs m := by unfold numL; rw [if_pos (by omega)]; simp
theorem numL_length (n : Int) (h : -9223372036854775808 ≤ n) (h2 : n < 9223372036854775808) : (numL n).length ≤ 20 := by
  have := digs_length 19 n.natAbs (by omega) (by omega)
  unfold numL; split <;> simp <;> omega
/-- A slice of one byte that was just made, as a text. -/
theorem conv_one (w : World) (c : UInt8) (n : Nat) (hn : c.toNat = n) : (convert 85 9 (.slice (some ⟨w.heap.size, 0, none⟩) 1 1)).run Tryz.prog (w.alloc (.cells #[.int .u8 (n : Int)] 5)) = .ok (.string (str [c])) (w.alloc (.cells #[.int .u8 (n : Int)] 5)) := by
  subst hn
  have h := has_new w 5 (0, 0) ([c].map w8)
  rw [show (bytesL ([c].map w8)).toArray = #[.int .u8 (c.toNat : Int)] by rw [bytesL_map]; rfl] at h
  exact conv_text Tryz.underlying85 Tryz.underlying5 Tryz.underlying9 (l := [c]) h
theorem text_one (w : World) (c : UInt8) (n : Nat) (hn : c.toNat = n) : HasText (w.alloc (.cells #[.int .u8 (n : Int)] 5)) (.slice (some ⟨w.heap.size, 0, none⟩) 1 1) [c] := by
  subst hn
  have h := has_new w 5 (0, 0) ([c].map w8)
  rw [show (bytesL ([c].map w8)).toArray = #[.int .u8 (c.toNat : Int)] by rw [bytesL_map]; rfl] at h
  exact h
set_option maxRecDepth 100000 in
set_option maxHeartbeats 4000000 in
theorem refNumber_pos (m : Nat) (hm : m < 9223372036854775808) (w : World) : Calls Tryz.prog 42 #[.int .i64 (m : Int)] w fun e w' => e = .returned (.string (str (digs m))) ∧ Below w.heap.size w w' := by
  induction m using Nat.strongRecOn generalizing w with
  | _ m ih =>
  by_cases h10 : m < 10
  · obtain ⟨c, hc⟩ : ∃ c : UInt8, c = UInt8.ofNat (48 + m) := ⟨_, rfl⟩
    obtain ⟨cn, hcn⟩ : ∃ cn, c.toNat = cn := ⟨_, rfl⟩
    have e1 : (48 : Int) + (m : Int) = (cn : Int) := by rw [← hcn, hc, dig_toNat m h10]; omega
    have hl := digs_lo m h10
    rw [← hc] at hl
    have HL := Lib.hid hl
    have hc256 : IntKind.u8.wrap (cn : Int) = (cn : Int) := by have := UInt8.toNat_lt c; rw [IntKind.wrap_u8]; omega
    have q0 : (m : Int) < 10 := by omega
    have hcv := conv_one w c cn hcn
    clear ih hl hc hm hcn
    go_enter Tryz.func42, Tryz.ntmps42
    go_wp2_with fail
    go_ret
    exact ⟨by rw [HL.out]; rfl, (Below.refl _ _).alloc (Nat.le_refl _) _⟩
  · obtain ⟨q, hq⟩ : ∃ q : Nat, q = m / 10 := ⟨_, rfl⟩
    obtain ⟨c, hc⟩ : ∃ c : UInt8, c = UInt8.ofNat (48 + m % 10) := ⟨_, rfl⟩
    obtain ⟨r, hr⟩ : ∃ r : Nat, r = m % 10 := ⟨_, rfl⟩
    have IH := Lib.hid (ih q (by omega) (by omega))
    have e0 : (m : Int) / 10 = (q : Int) := by omega
    have e1 : (m : Int).tmod 10 = (r : Int) := by rw [Int.tmod_eq_emod_of_nonneg (by omega)]; omega
    obtain ⟨cn, hcn⟩ : ∃ cn, c.toNat = cn := ⟨_, rfl⟩
    have e2 : (48 : Int) + (r : Int) = (cn : Int) := by rw [← hcn, hc, dig_toNat (m % 10) (by omega)]; omega
    have hr10 : (r : Int) < 10 := by omega
    have hc256 : IntKind.u8.wrap (cn : Int) = (cn : Int) := by have := UInt8.toNat_lt c; rw [IntKind.wrap_u8]; omega
    have hl := digs_hi m (by omega)
    rw [← hc, ← hq] at hl
    have hd : decide ((m : Int) < 10) = false := decide_eq_false (by omega)
    have ew2 : IntKind.i64.wrap (cn : Int) = (cn : Int) := by have := UInt8.toNat_lt c; rw [IntKind.wrap_i64]; omega
    have ew : IntKind.i64.wrap (q : Int) = (q : Int) := by rw [IntKind.wrap_i64]; omega
    have HT := Lib.hid (fun w => text_one w c cn hcn)
    have hadd := add_str (P := Tryz.prog) (digs q) [c] (by have := digs_length 19 q (by omega) (by omega); simp; omega)
    rw [← hl] at hadd
    clear ih hl hc hr hq hm hcn
    go_enter Tryz.func42, Tryz.ntmps42
    go_wp2_with fail
    -- REGION7
    refine wp_region_held_drew (S := fun w' => Below w.heap.size w w') (by kernel_rfl) (below_draws (Below.refl _ _) 1) (fun hHeld => ?_)
    refine take_at (i := 0) 34 rfl rfl (by kernel_rfl) (by kernel_rfl) (by kernel_rfl) (fun _ _ _ h => h) (sure_yes (by rfl) (fun w => by go_simp; try with_reducible rfl)) (by assumption) ?_
    simp only [List.setIfInBounds_toArray, List.set_cons_zero, List.set_cons_succ]
    refine take_at (i := 1) 35 rfl rfl (by kernel_rfl) (by kernel_rfl) (by kernel_rfl) (fun _ _ _ h => h) (sure_yes (by rfl) (fun w => by go_simp; try with_reducible rfl)) (by assumption) ?_
    simp only [List.setIfInBounds_toArray, List.set_cons_zero, List.set_cons_succ]
    refine take_at (i := 3) 37 rfl rfl (by kernel_rfl) (by kernel_rfl) (by kernel_rfl) (fun _ _ _ h => h) (sure_yes (by rfl) (fun w => by go_simp; try with_reducible rfl)) (by assumption) ?_
    simp only [List.setIfInBounds_toArray, List.set_cons_zero, List.set_cons_succ]
    refine take_at (i := 4) 38 rfl rfl (by kernel_rfl) (by kernel_rfl) (by kernel_rfl) (fun _ _ _ h => h) (sure_yes (by rfl) (fun w => by go_simp; try with_reducible rfl)) (by assumption) ?_
    simp only [List.setIfInBounds_toArray, List.set_cons_zero, List.set_cons_succ]
    refine take_at (i := 5) 39 rfl rfl (by kernel_rfl) (by kernel_rfl) (by kernel_rfl) (fun _ _ _ h => h) (sure_yes (by rfl) (fun w => by go_simp; try with_reducible rfl)) (by assumption) ?_
    simp only [List.setIfInBounds_toArray, List.set_cons_zero, List.set_cons_succ]
    refine take_at (i := 6) 40 rfl rfl (by kernel_rfl) (by kernel_rfl) (by kernel_rfl) (fun _ _ _ h => h) (sure_yes (by rfl) (fun w => by go_simp; try with_reducible rfl)) (by assumption) ?_
    simp only [List.setIfInBounds_toArray, List.set_cons_zero, List.set_cons_succ]
    refine wpAnyH_ready (rs := [2, 7]) (by kernel_rfl) (by simp) ?_
    refine AllReadyH.cons rfl (fun K hK => ?_) (AllReadyH.cons rfl (fun K hK => ?_) AllReadyH.nil)
    · go_simp
      go_at_call 42
      refine (IH.out _).mono ?_
      rintro e w1 ⟨rfl, hb1⟩
      go_wp2_with fail
      refine hK.out _ _ (below_next (below_draws (Below.refl _ _) 1) hb1) (fun hS1 => ?_)
      clear hK K
      refine wpAnyH_ready (rs := [7]) (by kernel_rfl) (by simp) ?_
      refine AllReadyH.cons rfl (fun K hK => ?_) AllReadyH.nil
      go_simp
      refine hK.out _ _ (hS1.alloc hS1.size _) (fun hS2 => ?_)
      clear hK K
      refine wpAnyH_ready (rs := [8]) (by kernel_rfl) (by simp) ?_
      refine AllReadyH.cons rfl (fun K hK => ?_) AllReadyH.nil
      refine conv_step 42 rfl (by rfl) 85 9 5 (.tmp 41) _ rfl rfl Tryz.underlying85 Tryz.underlying5 Tryz.underlying9 [c] (HT.out w1) ?_
      refine hK.out _ _ (by assumption) (fun _ => ?_)
      clear hK K
      simp only [List.setIfInBounds_toArray, List.set_cons_zero, List.set_cons_succ]
      refine take_at (i := 9) 43 rfl rfl (by kernel_rfl) (by kernel_rfl) (by kernel_rfl) (fun _ _ _ h => h) (sure_yes (by rfl) (fun w => by go_simp; try with_reducible rfl)) (by assumption) ?_
      simp only [List.setIfInBounds_toArray, List.set_cons_zero, List.set_cons_succ]
      refine take_at (i := 10) 2 rfl rfl (by kernel_rfl) (by kernel_rfl) (by kernel_rfl) (fun _ _ _ h => h) (sure_yes (by rfl) (fun w => by go_simp; try with_reducible rfl)) (by assumption) ?_
      simp only [List.setIfInBounds_toArray, List.set_cons_zero, List.set_cons_succ]
      refine wpAnyH_done (by kernel_rfl) ?_ _
      go_wp2
      go_ret
      exact ⟨rfl, by assumption⟩
    · go_simp
      refine hK.out _ _ ((below_draws (Below.refl _ _) 1).alloc (Nat.le_refl _) _) (fun hS2 => ?_)
      clear hK K
      refine wpAnyH_ready (rs := [2, 8]) (by kernel_rfl) (by simp) ?_
      refine AllReadyH.cons rfl (fun K hK => ?_) (AllReadyH.cons rfl (fun K hK => ?_) AllReadyH.nil)
      · go_simp
        go_at_call 42
        refine (IH.out _).mono ?_
        rintro e w1 ⟨rfl, hb1⟩
        go_wp2_with fail
        refine hK.out _ _ (below_next hS2 hb1) (fun hS1 => ?_)
        clear hK K
        refine wpAnyH_ready (rs := [8]) (by kernel_rfl) (by simp) ?_
        refine AllReadyH.cons rfl (fun K hK => ?_) AllReadyH.nil
        refine conv_step 42 rfl (by rfl) 85 9 5 (.tmp 41) _ rfl rfl Tryz.underlying85 Tryz.underlying5 Tryz.underlying9 [c] (has_below (w := (w.alloc _).drew) (HT.out w) hb1) ?_
        refine hK.out _ _ (by assumption) (fun _ => ?_)
        clear hK K
        simp only [List.setIfInBounds_toArray, List.set_cons_zero, List.set_cons_succ]
        refine take_at (i := 9) 43 rfl rfl (by kernel_rfl) (by kernel_rfl) (by kernel_rfl) (fun _ _ _ h => h) (sure_yes (by rfl) (fun w => by go_simp; try with_reducible rfl)) (by assumption) ?_
        simp only [List.setIfInBounds_toArray, List.set_cons_zero, List.set_cons_succ]
        refine take_at (i := 10) 2 rfl rfl (by kernel_rfl) (by kernel_rfl) (by kernel_rfl) (fun _ _ _ h => h) (sure_yes (by rfl) (fun w => by go_simp; try with_reducible rfl)) (by assumption) ?_
        simp only [List.setIfInBounds_toArray, List.set_cons_zero, List.set_cons_succ]
        refine wpAnyH_done (by kernel_rfl) ?_ _
        go_wp2
        go_ret
        exact ⟨rfl, by assumption⟩
      · refine conv_step 42 rfl (by rfl) 85 9 5 (.tmp 41) _ rfl rfl Tryz.underlying85 Tryz.underlying5 Tryz.underlying9 [c] (HT.out w) ?_
        refine hK.out _ _ (by assumption) (fun _ => ?_)
        clear hK K
        simp only [List.setIfInBounds_toArray, List.set_cons_zero, List.set_cons_succ]
        refine wpAnyH_ready (rs := [2]) (by kernel_rfl) (by simp) ?_
        refine AllReadyH.cons rfl (fun K hK => ?_) AllReadyH.nil
        go_simp
        go_at_call 42
        refine (IH.out _).mono ?_
        rintro e w1 ⟨rfl, hb1⟩
        go_wp2_with fail
        refine hK.out _ _ (below_next hS2 hb1) (fun hS1 => ?_)
        clear hK K
        refine take_at (i := 9) 43 rfl rfl (by kernel_rfl) (by kernel_rfl) (by kernel_rfl) (fun _ _ _ h => h) (sure_yes (by rfl) (fun w => by go_simp; try with_reducible rfl)) (by assumption) ?_
        simp only [List.setIfInBounds_toArray, List.set_cons_zero, List.set_cons_succ]
        refine take_at (i := 10) 2 rfl rfl (by kernel_rfl) (by kernel_rfl) (by kernel_rfl) (fun _ _ _ h => h) (sure_yes (by rfl) (fun w => by go_simp; try with_reducible rfl)) (by assumption) ?_
        simp only [List.setIfInBounds_toArray, List.set_cons_zero, List.set_cons_succ]
        refine wpAnyH_done (by kernel_rfl) ?_ _
        go_wp2
        go_ret
        exact ⟨rfl, by assumption⟩
set_option maxRecDepth 100000 in
set_option maxHeartbeats 4000000 in
theorem refNumber_neg (m : Nat) (h0 : 0 < m) (hm : m ≤ 9223372036854775808) (w : World) : Calls Tryz.prog 42 #[.int .i64 (-(m : Int))] w fun e w' => e = .returned (.string (str (45 :: digs m))) ∧ Below w.heap.size w w' := by
  induction m using Nat.strongRecOn generalizing w with
  | _ m ih =>
  obtain ⟨z, hz⟩ : ∃ z : Int, z = -(m : Int) := ⟨_, rfl⟩
  rw [← hz]
  have hneg : decide (z < 0) = true := decide_eq_true (by omega)
  by_cases h10 : m < 10
  · obtain ⟨c, hc⟩ : ∃ c : UInt8, c = UInt8.ofNat (48 + m) := ⟨_, rfl⟩
    obtain ⟨cn, hcn⟩ : ∃ cn, c.toNat = cn := ⟨_, rfl⟩
    have hcn2 : cn = 48 + m := by rw [← hcn, hc, dig_toNat m h10]
    have e1 : (48 : Int) - z = (cn : Int) := by omega
    have hl := digs_lo m h10
    rw [← hc] at hl
    have hadd := add_str (P := Tryz.prog) [45] [c] (by simp)
    rw [show [45] ++ [c] = 45 :: digs m from by rw [hl]; rfl] at hadd
    have hc256 : IntKind.u8.wrap (cn : Int) = (cn : Int) := by rw [IntKind.wrap_u8]; omega
    have ew2 : IntKind.i64.wrap (cn : Int) = (cn : Int) := by rw [IntKind.wrap_i64]; omega
    have q0 : decide (-10 < z) = true := decide_eq_true (by omega)
    have hcv := conv_one w c cn hcn
    have h45 : (ByteArray.mk #[45]) = str [45] := rfl
    clear ih hl hc hm hcn hz h0 hcn2
    go_enter Tryz.func42, Tryz.ntmps42
    go_wp2_with fail
    go_ret
    exact ⟨rfl, (Below.refl _ _).alloc (Nat.le_refl _) _⟩
  · obtain ⟨q, hq⟩ : ∃ q : Nat, q = m / 10 := ⟨_, rfl⟩
    obtain ⟨y, hy⟩ : ∃ y : Int, y = -(q : Int) := ⟨_, rfl⟩
    obtain ⟨c, hc⟩ : ∃ c : UInt8, c = UInt8.ofNat (48 + m % 10) := ⟨_, rfl⟩
    obtain ⟨r, hr⟩ : ∃ r : Int, r = -((m % 10 : Nat) : Int) := ⟨_, rfl⟩
    have ih' := ih q (by omega) (by omega) (by omega)
    rw [← hy] at ih'
    have IH := Lib.hid ih'
    have e0 : z.tdiv 10 = y := by rw [hz, hy, hq, Int.neg_tdiv, Int.tdiv_eq_ediv_of_nonneg (by omega)]; omega
    have e1 : z.tmod 10 = r := by rw [hz, hr, Int.neg_tmod, Int.tmod_eq_emod_of_nonneg (by omega)]; omega
    obtain ⟨cn, hcn⟩ : ∃ cn, c.toNat = cn := ⟨_, rfl⟩
    have hcn2 : cn = 48 + m % 10 := by rw [← hcn, hc, dig_toNat (m % 10) (by omega)]
    have e2 : (48 : Int) - r = (cn : Int) := by omega
    have hc256 : IntKind.u8.wrap (cn : Int) = (cn : Int) := by rw [IntKind.wrap_u8]; omega
    have ew2 : IntKind.i64.wrap (cn : Int) = (cn : Int) := by rw [IntKind.wrap_i64]; omega
    have ew : IntKind.i64.wrap y = y := by rw [IntKind.wrap_i64]; omega
    have ew3 : IntKind.i64.wrap r = r := by rw [IntKind.wrap_i64]; omega
    have hl := digs_hi m (by omega)
    rw [← hc, ← hq] at hl
    have HT := Lib.hid (fun w => text_one w c cn hcn)
    have hadd := add_str (P := Tryz.prog) (45 :: digs q) [c] (by have := digs_length 19 q (by omega) (by omega); simp; omega)
    rw [show (45 :: digs q) ++ [c] = 45 :: digs m from by rw [hl]; rfl] at hadd
    have hd : decide (-10 < z) = false := decide_eq_false (by omega)
    clear ih ih' hl hc hr hq hm hcn hcn2 hy hz h0
    go_enter Tryz.func42, Tryz.ntmps42
    go_wp2_with fail
    refine wp_region_held_drew (S := fun w' => Below w.heap.size w w') (by kernel_rfl) (below_draws (Below.refl _ _) 1) (fun hHeld => ?_)
    refine take_at (i := 0) 17 rfl rfl (by kernel_rfl) (by kernel_rfl) (by kernel_rfl) (fun _ _ _ h => h) (sure_yes (by rfl) (fun w => by go_simp; try with_reducible rfl)) (by assumption) ?_
    simp only [List.setIfInBounds_toArray, List.set_cons_zero, List.set_cons_succ]
    refine take_at (i := 1) 18 rfl rfl (by kernel_rfl) (by kernel_rfl) (by kernel_rfl) (fun _ _ _ h => h) (sure_yes (by rfl) (fun w => by go_simp; try with_reducible rfl)) (by assumption) ?_
    simp only [List.setIfInBounds_toArray, List.set_cons_zero, List.set_cons_succ]
    refine take_at (i := 3) 20 rfl rfl (by kernel_rfl) (by kernel_rfl) (by kernel_rfl) (fun _ _ _ h => h) (sure_yes (by rfl) (fun w => by go_simp; try with_reducible rfl)) (by assumption) ?_
    simp only [List.setIfInBounds_toArray, List.set_cons_zero, List.set_cons_succ]
    refine take_at (i := 4) 21 rfl rfl (by kernel_rfl) (by kernel_rfl) (by kernel_rfl) (fun _ _ _ h => h) (sure_yes (by rfl) (fun w => by go_simp; try with_reducible rfl)) (by assumption) ?_
    simp only [List.setIfInBounds_toArray, List.set_cons_zero, List.set_cons_succ]
    refine take_at (i := 5) 22 rfl rfl (by kernel_rfl) (by kernel_rfl) (by kernel_rfl) (fun _ _ _ h => h) (sure_yes (by rfl) (fun w => by go_simp; try with_reducible rfl)) (by assumption) ?_
    simp only [List.setIfInBounds_toArray, List.set_cons_zero, List.set_cons_succ]
    refine take_at (i := 6) 23 rfl rfl (by kernel_rfl) (by kernel_rfl) (by kernel_rfl) (fun _ _ _ h => h) (sure_yes (by rfl) (fun w => by go_simp; try with_reducible rfl)) (by assumption) ?_
    simp only [List.setIfInBounds_toArray, List.set_cons_zero, List.set_cons_succ]
    refine wpAnyH_ready (rs := [2, 7]) (by kernel_rfl) (by simp) ?_
    refine AllReadyH.cons rfl (fun K hK => ?_) (AllReadyH.cons rfl (fun K hK => ?_) AllReadyH.nil)
    · go_simp
      go_at_call 42
      refine (IH.out _).mono ?_
      rintro e w1 ⟨rfl, hb1⟩
      go_wp2_with fail
      refine hK.out _ _ (below_next (below_draws (Below.refl _ _) 1) hb1) (fun hS1 => ?_)
      clear hK K
      refine wpAnyH_ready (rs := [7]) (by kernel_rfl) (by simp) ?_
      refine AllReadyH.cons rfl (fun K hK => ?_) AllReadyH.nil
      go_simp
      refine hK.out _ _ (hS1.alloc hS1.size _) (fun hS2 => ?_)
      clear hK K
      refine wpAnyH_ready (rs := [8]) (by kernel_rfl) (by simp) ?_
      refine AllReadyH.cons rfl (fun K hK => ?_) AllReadyH.nil
      refine conv_step 25 rfl (by rfl) 85 9 5 (.tmp 24) _ rfl rfl Tryz.underlying85 Tryz.underlying5 Tryz.underlying9 [c] (HT.out w1) ?_
      refine hK.out _ _ (by assumption) (fun _ => ?_)
      clear hK K
      simp only [List.setIfInBounds_toArray, List.set_cons_zero, List.set_cons_succ]
      refine take_at (i := 9) 26 rfl rfl (by kernel_rfl) (by kernel_rfl) (by kernel_rfl) (fun _ _ _ h => h) (sure_yes (by rfl) (fun w => by go_simp; try with_reducible rfl)) (by assumption) ?_
      simp only [List.setIfInBounds_toArray, List.set_cons_zero, List.set_cons_succ]
      refine take_at (i := 10) 2 rfl rfl (by kernel_rfl) (by kernel_rfl) (by kernel_rfl) (fun _ _ _ h => h) (sure_yes (by rfl) (fun w => by go_simp; try with_reducible rfl)) (by assumption) ?_
      simp only [List.setIfInBounds_toArray, List.set_cons_zero, List.set_cons_succ]
      refine wpAnyH_done (by kernel_rfl) ?_ _
      go_wp2
      go_ret
      exact ⟨rfl, by assumption⟩
    · go_simp
      refine hK.out _ _ ((below_draws (Below.refl _ _) 1).alloc (Nat.le_refl _) _) (fun hS2 => ?_)
      clear hK K
      refine wpAnyH_ready (rs := [2, 8]) (by kernel_rfl) (by simp) ?_
      refine AllReadyH.cons rfl (fun K hK => ?_) (AllReadyH.cons rfl (fun K hK => ?_) AllReadyH.nil)
      · go_simp
        go_at_call 42
        refine (IH.out _).mono ?_
        rintro e w1 ⟨rfl, hb1⟩
        go_wp2_with fail
        refine hK.out _ _ (below_next hS2 hb1) (fun hS1 => ?_)
        clear hK K
        refine wpAnyH_ready (rs := [8]) (by kernel_rfl) (by simp) ?_
        refine AllReadyH.cons rfl (fun K hK => ?_) AllReadyH.nil
        refine conv_step 25 rfl (by rfl) 85 9 5 (.tmp 24) _ rfl rfl Tryz.underlying85 Tryz.underlying5 Tryz.underlying9 [c] (has_below (w := (w.alloc _).drew) (HT.out w) hb1) ?_
        refine hK.out _ _ (by assumption) (fun _ => ?_)
        clear hK K
        simp only [List.setIfInBounds_toArray, List.set_cons_zero, List.set_cons_succ]
        refine take_at (i := 9) 26 rfl rfl (by kernel_rfl) (by kernel_rfl) (by kernel_rfl) (fun _ _ _ h => h) (sure_yes (by rfl) (fun w => by go_simp; try with_reducible rfl)) (by assumption) ?_
        simp only [List.setIfInBounds_toArray, List.set_cons_zero, List.set_cons_succ]
        refine take_at (i := 10) 2 rfl rfl (by kernel_rfl) (by kernel_rfl) (by kernel_rfl) (fun _ _ _ h => h) (sure_yes (by rfl) (fun w => by go_simp; try with_reducible rfl)) (by assumption) ?_
        simp only [List.setIfInBounds_toArray, List.set_cons_zero, List.set_cons_succ]
        refine wpAnyH_done (by kernel_rfl) ?_ _
        go_wp2
        go_ret
        exact ⟨rfl, by assumption⟩
      · refine conv_step 25 rfl (by rfl) 85 9 5 (.tmp 24) _ rfl rfl Tryz.underlying85 Tryz.underlying5 Tryz.underlying9 [c] (HT.out w) ?_
        refine hK.out _ _ (by assumption) (fun _ => ?_)
        clear hK K
        simp only [List.setIfInBounds_toArray, List.set_cons_zero, List.set_cons_succ]
        refine wpAnyH_ready (rs := [2]) (by kernel_rfl) (by simp) ?_
        refine AllReadyH.cons rfl (fun K hK => ?_) AllReadyH.nil
        go_simp
        go_at_call 42
        refine (IH.out _).mono ?_
        rintro e w1 ⟨rfl, hb1⟩
        go_wp2_with fail
        refine hK.out _ _ (below_next hS2 hb1) (fun hS1 => ?_)
        clear hK K
        refine take_at (i := 9) 26 rfl rfl (by kernel_rfl) (by kernel_rfl) (by kernel_rfl) (fun _ _ _ h => h) (sure_yes (by rfl) (fun w => by go_simp; try with_reducible rfl)) (by assumption) ?_
        simp only [List.setIfInBounds_toArray, List.set_cons_zero, List.set_cons_succ]
        refine take_at (i := 10) 2 rfl rfl (by kernel_rfl) (by kernel_rfl) (by kernel_rfl) (fun _ _ _ h => h) (sure_yes (by rfl) (fun w => by go_simp; try with_reducible rfl)) (by assumption) ?_
        simp only [List.setIfInBounds_toArray, List.set_cons_zero, List.set_cons_succ]
        refine wpAnyH_done (by kernel_rfl) ?_ _
        go_wp2
        go_ret
        exact ⟨rfl, by assumption⟩
theorem refNumber_any (n : Int) (h1 : -9223372036854775808 ≤ n) (h2 : n < 9223372036854775808) (w : World) : Calls Tryz.prog 42 #[.int .i64 n] w fun e w' => e = .returned (.string (str (numL n))) ∧ Below w.heap.size w w' := by
  by_cases h : n < 0
  · obtain ⟨m, hm⟩ : ∃ m : Nat, n = -(m : Int) := ⟨n.natAbs, by omega⟩
    subst hm
    rw [numL_neg m (by omega)]
    exact refNumber_neg m (by omega) (by omega) w
  · obtain ⟨m, rfl⟩ : ∃ m : Nat, n = (m : Int) := ⟨n.natAbs, by omega⟩
    rw [numL_nonneg m]
    exact refNumber_pos m (by omega) w
end Go.Proofs.YteooklnejiipkaaGreatDoor
namespace Go.Proofs.YteooklnejiipkaaGreatDoor
def dotT (d : D2) : List UInt8 := textD d.1 d.2
def dotOf (s : List UInt8) : D2 := (parR s, parQ s)
def textL (l : List D2) : List UInt8 := if l = [] then [45] else joinB 44 (l.map dotT)
def textV (l : List D2) : List UInt8 := textL (vecOf l)
def vecPs (s : List UInt8) : List (List UInt8) := if s = [45] then [] else piecesB 44 s
def dotsOf (s : List UInt8) : List D2 := (vecPs s).map dotOf
def isVecT (s : List UInt8) : Bool := (vecPs s).all (fun p => parErr p == 0) && textV (dotsOf s) == s
def parVErr (s : List UInt8) : Int := if isVecT s then 0 else 2
def parV (s : List UInt8) : List D2 := if isVecT s then dotsOf s else []
theorem num_not {c : UInt8} (h0 : isDig c = false) (h1 : c ≠ 45) (n : Int) : c ∉ numL n := fun h => by
  have hd : ∀ m, c ∉ digs m := fun m hm => by have := digs_dig m _ hm; rw [h0] at this; cases this
  unfold numL at h
  split at h
  · rcases List.mem_cons.1 h with h | h
    · exact h1 h
    · exact hd _ h
  · exact hd _ h
theorem dotT_not {c : UInt8} (h0 : isDig c = false) (h1 : c ≠ 45) (h2 : c ≠ 58) (d : D2) : c ∉ dotT d := fun h => by
  rw [dotT, textD] at h
  rcases List.mem_append.1 h with h | h
  · exact num_not h0 h1 _ h
  · rcases List.mem_cons.1 h with h | h
    · exact h2 h
    · exact num_not h0 h1 _ h
theorem comma_not (d : D2) : (44 : UInt8) ∉ dotT d := dotT_not (by decide) (by decide) (by decide) d
theorem colon_in (d : D2) : (58 : UInt8) ∈ dotT d := by rw [dotT, textD]; simp
theorem mem_joinB {c x : UInt8} {ps : List (List UInt8)} {p : List UInt8} (hp : p ∈ ps) (hx : x ∈ p) : x ∈ joinB c ps := by
  cases ps with
  | nil => cases hp
  | cons q t =>
    rw [joinB]
    rcases List.mem_cons.1 hp with rfl | hp
    · exact List.mem_append.2 (.inl hx)
    · exact List.mem_append.2 (.inr (List.mem_flatMap.2 ⟨p, hp, List.mem_cons_of_mem _ hx⟩))
theorem vecPs_text (l : List D2) : vecPs (textL l) = l.map dotT := by
  rw [textL]
  by_cases h : l = []
  · subst h; rfl
  · rw [if_neg h]
    obtain ⟨a, d, rfl⟩ := list_snoc l h
    have hne : joinB 44 ((a ++ [d]).map dotT) ≠ [45] := fun e => by
      have h1 : (58 : UInt8) ∈ joinB 44 ((a ++ [d]).map dotT) := mem_joinB (List.mem_map.2 ⟨d, by simp, rfl⟩) (colon_in d)
      rw [e] at h1; revert h1; decide
    rw [vecPs, if_neg hne, List.map_append, List.map_cons, List.map_nil, piecesB, cut_join _ _ (fun p hp => by obtain ⟨x, -, rfl⟩ := List.mem_map.1 hp; exact comma_not x) (comma_not d)]
theorem dotOf_dotT {d : D2} (h : mayT d = true) : dotOf (dotT d) = d ∧ parErr (dotT d) = 0 := by
  obtain ⟨h0, h1, h2⟩ := parse_text9 (r := d.1) (q := d.2) h
  exact ⟨by rw [dotOf, dotT, h1, h2], h0⟩
theorem map_dotOf {l : List D2} (h : ∀ d ∈ l, mayT d = true) : (l.map dotT).map dotOf = l := by
  rw [List.map_map]
  conv => rhs; rw [← List.map_id l]
  exact List.map_congr_left fun d hd => (dotOf_dotT (h d hd)).1
/-- A vector's text is parsed as it. -/
theorem parse_textV (l : List D2) : parVErr (textV l) = 0 ∧ parV (textV l) = vecOf l := by
  have h1 : vecPs (textV l) = (vecOf l).map dotT := vecPs_text _
  have h2 : dotsOf (textV l) = vecOf l := by rw [dotsOf, h1, map_dotOf (vecOf_may l)]
  have h3 : isVecT (textV l) = true := by
    rw [isVecT, Bool.and_eq_true, List.all_eq_true, beq_iff_eq, h1, h2]
    refine ⟨fun p hp => ?_, by rw [textV, vecOf_vecOf, textV]⟩
    obtain ⟨d, hd, rfl⟩ := List.mem_map.1 hp
    rw [(dotOf_dotT (vecOf_may l d hd)).2]; rfl
  rw [parVErr, parV, h3]; exact ⟨rfl, h2⟩
/-- What is parsed may be, and has the very text. -/
theorem text_parseV {s : List UInt8} (h : isVecT s = true) : mayV (parV s) = true ∧ textV (parV s) = s := by
  have h' := h
  rw [isVecT, Bool.and_eq_true, beq_iff_eq] at h'
  have hp : parV s = dotsOf s := by rw [parV, h]; rfl
  have h1 : vecPs s = (vecOf (dotsOf s)).map dotT := by
    conv => lhs; rw [← h'.2]
    exact vecPs_text _
  have h2 : dotsOf s = vecOf (dotsOf s) := by
    conv => lhs; rw [dotsOf, h1]
    exact map_dotOf (vecOf_may _)
  rw [hp]
  exact ⟨by rw [mayV, ← h2]; simp, h'.2⟩
theorem dotT_length {d : D2} (h : mayT d = true) : (dotT d).length ≤ 41 := by
  have hm := mayT_bd h
  have h1 := numL_length d.1 (by omega) (by omega)
  have h2 := numL_length d.2 (by omega) (by omega)
  rw [dotT, textD, List.length_append, List.length_cons]; omega
theorem textV_length (l : List D2) : (textV l).length ≤ 1344 := by
  rw [textV, textL]
  split
  · simp
  · have h1 := joinB_length 44 ((vecOf l).map dotT) 41 (fun p hp => by obtain ⟨d, hd, rfl⟩ := List.mem_map.1 hp; exact dotT_length (vecOf_may l d hd))
    have h2 := ofN_length (allV l) 32
    rw [List.length_map] at h1
    have h3 : (vecOf l).length ≤ 32 := h2
    omega
end Go.Proofs.YteooklnejiipkaaGreatDoor
namespace Go.Proofs.YteooklnejiipkaaGreatDoor
/-- Whether a dot may stand next behind others. -/
def fol (l : List D2) (d : D2) : Bool := mayT d && (l.isEmpty || decide ((l.getLastD (0, 0)).1 < d.1))
/-- Dots that may be, of rising replicas. -/
def Rising (l : List D2) : Prop := l.Pairwise (fun a b => a.1 < b.1) ∧ ∀ d ∈ l, mayT d = true
theorem rising_nil : Rising [] := ⟨List.Pairwise.nil, fun _ h => by cases h⟩
theorem rising_snoc (l : List D2) (d : D2) : Rising (l ++ [d]) ↔ Rising l ∧ fol l d = true := by
  unfold Rising fol
  rw [List.pairwise_append, Bool.and_eq_true, Bool.or_eq_true, decide_eq_true_eq]
  constructor
  · rintro ⟨⟨h1, -, h2⟩, h3⟩
    refine ⟨⟨h1, fun x hx => h3 x (List.mem_append.2 (.inl hx))⟩, h3 d (by simp), ?_⟩
    by_cases h : l = []
    · left; rw [h]; rfl
    · right
      obtain ⟨a, b, rfl⟩ := list_snoc l h
      rw [List.getLastD_concat]; exact h2 b (by simp) d (by simp)
  · rintro ⟨⟨h1, h2⟩, h3, h4⟩
    refine ⟨⟨h1, List.pairwise_singleton _ _, fun x hx y hy => ?_⟩, fun x hx => ?_⟩
    · rw [List.mem_singleton.1 hy]
      rcases h4 with h4 | h4
      · rw [List.isEmpty_iff.1 h4] at hx; cases hx
      · obtain ⟨a, b, rfl⟩ := list_snoc l (fun e => by rw [e] at hx; cases hx)
        rw [List.getLastD_concat] at h4
        rcases List.mem_append.1 hx with hx | hx
        · have := (List.pairwise_append.1 h1).2.2 x hx b (by simp); omega
        · rw [List.mem_singleton.1 hx]; exact h4
    · rcases List.mem_append.1 hx with hx | hx
      · exact h2 x hx
      · rw [List.mem_singleton.1 hx]; exact h3
theorem allV_none {l : List D2} {i : Nat} (h : ∀ d ∈ l, d.1 ≠ (i : Int)) : allV l i = 0 := by
  revert h
  refine snoc_ind (P := fun l => (∀ d ∈ l, d.1 ≠ (i : Int)) → allV l i = 0) (fun _ => rfl) ?_ l
  intro l a ih h
  rw [allV_snoc, ih (fun d hd => h d (List.mem_append.2 (.inl hd))), seen, if_neg (fun hh => h a (by simp) hh.2.1)]
theorem ofN_stay {n : Nat → Int} {k : Nat} : ∀ m, k ≤ m → (∀ i, k ≤ i → i < m → n i = 0) → ofN n m = ofN n k := by
  intro m
  induction m with
  | zero => intro h _; rw [show k = 0 by omega]
  | succ m ih =>
    intro h h0
    by_cases e : k = m + 1
    · rw [e]
    · rw [ofN, ih (by omega) (fun i h1 h2 => h0 i h1 (by omega)), h0 m (by omega) (by omega), if_neg (by omega), List.append_nil]
theorem rising_of {l : List D2} (h : Rising l) : ∀ N : Nat, (∀ d ∈ l, d.1 < (N : Int)) → ofN (allV l) N = l := by
  revert h
  refine snoc_ind (P := fun l => Rising l → ∀ N : Nat, (∀ d ∈ l, d.1 < (N : Int)) → ofN (allV l) N = l) ?_ ?_ l
  · intro _ N _
    exact ofN_stay (n := allV []) (k := 0) N (Nat.zero_le _) (fun i _ _ => rfl)
  · intro l d ih h N hN
    have hh := (rising_snoc l d).1 h
    have hm := mayT_bd (h.2 d (by simp))
    have hlt : ∀ x ∈ l, x.1 < d.1 := fun x hx => (List.pairwise_append.1 h.1).2.2 x hx d (by simp)
    obtain ⟨k, hk⟩ : ∃ k : Nat, d.1 = (k : Int) := ⟨d.1.toNat, by omega⟩
    have hkN : k < N := by have := hN d (by simp); omega
    have h0 : allV l k = 0 := allV_none fun x hx => by have := hlt x hx; omega
    have hbig : ∀ i, k + 1 ≤ i → i < N → allV (l ++ [d]) i = 0 := fun i h1 _ => allV_none fun x hx => by
      rcases List.mem_append.1 hx with hx | hx
      · have := hlt x hx; omega
      · rw [List.mem_singleton.1 hx]; omega
    have hd : allV (l ++ [d]) k = d.2 := by
      rw [allV_snoc, h0, seen, if_pos ⟨h.2 d (by simp), hk, by omega⟩]
    rw [ofN_stay (k := k + 1) N (by omega) hbig, ofN, hd, if_pos (by omega)]
    rw [ofN_congr (m := allV l) (fun i hi => by rw [allV_snoc, seen, if_neg (fun hh => by have := hh.2.1; omega)]), ih hh.1 k (fun x hx => by have := hlt x hx; omega), ← hk]
theorem ofN_rising {n : Nat → Int} (h : Cnt n) : ∀ k, k ≤ 32 → Rising (ofN n k) := by
  intro k
  induction k with
  | zero => intro _; exact rising_nil
  | succ k ih =>
    intro hk
    rw [ofN]
    by_cases hp : 0 < n k
    · rw [if_pos hp, rising_snoc]
      refine ⟨ih (by omega), ?_⟩
      have hc := h k (by omega)
      have hm : mayT ((k : Int), n k) = true := decide_eq_true (by simp only; omega)
      rw [fol, hm, Bool.true_and, Bool.or_eq_true, decide_eq_true_eq]
      by_cases e : ofN n k = []
      · left; rw [e]; rfl
      · right
        obtain ⟨a, b, hab⟩ := list_snoc _ e
        rw [hab, List.getLastD_concat]
        obtain ⟨i, h1, h2, -⟩ := ofN_mem (n := n) (k := k) (d := b) (by rw [hab]; simp)
        rw [h2]; simp only; omega
    · rw [if_neg hp, List.append_nil]; exact ih (by omega)
theorem mayV_rising (l : List D2) : mayV l = true ↔ Rising l := by
  rw [mayV, beq_iff_eq]
  constructor
  · intro h; rw [h]; exact ofN_rising (allV_cnt l) 32 (Nat.le_refl _)
  · intro h; exact (rising_of h 32 (fun d hd => by have := mayT_bd (h.2 d hd); omega)).symm
/-- A vector, dot by dot. -/
theorem mayV_take {l : List D2} {k : Nat} {d : D2} (hd : l[k]? = some d) : mayV (l.take (k + 1)) = (mayV (l.take k) && fol (l.take k) d) := by
  obtain ⟨h, rfl⟩ := List.getElem?_eq_some_iff.1 hd
  rw [List.take_add_one, List.getElem?_eq_getElem h, Bool.eq_iff_iff, Bool.and_eq_true, mayV_rising, mayV_rising]
  exact rising_snoc _ _
theorem mayV_ahead {l : List D2} {k : Nat} (h : mayV (l.take k) = false) : mayV l = false := by
  cases hh : mayV l with
  | false => rfl
  | true =>
    have h1 := (mayV_rising l).1 hh
    have : mayV (l.take k) = true := (mayV_rising _).2 ⟨h1.1.sublist (List.take_sublist k l), fun d hd => h1.2 d (List.mem_of_mem_take hd)⟩
    rw [h] at this; cases this
theorem mayV_nil : mayV [] = true := (mayV_rising []).2 rising_nil
theorem rising_length {l : List D2} (h : mayV l = true) : l.length ≤ 32 := by
  rw [mayV, beq_iff_eq] at h
  rw [h]; exact ofN_length _ 32
theorem rising_vec {l : List D2} (h : mayV l = true) : vecOf l = l := by
  rw [mayV, beq_iff_eq] at h; exact h.symm
/-- Pieces from the front. -/
theorem cut_from (c : UInt8) (r : List UInt8) : ∀ ps, r.foldl (cutStep c) (ps, []) = (ps ++ (cutS c r).1, (cutS c r).2) := by
  intro ps
  refine snoc_ind (P := fun r => r.foldl (cutStep c) (ps, []) = (ps ++ (cutS c r).1, (cutS c r).2)) (by simp [cutS]) ?_ r
  intro r b ih
  rw [List.foldl_append, ih, cutS_snoc, List.foldl_cons, List.foldl_nil, cutStep, cutStep]
  by_cases h : b = c
  · rw [if_pos h, if_pos h]; simp
  · rw [if_neg h, if_neg h]
theorem pieces_front {c : UInt8} {p r : List UInt8} (hp : c ∉ p) : piecesB c (p ++ c :: r) = p :: piecesB c r := by
  rw [piecesB, piecesB, cutS, List.foldl_append, cut_fold p _ hp, List.foldl_cons, cutStep, if_pos rfl, cut_from]
  simp
theorem pieces_last {c : UInt8} {p : List UInt8} (hp : c ∉ p) : piecesB c p = [p] := by
  rw [piecesB, cutS, cut_fold p _ hp]; simp
theorem pieces_length (c : UInt8) (s : List UInt8) : (piecesB c s).length ≤ s.length + 1 := by
  have := pieces_count c s
  rw [piecesB, List.length_append, List.length_singleton]; omega
theorem joinB_mem (c : UInt8) (ps : List (List UInt8)) (p : List UInt8) (h : p ∈ ps) : p.length ≤ (joinB c ps).length := by
  cases ps with
  | nil => cases h
  | cons q t =>
    rw [joinB, List.length_append]
    rcases List.mem_cons.1 h with rfl | h
    · omega
    · have : ∀ t : List (List UInt8), p ∈ t → p.length ≤ (t.flatMap fun q => c :: q).length := by
        intro t
        induction t with
        | nil => intro h; cases h
        | cons x t ih =>
          intro h
          rw [List.flatMap_cons, List.length_append, List.length_cons]
          rcases List.mem_cons.1 h with rfl | h
          · omega
          · have := ih h; omega
      have := this t h; omega
theorem piece_length {c : UInt8} {s p : List UInt8} (h : p ∈ piecesB c s) : p.length ≤ s.length := by
  have := joinB_mem c _ _ h
  rwa [join_cut] at this
/-- What is read piece by piece: the dots so far, as long as each one may follow. -/
def goodP (ps : List (List UInt8)) : Bool := ps.all (fun p => parErr p == 0) && mayV (ps.map dotOf)
theorem goodP_nil : goodP [] = true := by rw [goodP]; simp [mayV_nil]
theorem goodP_snoc (ps : List (List UInt8)) (p : List UInt8) : goodP (ps ++ [p]) = (goodP ps && (parErr p == 0 && fol (ps.map dotOf) (dotOf p))) := by
  have h : mayV (ps.map dotOf ++ [dotOf p]) = (mayV (ps.map dotOf) && fol (ps.map dotOf) (dotOf p)) := by
    rw [Bool.eq_iff_iff, Bool.and_eq_true, mayV_rising, mayV_rising]; exact rising_snoc _ _
  rw [goodP, List.all_append, List.map_append, List.map_cons, List.map_nil, h, goodP]
  simp only [List.all_cons, List.all_nil, Bool.and_true]
  cases ps.all (fun p => parErr p == 0) <;> cases (parErr p == 0) <;> cases mayV (ps.map dotOf) <;> rfl
theorem goodP_prefix {ps qs : List (List UInt8)} (h : ps <+: qs) (hg : goodP ps = false) : goodP qs = false := by
  obtain ⟨r, rfl⟩ := h
  revert hg
  refine snoc_ind (P := fun r => goodP ps = false → goodP (ps ++ r) = false) (fun h => by rwa [List.append_nil]) ?_ r
  intro r a ih hg
  rw [← List.append_assoc, goodP_snoc, ih hg]; rfl
theorem dotT_dotOf {p : List UInt8} (h : parErr p = 0) : dotT (dotOf p) = p := by
  rcases parErr_cases p with ⟨-, h1⟩ | ⟨h2, -, -⟩
  · exact (text_parse9 h1).2
  · rw [h] at h2; cases h2
theorem isVecT_good (s : List UInt8) : isVecT s = (if s = [45] then true else goodP (piecesB 44 s)) := by
  by_cases h : s = [45]
  · rw [if_pos h, h]; decide +kernel
  · rw [if_neg h]
    have hps : vecPs s = piecesB 44 s := by rw [vecPs, if_neg h]
    rw [Bool.eq_iff_iff]
    constructor
    · intro h1
      have h2 := (text_parseV h1).1
      have h3 : parV s = dotsOf s := by rw [parV, h1]; rfl
      rw [h3, dotsOf, hps] at h2
      rw [isVecT, Bool.and_eq_true, hps] at h1
      rw [goodP, Bool.and_eq_true]; exact ⟨h1.1, h2⟩
    · intro h1
      rw [goodP, Bool.and_eq_true] at h1
      have h4 : vecOf (dotsOf s) = dotsOf s := rising_vec (by rw [dotsOf, hps]; exact h1.2)
      rw [isVecT, Bool.and_eq_true, hps, beq_iff_eq]
      refine ⟨h1.1, ?_⟩
      have h5 : (dotsOf s).map dotT = piecesB 44 s := by
        rw [dotsOf, hps, List.map_map]
        conv => rhs; rw [← List.map_id (piecesB 44 s)]
        exact List.map_congr_left fun p hp => dotT_dotOf (by have := List.all_eq_true.1 h1.1 p hp; simpa using this)
      rw [textV, h4, textL, if_neg (fun e => by rw [e] at h5; simp [piecesB] at h5), h5, join_cut]
theorem par_good {s : List UInt8} (h : s ≠ [45]) (hg : goodP (piecesB 44 s) = true) : parVErr s = 0 ∧ parV s = (piecesB 44 s).map dotOf := by
  have h1 : isVecT s = true := by rw [isVecT_good, if_neg h]; exact hg
  rw [parVErr, parV, h1, dotsOf, vecPs, if_neg h]; exact ⟨rfl, rfl⟩
theorem par_bad {s : List UInt8} (h : s ≠ [45]) (hg : goodP (piecesB 44 s) = false) : parVErr s = 2 ∧ parV s = [] := by
  have h1 : isVecT s = false := by rw [isVecT_good, if_neg h]; exact hg
  rw [parVErr, parV, h1]; exact ⟨rfl, rfl⟩
theorem par_hyphen : parVErr [45] = 0 ∧ parV [45] = [] := by
  have h1 : isVecT [45] = true := by rw [isVecT_good, if_pos rfl]
  rw [parVErr, parV, h1]; exact ⟨rfl, rfl⟩
end Go.Proofs.YteooklnejiipkaaGreatDoor
namespace Go.Proofs.YteooklnejiipkaaGreatDoor
open Go.RowKit
/-- The table of the powers of ten, as strconv lays it. -/
def PowTab (w : World) : Prop := Lib.TabIs Tryz.prog w "internal/strconv.uint64pow10" .u64 Lib.pow10Tab
theorem gPow : Tryz.prog.globalNamed "internal/strconv.uint64pow10" = some 1 := by kernel_rfl
theorem powTab_below {w w' : World} (h : PowTab w) (hb : Below w.heap.size w w') : PowTab w' := by
  unfold PowTab Lib.TabIs World.var? at h ⊢
  rw [gPow] at h ⊢
  simp only [Option.bind_some] at h ⊢
  have hlt : 1 < w.heap.size := by
    rcases Nat.lt_or_ge 1 w.heap.size with h' | h'
    · exact h'
    · rw [Array.getElem?_eq_none h'] at h; cases h
  rw [hb.block _ hlt]
  exact h
theorem cellsByte : Tryz.prog.cellsOf 5 = 1 := by kernel_rfl
theorem digestGuard : Tryz.prog.eqGuardType Tryz.prog.depth 27 = false := by kernel_rfl
theorem slice_to {P : Program} (w : World) (t : TypeId) (l : List UInt8) (n : Nat) (hn : n ≤ l.length) (ht : P.underlying t = some .string) : (Instr.slice t (.string (str l)) none (some (.int .i64 (n : Int))) none).run P w = .ok (.string (str (l.take n))) w := by
  rw [run_slice_string_h w t (str l) ht .i64 n (by omega) (by rw [str_size]; omega)]
  have e : (str l).extract 0 (n : Int).toNat = str (l.take n) := by
    unfold str; rw [ByteArray.extract_mk]; simp
  rw [e]
end Go.Proofs.YteooklnejiipkaaGreatDoor
namespace Go.Proofs.YteooklnejiipkaaGreatDoor
open Go.RowKit
/-- An event: its dot, what was known, its kind, its path, the digest, the size. -/
structure Ev where
  r : Int
  q : Int
  deps : List D2
  kind : Int
  path : List UInt8
  sum : Nat → BitVec 32
  size : Int
def zeroF : Nat → BitVec 32 := fun _ => 0#32
theorem zeroF_byt (i : Nat) : u32 (zeroF i) < 256 := by unfold zeroF; decide
def noEv : Ev := ⟨0, 0, [], 0, [], zeroF, 0⟩
def mayH (e : Ev) : Bool := if e.kind = 1 then decide (0 ≤ e.size) && decide (e.size ≤ 65536) else if e.kind = 2 then decide (e.size = 0) && sameRow 32 e.sum zeroF else false
def knownE (e : Ev) : Bool := mayV e.deps && decide (getV e.deps e.r = e.q - 1)
def mayE (e : Ev) : Bool := mayD e.r e.q && (knownE e && (ownP e.path && mayH e))
def putW : List UInt8 := [112, 117, 116]
def delW : List UInt8 := [100, 101, 108]
def wordsE (e : Ev) : List (List UInt8) := if e.kind = 2 then [delW, textD e.r e.q, textV e.deps, e.path] else [putW, textD e.r e.q, textV e.deps, e.path, textF e.sum, numL e.size]
def lineE (e : Ev) : List UInt8 := joinB 32 (wordsE e)
def lineErr (e : Ev) : Int := if mayE e then 0 else 1
def lineT (e : Ev) : List UInt8 := if mayE e then lineE e else []
/-- The k-th word of a text, by its blanks. -/
def wd (s : List UInt8) (k : Nat) : List UInt8 := (piecesB 32 s).getD k []
def evOf (s : List UInt8) : Ev :=
  if (piecesB 32 s).length = 6 then ⟨parR (wd s 1), parQ (wd s 1), parV (wd s 2), 1, wd s 3, parsed (wd s 4), readN (wd s 5) 65536⟩
  else ⟨parR (wd s 1), parQ (wd s 1), parV (wd s 2), 2, wd s 3, zeroF, 0⟩
def isE (s : List UInt8) : Bool := ((piecesB 32 s).length == 4 || (piecesB 32 s).length == 6) && (mayE (evOf s) && lineE (evOf s) == s)
def parE (s : List UInt8) : Ev := if isE s then evOf s else noEv
def parEErr (s : List UInt8) : Int := if isE s then 0 else 2
theorem parEErr_cases (s : List UInt8) : parEErr s = 0 ∧ isE s = true ∧ parE s = evOf s ∨ parEErr s = 2 ∧ isE s = false ∧ parE s = noEv := by
  unfold parEErr parE; cases h : isE s <;> simp
/-- The words of a text, five times cut at most. -/
def spl6 (s : List UInt8) : List (List UInt8) := Lib.splitN s [32] 6
def sd (s : List UInt8) (k : Nat) : List UInt8 := (spl6 s).getD k []
def kindW (w : List UInt8) : Int := if w = putW then 1 else if w = delW then 2 else 0
def meantE (s : List UInt8) : Ev := ⟨parR (sd s 1), parQ (sd s 1), parV (sd s 2), kindW (sd s 0), sd s 3, parsed (sd s 4), readN (sd s 5) 65536⟩
theorem first_at (c : UInt8) (t : List UInt8) : (Lib.indexByte t c = -1 ∧ piecesB c t = [t]) ∨ ∃ o : Nat, o < t.length ∧ Lib.indexByte t c = (o : Int) ∧ piecesB c t = t.take o :: piecesB c (t.drop (o + 1)) := by
  have hge := Lib.indexByte_ge t c
  by_cases h : Lib.indexByte t c = -1
  · have hn : c ∉ t := fun hm => by
      obtain ⟨j, hj, e⟩ := List.mem_iff_getElem.1 hm
      exact absurd (by rw [List.getElem?_eq_getElem hj, e]) (Lib.indexByte_none h j)
    exact .inl ⟨h, pieces_last hn⟩
  · obtain ⟨k, hk⟩ : ∃ k : Nat, Lib.indexByte t c = (k : Int) := ⟨(Lib.indexByte t c).toNat, by omega⟩
    obtain ⟨h1, h2⟩ := Lib.indexByte_some hk
    obtain ⟨hlt, he⟩ := List.getElem?_eq_some_iff.1 h1
    refine .inr ⟨k, hlt, hk, ?_⟩
    have hn : c ∉ t.take k := fun hm => by
      obtain ⟨j, hj, e⟩ := List.mem_iff_getElem.1 hm
      have hj' : j < k := by rw [List.length_take] at hj; omega
      exact absurd (by rw [List.getElem?_eq_getElem (by omega)]; rw [List.getElem_take] at e; rw [e]) (h2 j hj')
    have hsp : t = t.take k ++ c :: t.drop (k + 1) := by
      conv => lhs; rw [← List.take_append_drop k t]
      rw [List.drop_eq_getElem_cons hlt, he]
    conv => lhs; rw [hsp]
    exact pieces_front hn
theorem pieces_pos (c : UInt8) (t : List UInt8) : 1 ≤ (piecesB c t).length := by simp [piecesB]
theorem splitK_pieces : ∀ (k : Nat) (s : List UInt8), (piecesB 32 s).length ≤ k + 1 → Lib.splitK [32] 0 k s = piecesB 32 s
  | 0, s, h => by
    rcases first_at 32 s with ⟨_, hp⟩ | ⟨o, _, _, hp⟩
    · rw [hp]
      rfl
    · rw [hp, List.length_cons] at h
      have := pieces_pos 32 (s.drop (o + 1)); omega
  | k + 1, s, h => by
    unfold Lib.splitK
    rw [Lib.index_one]
    rcases first_at 32 s with ⟨hi, hp⟩ | ⟨o, _, hi, hp⟩
    · rw [hi, hp]; rfl
    · rw [hp, List.length_cons] at h
      rw [hi, hp, if_neg (by simp), splitK_pieces k _ (by simpa using h)]
      simp
theorem words_len {ws : List (List UInt8)} : ws.length ≤ (joinB 32 ws).length + 1 := by
  induction ws with
  | nil => simp
  | cons w t ih =>
    cases t with
    | nil => simp
    | cons u t' =>
      have : (joinB 32 (w :: u :: t')).length = w.length + 1 + (joinB 32 (u :: t')).length := by simp [joinB]; omega
      simp only [List.length_cons] at ih ⊢
      omega
theorem pieces_words {ws : List (List UInt8)} (hne : ws ≠ []) (h : ∀ w ∈ ws, (32 : UInt8) ∉ w) : piecesB 32 (joinB 32 ws) = ws := by
  obtain ⟨ps, q, rfl⟩ : ∃ ps q, ws = ps ++ [q] := ⟨ws.dropLast, ws.getLast hne, (List.dropLast_concat_getLast hne).symm⟩
  rw [piecesB, cut_join ps q (fun p hp => h p (by simp [hp])) (h q (by simp))]
theorem spl6_words {ws : List (List UInt8)} (hne : ws ≠ []) (h : ∀ w ∈ ws, (32 : UInt8) ∉ w) (hl : ws.length ≤ 6) : spl6 (joinB 32 ws) = ws := by
  have hw := words_len (ws := ws)
  unfold spl6 Lib.splitN
  rw [splitK_pieces _ _ (by rw [pieces_words hne h]; omega), pieces_words hne h]
theorem of_joinB {c x : UInt8} {ps : List (List UInt8)} (h : x ∈ joinB c ps) : x = c ∨ ∃ p ∈ ps, x ∈ p := by
  cases ps with
  | nil => cases h
  | cons p t =>
    rw [joinB] at h
    rcases List.mem_append.1 h with h | h
    · exact .inr ⟨p, by simp, h⟩
    · obtain ⟨q, hq, hx⟩ := List.mem_flatMap.1 h
      rcases List.mem_cons.1 hx with h1 | h1
      · exact .inl h1
      · exact .inr ⟨q, by simp [hq], h1⟩
theorem textV_blank (l : List D2) : (32 : UInt8) ∉ textV l := fun h => by
  unfold textV textL at h
  split at h
  · simp at h
  · rcases of_joinB h with h1 | ⟨p, hp, hx⟩
    · exact absurd h1 (by decide)
    · obtain ⟨d, _, rfl⟩ := List.mem_map.1 hp
      exact dotT_not (by decide) (by decide) (by decide) d hx
theorem textF_blank (f : Nat → BitVec 32) (hf : ∀ i, u32 (f i) < 256) : (32 : UInt8) ∉ textF f := fun h => by
  have ht := isText_textF f hf
  simp only [isText, Bool.and_eq_true, List.all_eq_true] at ht
  exact absurd (ht.2 32 h) (by decide)
theorem pieces_byte (s : List UInt8) : ∀ c ∈ s, c = 47 ∨ ∃ p ∈ pieces s, c ∈ p := by
  induction s with
  | nil => intro c hc; cases hc
  | cons b t ih =>
    intro c hc
    rw [pieces]
    by_cases hb : b = 47
    · rw [if_pos hb]
      rcases List.mem_cons.1 hc with rfl | h
      · exact .inl hb
      · rcases ih c h with h1 | ⟨p, hp, h2⟩
        · exact .inl h1
        · exact .inr ⟨p, by simp [hp], h2⟩
    · rw [if_neg hb]
      cases hps : pieces t with
      | nil => exact absurd hps (pieces_ne t)
      | cons p ps =>
        rw [hps] at ih
        rcases List.mem_cons.1 hc with rfl | h
        · exact .inr ⟨c :: p, by simp, by simp⟩
        · rcases ih c h with h1 | ⟨p', hp, h2⟩
          · exact .inl h1
          · rcases List.mem_cons.1 hp with rfl | hp
            · exact .inr ⟨b :: p', by simp, by simp [h2]⟩
            · exact .inr ⟨p', by simp [hp], h2⟩
theorem own_blank {s : List UInt8} (h : ownP s = true) : (32 : UInt8) ∉ s := fun hm => by
  have hp := ((may_iff s).1 ((own_iff s).1 h).2.1).1
  simp only [isParts, List.all_eq_true] at hp
  rcases pieces_byte s 32 hm with h1 | ⟨p, h1, h2⟩
  · exact absurd h1 (by decide)
  · exact absurd (isPart_let (hp p h1) 32 h2) (by decide)
theorem words_blank {e : Ev} (h : mayE e = true) (hf : ∀ i, u32 (e.sum i) < 256) : ∀ w ∈ wordsE e, (32 : UInt8) ∉ w := by
  simp only [mayE, Bool.and_eq_true] at h
  have ho := own_blank h.2.2.1
  have hd : (32 : UInt8) ∉ textD e.r e.q := dotT_not (d := (e.r, e.q)) (by decide) (by decide) (by decide)
  have hv := textV_blank e.deps
  have hF := textF_blank e.sum hf
  have hn : (32 : UInt8) ∉ numL e.size := num_not (by decide) (by decide) _
  have hp : (32 : UInt8) ∉ putW := by decide
  have hl : (32 : UInt8) ∉ delW := by decide
  clear h hf
  rw [wordsE]
  split
  · simp only [List.mem_cons, List.not_mem_nil, or_false, forall_eq_or_imp, forall_eq]
    exact ⟨hl, hd, hv, ho⟩
  · simp only [List.mem_cons, List.not_mem_nil, or_false, forall_eq_or_imp, forall_eq]
    exact ⟨hp, hd, hv, ho, hF, hn⟩
theorem words_ne (e : Ev) : wordsE e ≠ [] := by unfold wordsE; split <;> simp
theorem words_six (e : Ev) : (wordsE e).length ≤ 6 := by unfold wordsE; split <;> simp
theorem pieces_line {e : Ev} (h : mayE e = true) (hf : ∀ i, u32 (e.sum i) < 256) : piecesB 32 (lineE e) = wordsE e := pieces_words (words_ne e) (words_blank h hf)
theorem spl_line {e : Ev} (h : mayE e = true) (hf : ∀ i, u32 (e.sum i) < 256) : spl6 (lineE e) = wordsE e := spl6_words (words_ne e) (words_blank h hf) (words_six e)
/-- Two events of which all fields are the same (their digests as rows). -/
def SameE (e f : Ev) : Prop := e.r = f.r ∧ e.q = f.q ∧ e.deps = f.deps ∧ e.kind = f.kind ∧ e.path = f.path ∧ sameRow 32 e.sum f.sum = true ∧ e.size = f.size
theorem sameE_refl (e : Ev) : SameE e e := ⟨rfl, rfl, rfl, rfl, rfl, sameRow_self 32 _, rfl⟩
theorem may_same {e f : Ev} (h : SameE e f) : mayE e = mayE f := by
  obtain ⟨h1, h2, h3, h4, h5, h6, h7⟩ := h
  have hs : sameRow 32 e.sum zeroF = sameRow 32 f.sum zeroF := by
    rw [Bool.eq_iff_iff, sameRow_iff, sameRow_iff]
    rw [sameRow_iff] at h6
    exact ⟨fun g i hi => by rw [← h6 i hi]; exact g i hi, fun g i hi => by rw [h6 i hi]; exact g i hi⟩
  simp only [mayE, knownE, mayH, h1, h2, h3, h4, h5, hs, h7]
theorem textTo_congr {f g : Nat → BitVec 32} : ∀ n, (∀ i, i < n → f i = g i) → textTo f n = textTo g n
  | 0, _ => rfl
  | n + 1, h => by rw [textTo_succ, textTo_succ, textTo_congr n (fun i hi => h i (by omega)), h n (by omega)]
theorem line_same {e f : Ev} (h : SameE e f) : lineE e = lineE f := by
  obtain ⟨h1, h2, h3, h4, h5, h6, h7⟩ := h
  have ht : textF e.sum = textF f.sum := textTo_congr 32 ((sameRow_iff _ _ _).1 h6)
  simp only [lineE, wordsE, h1, h2, h3, h4, h5, h7, ht]
theorem may_kind {e : Ev} (h : mayE e = true) : e.kind = 1 ∧ 0 ≤ e.size ∧ e.size ≤ 65536 ∨ e.kind = 2 ∧ e.size = 0 ∧ sameRow 32 e.sum zeroF = true := by
  simp only [mayE, Bool.and_eq_true, mayH] at h
  have h4 := h.2.2.2
  split at h4
  · simp at h4; exact .inl ⟨by assumption, h4⟩
  · split at h4
    · simp at h4; exact .inr ⟨by assumption, h4⟩
    · cases h4
theorem parsed_lt (s : List UInt8) (i : Nat) : u32 (parsed s i) < 256 := by
  unfold parsed; split
  · exact parseF_lt s i
  · show u32 (0#32) < 256
    decide
theorem evOf_lt (s : List UInt8) (i : Nat) : u32 ((evOf s).sum i) < 256 := by
  unfold evOf; split
  · exact parsed_lt _ i
  · exact zeroF_byt i
theorem meant_lt (s : List UInt8) (i : Nat) : u32 ((meantE s).sum i) < 256 := parsed_lt _ i
theorem sum_back (f : Nat → BitVec 32) (hf : ∀ i, u32 (f i) < 256) : sameRow 32 (parsed (textF f)) f = true := by
  rw [sameRow_iff]
  intro i hi
  rw [show parsed (textF f) = parseF (textF f) by simp [parsed, isText_textF f hf]]
  exact parse_text f hf i hi
theorem parts_back {e : Ev} (h : mayE e = true) : parR (textD e.r e.q) = e.r ∧ parQ (textD e.r e.q) = e.q ∧ parV (textV e.deps) = e.deps := by
  simp only [mayE, knownE, Bool.and_eq_true] at h
  obtain ⟨-, h2, h3⟩ := parse_text9 h.1
  exact ⟨h2, h3, by rw [(parse_textV e.deps).2, rising_vec h.2.1.1]⟩
theorem evOf_line {e : Ev} (h : mayE e = true) (hf : ∀ i, u32 (e.sum i) < 256) : SameE (evOf (lineE e)) e := by
  obtain ⟨p1, p2, p3⟩ := parts_back h
  have hp := pieces_line h hf
  rcases may_kind h with ⟨k1, k2, k3⟩ | ⟨k1, k2, k3⟩
  · have hw : wordsE e = [putW, textD e.r e.q, textV e.deps, e.path, textF e.sum, numL e.size] := by rw [wordsE, if_neg (by omega)]
    rw [hw] at hp
    have e1 : evOf (lineE e) = ⟨parR (textD e.r e.q), parQ (textD e.r e.q), parV (textV e.deps), 1, e.path, parsed (textF e.sum), readN (numL e.size) 65536⟩ := by
      simp [evOf, wd, hp]
    rw [e1]
    unfold SameE
    dsimp only
    exact ⟨p1, p2, p3, k1.symm, rfl, sum_back _ hf, (read_num k2 k3 (by omega)).1⟩
  · have hw : wordsE e = [delW, textD e.r e.q, textV e.deps, e.path] := by rw [wordsE, if_pos k1]
    rw [hw] at hp
    have e1 : evOf (lineE e) = ⟨parR (textD e.r e.q), parQ (textD e.r e.q), parV (textV e.deps), 2, e.path, zeroF, 0⟩ := by
      simp [evOf, wd, hp]
    rw [e1]
    unfold SameE
    dsimp only
    exact ⟨p1, p2, p3, k1.symm, rfl, (sameRow_iff _ _ _).2 fun i hi => ((sameRow_iff _ _ _).1 k3 i hi).symm, k2.symm⟩
theorem parsed_nil : parsed [] = zeroF := by simp [parsed, isText]; rfl
theorem readN_nil (m : Int) : readN [] m = 0 := by simp [readN, isNum]
theorem meant_line {e : Ev} (h : mayE e = true) (hf : ∀ i, u32 (e.sum i) < 256) : SameE (meantE (lineE e)) e := by
  obtain ⟨p1, p2, p3⟩ := parts_back h
  have hp := spl_line h hf
  rcases may_kind h with ⟨k1, k2, k3⟩ | ⟨k1, k2, k3⟩
  · have hw : wordsE e = [putW, textD e.r e.q, textV e.deps, e.path, textF e.sum, numL e.size] := by rw [wordsE, if_neg (by omega)]
    rw [hw] at hp
    have e1 : meantE (lineE e) = ⟨parR (textD e.r e.q), parQ (textD e.r e.q), parV (textV e.deps), kindW putW, e.path, parsed (textF e.sum), readN (numL e.size) 65536⟩ := by
      simp [meantE, sd, hp]
    rw [e1]
    unfold SameE
    dsimp only
    exact ⟨p1, p2, p3, by rw [k1]; decide, rfl, sum_back _ hf, (read_num k2 k3 (by omega)).1⟩
  · have hw : wordsE e = [delW, textD e.r e.q, textV e.deps, e.path] := by rw [wordsE, if_pos k1]
    rw [hw] at hp
    have e1 : meantE (lineE e) = ⟨parR (textD e.r e.q), parQ (textD e.r e.q), parV (textV e.deps), kindW delW, e.path, parsed [], readN [] 65536⟩ := by
      simp [meantE, sd, hp]
    rw [e1, parsed_nil, readN_nil]
    unfold SameE
    dsimp only
    exact ⟨p1, p2, p3, by rw [k1]; decide, rfl, (sameRow_iff _ _ _).2 fun i hi => ((sameRow_iff _ _ _).1 k3 i hi).symm, k2.symm⟩
theorem isE_line {e : Ev} (h : mayE e = true) (hf : ∀ i, u32 (e.sum i) < 256) : isE (lineE e) = true := by
  have hs := evOf_line h hf
  rw [isE, pieces_line h hf, may_same hs, h, line_same hs]
  rw [wordsE]; split <;> simp
theorem isE_may {s : List UInt8} (h : isE s = true) : mayE (evOf s) = true ∧ lineE (evOf s) = s := by
  simp only [isE, Bool.and_eq_true, beq_iff_eq] at h
  exact h.2
theorem meant_is (s : List UInt8) : (mayE (meantE s) && lineE (meantE s) == s) = isE s := by
  rw [Bool.eq_iff_iff, Bool.and_eq_true, beq_iff_eq]
  constructor
  · rintro ⟨h1, h2⟩
    have := isE_line h1 (meant_lt s)
    rwa [h2] at this
  · intro h
    obtain ⟨h1, h2⟩ := isE_may h
    have hs := meant_line h1 (evOf_lt s)
    rw [h2] at hs
    exact ⟨by rw [may_same hs]; exact h1, by rw [line_same hs]; exact h2⟩
theorem meant_same {s : List UInt8} (h : isE s = true) : SameE (meantE s) (evOf s) := by
  obtain ⟨h1, h2⟩ := isE_may h
  have hs := meant_line h1 (evOf_lt s)
  rwa [h2] at hs
end Go.Proofs.YteooklnejiipkaaGreatDoor
namespace Go.Proofs.YteooklnejiipkaaGreatDoor
open Go.RowKit
/-- Texts as the cells of a slice. -/
def textsL (ls : List (List UInt8)) : List Value := ls.map fun l => Value.string (str l)
theorem textsL_append (x y : List (List UInt8)) : textsL (x ++ y) = textsL x ++ textsL y := by simp [textsL]
theorem textsL_one (ls : List (List UInt8)) : ∀ u ∈ textsL ls, u.oneCell' = true := fun u hu => by
  obtain ⟨l, _, rfl⟩ := List.mem_map.1 hu; rfl
/-- A slice value whose elements are these texts. -/
def HasTexts (w : World) (v : Value) (ls : List (List UInt8)) : Prop :=
  ∃ ao cap, v = .slice ao ls.length cap ∧ (ao = none → ls = [] ∧ cap = 0) ∧ ∀ ad, ao = some ad → ls.length ≤ cap ∧ ∀ j u, (textsL ls)[j]? = some u → w.cell? (ad.add j) = some u
theorem texts_nil (w : World) : HasTexts w (.slice none 0 0) [] := ⟨none, 0, rfl, fun _ => ⟨rfl, rfl⟩, fun _ h => by cases h⟩
theorem texts_of_own {w : World} {base : Nat} {e : TypeId} {v : Value} {ls : List (List UInt8)} (h : w.ownsRow base e 1 v ls.length (textsL ls)) : HasTexts w v ls := by
  rcases h.2 with ⟨rfl, h0⟩ | ⟨g, cap, cur, rfl, rest⟩
  · obtain rfl : ls = [] := List.eq_nil_of_length_eq_zero h0
    exact texts_nil w
  · exact ⟨some ⟨g, 0, none⟩, cap, rfl, (fun h => by cases h), fun ad had => ⟨rest.2.2.1, fun j u hu => by
      cases had; exact h.cells rfl j u hu⟩⟩
theorem texts_below {w w' : World} {v : Value} {ls : List (List UInt8)} (h : HasTexts w v ls) (hb : Below w.heap.size w w') : HasTexts w' v ls := by
  obtain ⟨ao, cap, rfl, hnil, hc⟩ := h
  refine ⟨ao, cap, rfl, hnil, fun ad had => ⟨(hc ad had).1, fun j u hu => ?_⟩⟩
  have h1 := (hc ad had).2 j u hu
  exact (World.cell?_of_block (hb.block (ad.add j).block (World.block_lt_of_cell? w _ h1))).trans h1
/-- A text of such a slice. -/
theorem texts_at {w : World} {v : Value} {ls : List (List UInt8)} (h : HasTexts w v ls) (n k : Nat) (hn : ls.length = n) (hk : k < n) (l : List UInt8) (hl : ls[k]? = some l) : ∃ ad cap, v = .slice (some ad) n cap ∧ w.cell? (ad.add k) = some (.string (str l)) := by
  obtain ⟨ao, cap, rfl, hnil, hcs⟩ := h
  subst hn
  cases ao with
  | none => obtain ⟨hl, _⟩ := hnil rfl; subst hl; simp at hk
  | some ad =>
    refine ⟨ad, cap, rfl, (hcs ad rfl).2 k _ ?_⟩
    simp only [textsL, List.getElem?_map, hl, Option.map]
theorem texts_shape {w : World} {v : Value} {ls : List (List UInt8)} (h : HasTexts w v ls) (n : Nat) (hn : ls.length = n) : ∃ ao cap, v = .slice ao n cap := by
  obtain ⟨ao, cap, rfl, -⟩ := h
  exact ⟨ao, cap, by rw [hn]⟩
/-- One text appended to a slice of texts of the call's own. -/
theorem append_text {P : Program} {w : World} {ops : Array Oper} {rest : List Oper} {o : Oper} {a : Act} {Q : Exit → Act → World → Prop} (hgd : o.guard = none) (s x : Operand) (t : TypeId)
    (ho : o.op = .call { callee := .builtin .append, args := #[s, x], argTypes := #[t, t] })
    (base : Nat) (e : TypeId) (i : TypeInfo) (ht : P.underlying t = some (.slice e)) (hi : P.info? e = some i) (hz : i.zero = some (.string ByteArray.empty)) (hsize : i.size = 1) (hby : i.bytes = 16)
    (v : Value) (ls : List (List UInt8)) (l : List UInt8) (hs : a.eval s = v) (hown : w.ownsRow base e 1 v ls.length (textsL ls)) (ad : Addr) (c : Nat) (hx : a.eval x = .slice (some ad) 1 c) (hc : w.cell? ad = some (.string (str l)))
    (hlen : ls.length + 1 ≤ 8796093022208) (hbase : base ≤ w.heap.size)
    (h : ∀ v' w', w'.ownsRow base e 1 v' (ls ++ [l]).length (textsL (ls ++ [l])) → w.grownBy w' v.ownBlock → wpList P ops Q rest (a.put o.dst v') w') : wpList P ops Q (o :: rest) a w := by
  have hadd : ad.add 0 = ad := by unfold Addr.add; split <;> simp_all
  refine wpList_append_own w hgd s x t ho base e i (.string ByteArray.empty) 1 16 ht hi hz hsize hby rfl (by decide) v ls.length (textsL ls) hs hown ad 1 c (textsL [l]) hx (by simp [textsL]) (fun j u hj => ?_) (textsL_one [l])
    (by unfold maxLen; omega) (by omega) hbase fun v' w' h1 h2 _ => h v' w' (by rw [textsL_append, List.length_append]; exact h1) h2
  match j, hj with
  | 0, hj =>
    have e : u = .string (str l) := by simpa [textsL] using hj.symm
    rw [hadd, e]; exact hc
end Go.Proofs.YteooklnejiipkaaGreatDoor
namespace Go.Proofs.YteooklnejiipkaaGreatDoor
open Go.RowKit
/-- Dots as the cells of a slice. -/
def dotsC : List D2 → List Value
  | [] => []
  | d :: t => .int .i64 d.1 :: .int .i64 d.2 :: dotsC t
theorem dotsC_append (l m : List D2) : dotsC (l ++ m) = dotsC l ++ dotsC m := by
  induction l with
  | nil => rfl
  | cons d t ih => rw [List.cons_append, dotsC, dotsC, ih]; rfl
theorem dotsC_at (l : List D2) : ∀ k d, l[k]? = some d → (dotsC l)[k * 2]? = some (.int .i64 d.1) ∧ (dotsC l)[k * 2 + 1]? = some (.int .i64 d.2) := by
  induction l with
  | nil => intro k d h; simp at h
  | cons y t ih =>
    intro k d h
    cases k with
    | zero => simp at h; subst h; exact ⟨rfl, rfl⟩
    | succ k =>
      have := ih k d (by simpa using h)
      rw [dotsC, show (k + 1) * 2 = k * 2 + 2 from by omega]
      exact this
theorem dotsC_inv (l : List D2) : ∀ j u, (dotsC l)[j]? = some u → ∃ i d, l[i]? = some d ∧ ((j = i * 2 ∧ u = .int .i64 d.1) ∨ (j = i * 2 + 1 ∧ u = .int .i64 d.2)) := by
  induction l with
  | nil => intro j u h; simp [dotsC] at h
  | cons d t ih =>
    intro j u h
    match j, h with
    | 0, h => exact ⟨0, d, rfl, .inl ⟨rfl, by simpa [dotsC] using h.symm⟩⟩
    | 1, h => exact ⟨0, d, rfl, .inr ⟨rfl, by simpa [dotsC] using h.symm⟩⟩
    | j + 2, h =>
      obtain ⟨i, y, h1, h2⟩ := ih j u (by simpa [dotsC] using h)
      exact ⟨i + 1, y, by simpa using h1, h2.elim (fun ⟨a, b⟩ => .inl ⟨by omega, b⟩) (fun ⟨a, b⟩ => .inr ⟨by omega, b⟩)⟩
theorem dotsC_one (l : List D2) : ∀ u ∈ dotsC l, u.oneCell' = true := by
  induction l with
  | nil => intro u h; cases h
  | cons d t ih =>
    intro u hu
    rw [dotsC] at hu
    rcases List.mem_cons.1 hu with rfl | hu
    · rfl
    · rcases List.mem_cons.1 hu with rfl | hu
      · rfl
      · exact ih u hu
/-- A slice value whose elements are these dots. -/
def HasDots (w : World) (v : Value) (l : List D2) : Prop :=
  ∃ ao cap, v = .slice ao l.length cap ∧ (ao = none → l = [] ∧ cap = 0) ∧ ∀ ad, ao = some ad → l.length ≤ cap ∧ ∀ j u, (dotsC l)[j]? = some u → w.cell? (ad.add j) = some u
theorem dots_nil (w : World) : HasDots w (.slice none 0 0) [] := ⟨none, 0, rfl, fun _ => ⟨rfl, rfl⟩, fun _ h => by cases h⟩
theorem dots_below {w w' : World} {v : Value} {l : List D2} (h : HasDots w v l) (hb : Below w.heap.size w w') : HasDots w' v l := by
  obtain ⟨ao, cap, rfl, hnil, hc⟩ := h
  refine ⟨ao, cap, rfl, hnil, fun ad had => ⟨(hc ad had).1, fun j u hu => ?_⟩⟩
  have h1 := (hc ad had).2 j u hu
  exact (World.cell?_of_block (hb.block (ad.add j).block (World.block_lt_of_cell? w _ h1))).trans h1
theorem dots_shape {w : World} {v : Value} {l : List D2} (h : HasDots w v l) (n : Nat) (hn : n = l.length) : ∃ ao cap, v = .slice ao n cap := by
  obtain ⟨ao, cap, rfl, -⟩ := h
  exact ⟨ao, cap, by rw [hn]⟩
theorem addr_next2 (ad : Addr) (k : Nat) : ad.add (k + 1) = ⟨(ad.add k).block, (ad.add k).off + 1, none⟩ := by
  unfold Addr.add
  rw [if_neg (by omega)]
  split
  · rename_i h; subst h; rfl
  · rfl
/-- A dot of such a slice. -/
theorem dots_at {w : World} {v : Value} {l : List D2} (h : HasDots w v l) (n k : Nat) (hn : l.length = n) (d : D2) (hd : l[k]? = some d) : ∃ ad cap, v = .slice (some ad) n cap ∧ w.cell? (ad.add (k * 2)) = some (.int .i64 d.1) ∧ w.cell? ⟨(ad.add (k * 2)).block, (ad.add (k * 2)).off + 1, none⟩ = some (.int .i64 d.2) := by
  obtain ⟨ao, cap, rfl, hnil, hc⟩ := h
  cases ao with
  | none => obtain ⟨rfl, _⟩ := hnil rfl; simp at hd
  | some ad =>
    obtain ⟨p1, p2⟩ := dotsC_at l k d hd
    exact ⟨ad, cap, by rw [← hn], (hc ad rfl).2 _ _ p1, by rw [← addr_next2]; exact (hc ad rfl).2 _ _ p2⟩
theorem dots_of_own {w : World} {base : Nat} {e : TypeId} {v : Value} {l : List D2} (h : w.ownsRow base e 2 v l.length (dotsC l)) : HasDots w v l := by
  rcases h.2 with ⟨rfl, h0⟩ | ⟨g, cap, cur, rfl, rest⟩
  · obtain rfl : l = [] := List.eq_nil_of_length_eq_zero h0
    exact dots_nil w
  · exact ⟨some ⟨g, 0, none⟩, cap, rfl, (fun h => by cases h), fun ad had => ⟨rest.2.2.1, fun j u hu => by
      cases had; exact h.cells rfl j u hu⟩⟩
/-- Dots in a block that holds dots alone. -/
def TypDots (w : World) (v : Value) (l : List D2) : Prop := HasDots w v l ∧ (l = [] ∨ ∃ k cs fr, v.ownBlock = some k ∧ w.heap[k]? = some (.cells cs 23 fr))
theorem typ_nil (w : World) : TypDots w (.slice none 0 0) [] := ⟨dots_nil w, .inl rfl⟩
theorem typ_of_own {w : World} {base : Nat} {v : Value} {l : List D2} (h : w.ownsRow base 23 2 v l.length (dotsC l)) : TypDots w v l := by
  refine ⟨dots_of_own h, ?_⟩
  rcases h.2 with ⟨rfl, h0⟩ | ⟨g, cap, cur, rfl, h1, h2, rest⟩
  · exact .inl (List.eq_nil_of_length_eq_zero h0)
  · exact .inr ⟨g, cur, (0, 0), rfl, h2⟩
theorem typ_below {w w' : World} {v : Value} {l : List D2} (h : TypDots w v l) (hb : Below w.heap.size w w') : TypDots w' v l := by
  refine ⟨dots_below h.1 hb, h.2.elim .inl fun ⟨k, cs, fr, h1, h2⟩ => .inr ⟨k, cs, fr, h1, ?_⟩⟩
  exact (hb.block k (Array.getElem?_eq_some_iff.1 h2).1).trans h2
theorem dots_own_nil (w : World) (e : TypeId) (base : Nat) : w.ownsRow base e 2 (.slice none 0 0) ([] : List D2).length (dotsC []) := ⟨rfl, .inl ⟨rfl, rfl⟩⟩
theorem append_dot {P : Program} {w : World} {ops : Array Oper} {rest : List Oper} {o : Oper} {a : Act} {Q : Exit → Act → World → Prop} (hgd : o.guard = none) (s x : Operand) (t : TypeId)
    (ho : o.op = .call { callee := .builtin .append, args := #[s, x], argTypes := #[t, t] })
    (base : Nat) (e : TypeId) (i : TypeInfo) (ht : P.underlying t = some (.slice e)) (hi : P.info? e = some i) (hz : (i.zero.map (·.cells.size), i.size, i.bytes) = (some 2, 2, 16))
    (v : Value) (l : List D2) (d : D2) (hs : a.eval s = v) (hown : w.ownsRow base e 2 v l.length (dotsC l)) (ad : Addr) (c : Nat) (hx : a.eval x = .slice (some ad) 1 c)
    (hc : w.cell? ad = some (.int .i64 d.1) ∧ w.cell? (ad.add 1) = some (.int .i64 d.2))
    (hlen : l.length + 1 ≤ 2000000) (hbase : base ≤ w.heap.size)
    (h : ∀ v' w', w'.ownsRow base e 2 v' (l ++ [d]).length (dotsC (l ++ [d])) → w.grownBy w' v.ownBlock → wpList P ops Q rest (a.put o.dst v') w') : wpList P ops Q (o :: rest) a w := by
  have hadd : ad.add 0 = ad := by unfold Addr.add; split <;> simp_all
  simp only [Prod.mk.injEq] at hz
  obtain ⟨hz1, hz2, hz3⟩ := hz
  cases hzz : i.zero with
  | none => rw [hzz] at hz1; cases hz1
  | some z =>
    rw [hzz] at hz1
    simp only [Option.map_some, Option.some.injEq] at hz1
    refine wpList_append_own w hgd s x t ho base e i z 2 16 ht hi hzz hz2 hz3 hz1 (by decide) v l.length (dotsC l) hs hown ad 1 c (dotsC [d]) hx rfl (fun j u hj => ?_) (fun u hu => dotsC_one [d] u hu)
      (by unfold maxLen; omega) (by omega) hbase fun v' w' h1 h2 _ => h v' w' (by rw [dotsC_append, List.length_append]; exact h1) h2
    match j, hj with
    | 0, hj => rw [hadd, hc.1]; exact hj
    | 1, hj => rw [hc.2]; exact hj
/-- An array of n numbers, each told by a function of its place. -/
def nums (n : Nat) (f : Nat → Int) : Array Value := ((List.range n).map fun i => Value.int .i64 (f i)).toArray
theorem nums_size (n : Nat) (f : Nat → Int) : (nums n f).size = n := by simp [nums]
theorem nums_get (n : Nat) (f : Nat → Int) (i : Nat) (h : i < n) : (nums n f)[i]? = some (.int .i64 (f i)) := by simp [nums, h]
theorem nums_congr (n : Nat) (f g : Nat → Int) (h : ∀ i, i < n → f i = g i) : nums n f = nums n g := by
  unfold nums; congr 1
  apply List.map_congr_left
  intro i hi
  rw [h i (by simpa using hi)]
theorem nums_set (n : Nat) (f g : Nat → Int) (i : Nat) (x : Int) (h : ∀ j, j < n → (if j = i then x else f j) = g j) : (nums n f).setIfInBounds i (.int .i64 x) = nums n g := by
  rw [← nums_congr n _ _ h]
  apply Array.ext_getElem?
  intro j
  rw [Array.getElem?_setIfInBounds, nums_size]
  by_cases hj : j < n
  · rw [nums_get _ _ _ hj]
    by_cases h : i = j
    · subst h; rw [if_pos rfl, if_pos hj, nums_get _ _ _ hj, if_pos rfl]
    · rw [if_neg h, nums_get _ _ _ hj, if_neg (Ne.symm h)]
  · have e1 : (nums n f)[j]? = none := by rw [Array.getElem?_eq_none_iff, nums_size]; omega
    have e2 : (nums n fun j => if j = i then x else f j)[j]? = none := by rw [Array.getElem?_eq_none_iff, nums_size]; omega
    rw [e1, e2]
    split
    · rw [if_neg (by omega)]
    · rfl
theorem nums_one (n : Nat) (f : Nat → Int) : (nums n f).all (·.oneCell') = true := by simp [nums, Value.oneCell']
theorem nums_cell {w : World} {g n : Nat} {t : TypeId} {f : Nat → Int} (h : w.heap[g]? = some (.cells (nums n f) t (0, 0))) (i : Nat) (hi : i < n) : w.cell? ⟨g, i, none⟩ = some (.int .i64 (f i)) := by
  rw [cell_of_row _ _ i _ _ _ h, nums_get _ _ _ hi]
/-- Two arrays as opaque values, compared by ==. -/
def numsV (n : Nat) (f : Nat → Int) : Value := .agg (nums n f)
/-- An array by value read at a place. -/
theorem index_nums {P : Program} (w : World) {t e : TypeId} {n : Nat} (f : Nat → Int) (i : Nat) (hi : i < n) (ht : P.underlying t = some (.array n e)) (he : P.underlying e = some (.int .i64)) (hc : P.cellsOf e = 1) :
    (Instr.index t (.agg (nums n f)) (.int .i64 (i : Int))).run P w = .ok (.int .i64 (f i)) w := by
  obtain ⟨inf, hinf⟩ := info_of he
  have hg := nums_get n f i hi
  have hn : (0 ≤ (i : Int) ∧ (i : Int) < (n : Int)) := by omega
  simp [Instr.index, run_underlying ht, run_underlying he, run_sizeOf w hinf, asIntOf, hn, hc, hg, hi, isAgg, go_sem]
end Go.Proofs.YteooklnejiipkaaGreatDoor
namespace Go.Proofs.YteooklnejiipkaaGreatDoor
open Go.RowKit
theorem read_bad {s : List UInt8} (h : isNum s = false) (most : Int) : readN s most = 0 ∧ readErr s most = 2 := by simp [readN, readErr, h]
theorem read_over {s : List UInt8} {most : Int} (h : isNum s = true) (hm : most < valN s) : readN s most = 0 ∧ readErr s most = 8 := by simp [readN, readErr, h, hm]
theorem read_good {s : List UInt8} {most : Int} (h : isNum s = true) (hm : ¬ most < valN s) : readN s most = valN s ∧ readErr s most = 0 := by simp [readN, readErr, h, hm]
/-- A number's text begins with no hyphen. -/
theorem num_isNum (s : List UInt8) (hl : 0 < s.length) (h19 : s.length ≤ 19) (hd : ∀ c ∈ s, isDig c = true) (x : Int) (hx : x = IntKind.i64.wrap (valN s)) :
    (numL x == s) = isNum s ∧ (isNum s = true → x = valN s) := by
  have hv := valN_lt s hd
  have h10 : 10 ^ s.length ≤ 10 ^ 19 := Nat.pow_le_pow_right (by decide) h19
  have he : s.isEmpty = false := by cases s with | nil => simp at hl | cons a l => rfl
  have hall : s.all isDig = true := List.all_eq_true.2 hd
  rw [IntKind.wrap_i64] at hx
  by_cases hm : valN s < 9223372036854775808
  · have hx' : x = valN s := by omega
    subst hx'
    exact ⟨by simp [isNum, he, h19, hall, hm, numL_nonneg], fun _ => rfl⟩
  · have hneg : x < 0 := by
      have : (10 : Nat) ^ 19 = 10000000000000000000 := by decide
      omega
    have hn : isNum s = false := by simp [isNum, hm]
    refine ⟨?_, fun h => by rw [hn] at h; cases h⟩
    rw [hn]
    have : numL x = 45 :: digs x.natAbs := by unfold numL; rw [if_pos hneg]
    rw [this]
    cases s with
    | nil => rfl
    | cons a l =>
      have ha := hd a (by simp)
      have : (45 : UInt8) ≠ a := fun h => by rw [← h] at ha; exact absurd ha (by decide)
      simp [this]
theorem wrap_val (s : List UInt8) (k : Nat) (c : UInt8) (hc : s[k]? = some c) (hd : ∀ j, j < k → ∀ c, s[j]? = some c → isDig c = true) (h18 : k ≤ 18) :
    ∃ v : Nat, v = valN (s.take k) ∧ v < 1000000000000000000 ∧ IntKind.i64.wrap (valN (s.take k)) = (v : Int) ∧ valN (s.take (k + 1)) = 10 * v + (c.toNat - 48) := by
  have hk : k < s.length := (List.getElem?_eq_some_iff.1 hc).1
  have hl : (s.take k).length = k := by rw [List.length_take]; omega
  have hv := valN_lt (s.take k) (fun c hc' => by
    obtain ⟨j, hj, rfl⟩ := List.mem_iff_getElem.1 hc'
    rw [hl] at hj
    exact hd j hj _ (by simp [List.getElem_take, show j < s.length from by omega]))
  rw [hl] at hv
  have h10 : 10 ^ k ≤ 10 ^ 18 := Nat.pow_le_pow_right (by decide) h18
  have h18' : (10 : Nat) ^ 18 = 1000000000000000000 := by decide
  refine ⟨_, rfl, by omega, by rw [IntKind.wrap_i64]; omega, ?_⟩
  obtain ⟨_, rfl⟩ := List.getElem?_eq_some_iff.1 hc
  rw [List.take_succ_eq_append_getElem hk, valN_snoc]
theorem wrap_two (v d : Nat) : IntKind.i64.wrap (IntKind.i64.wrap (10 * (v : Int)) + (d : Int)) = IntKind.i64.wrap ((10 * v + d : Nat) : Int) := by
  rw [IntKind.wrap_i64, IntKind.wrap_i64, IntKind.wrap_i64]
  generalize (18446744073709551616 : Int) = M
  generalize (9223372036854775808 : Int) = H
  rw [show (10 * (v : Int) + H) % M - H + (d : Int) + H = (10 * (v : Int) + H) % M + (d : Int) from by omega, Int.emod_add_emod]
  congr 2
  omega
set_option maxRecDepth 100000 in
set_option maxHeartbeats 4000000 in
theorem refRead_any (s : List UInt8) (most : Int) (hs : s.length < 9223372036854775808) (w : World) : Calls Tryz.prog 48 #[.string (str s), .int .i64 most] w fun e w' => e = .returned (.tuple #[.int .i64 (readN s most), .int .i64 (readErr s most)]) ∧ Below w.heap.size w w' := by
  have hsz : (str s).size = s.length := str_size s
  by_cases h0 : s.length = 0
  · obtain ⟨h1, h2⟩ := read_bad (s := s) (by obtain rfl := List.eq_nil_of_length_eq_zero h0; rfl) most
    have HP := Lib.hid (And.intro h1 h2)
    clear h1 h2 hs
    go_enter Tryz.func48, Tryz.ntmps48
    go_wp2_with fail
    go_ret2
    exact ⟨by rw [HP.out.1, HP.out.2]; rfl, Below.refl _ _⟩
  have hne : ((s.length : Int) == 0) = false := by
    rw [beq_eq_false_iff_ne]; omega
  by_cases h19 : 19 < s.length
  · obtain ⟨h1, h2⟩ := read_bad (s := s) (by simp [isNum]; omega) most
    have HP := Lib.hid (And.intro h1 h2)
    have hd : decide (19 < (s.length : Int)) = true := decide_eq_true (by omega)
    clear h1 h2 hs
    go_enter Tryz.func48, Tryz.ntmps48
    go_wp2_with fail
    go_ret2
    exact ⟨by rw [HP.out.1, HP.out.2]; rfl, Below.refl _ _⟩
  have hd19 : decide (19 < (s.length : Int)) = false := decide_eq_false (by omega)
  clear hs
  go_enter Tryz.func48, Tryz.ntmps48
  go_wp2_with fail
  go_loopw [6, 7] (fun x c wr => wr = w ∧ ∃ k : Nat, k ≤ s.length ∧ c = .int .i64 k ∧ x = .int .i64 (IntKind.i64.wrap (valN (s.take k))) ∧ ∀ j, j < k → ∀ c, s[j]? = some c → isDig c = true) (fun _ c _ => s.length - (intOf c).toNat)
  case atStart => exact ⟨rfl, 0, by omega, rfl, by rw [List.take_zero, valN_nil]; rfl, fun j hj => by omega⟩
  case round =>
    obtain ⟨rfl, k, hk, rfl, rfl, hall⟩ := hrel
    have HA := Lib.hid hall
    by_cases hlt : k < s.length
    · obtain ⟨c, hc⟩ : ∃ c, s[k]? = some c := ⟨s[k], List.getElem?_eq_getElem hlt⟩
      obtain ⟨v, hv, hv18, hw1, hv2⟩ := wrap_val s k c hc hall (by omega)
      have i1 := fun w => index_str (P := Tryz.prog) w s .i64 k c hc Tryz.underlying9
      obtain ⟨cn, hcn⟩ : ∃ cn, c.toNat = cn := ⟨_, rfl⟩
      rw [hcn] at i1 hv2
      rw [hw1]
      have HV := Lib.hid (And.intro hc (And.intro hv2 hcn))
      have q0 : (k : Int) < (s.length : Int) := by omega
      by_cases hdg : isDig c = true
      · have hdg' := hdg
        simp only [isDig, hcn, Bool.and_eq_true, decide_eq_true_eq] at hdg'
        have b1 : decide ((cn : Int) < 48) = false := decide_eq_false (by omega)
        have b2 : decide (57 < (cn : Int)) = false := decide_eq_false (by omega)
        obtain ⟨d, hd⟩ : ∃ d : Nat, d = cn - 48 := ⟨_, rfl⟩
        have e1 : (cn : Int) - 48 = (d : Int) := by omega
        have e2 : IntKind.u8.wrap (d : Int) = (d : Int) := by rw [IntKind.wrap_u8]; omega
        have e3 : IntKind.i64.wrap (d : Int) = (d : Int) := by rw [IntKind.wrap_i64]; omega
        obtain ⟨y1, hy1⟩ : ∃ y1, IntKind.i64.wrap (10 * (v : Int)) = y1 := ⟨_, rfl⟩
        obtain ⟨y2, hy2⟩ : ∃ y2, IntKind.i64.wrap (y1 + (d : Int)) = y2 := ⟨_, rfl⟩
        have HY := Lib.hid (show y2 = IntKind.i64.wrap (valN (s.take (k + 1))) by
          rw [hv2, ← hd, ← hy2, ← hy1]; exact wrap_two v d)
        have HDG := Lib.hid hdg
        clear hall hc hv hw1 hv2 hcn hdg hdg' hv18 hd
        go_wp2_with fail
        obtain ⟨hc, hv2, hcn⟩ := HV.out
        refine ⟨⟨trivial, k + 1, by omega, by go_num, by rw [HY.out], fun j hj c' hc' => ?_⟩, by simp [intOf]; omega⟩
        rcases Nat.lt_or_ge j k with h | h
        · exact HA.out j h c' hc'
        · obtain rfl : j = k := by omega
          rw [hc] at hc'; cases hc'; exact HDG.out
      · have hbad : isNum s = false := by
          cases h : isNum s with
          | false => rfl
          | true =>
            simp only [isNum, Bool.and_eq_true, List.all_eq_true] at h
            exact absurd (h.2.1 c (List.mem_of_getElem? hc)) hdg
        obtain ⟨h1, h2⟩ := read_bad hbad most
        have HP := Lib.hid (And.intro h1 h2)
        clear h1 h2 hbad
        have hdg' : cn < 48 ∨ 57 < cn := by
          simp only [isDig, hcn, Bool.and_eq_true, decide_eq_true_eq] at hdg; omega
        clear hall hc hv hw1 hv2 hcn hdg hv18
        rcases hdg' with h | h
        · have b1 : decide ((cn : Int) < 48) = true := decide_eq_true (by omega)
          clear h
          go_wp2_with fail
          go_ret2
          exact ⟨by rw [HP.out.1, HP.out.2]; rfl, Below.refl _ _⟩
        · have b1 : decide ((cn : Int) < 48) = false := decide_eq_false (by omega)
          have b2 : decide (57 < (cn : Int)) = true := decide_eq_true (by omega)
          clear h
          go_wp2_with fail
          go_ret2
          exact ⟨by rw [HP.out.1, HP.out.2]; rfl, Below.refl _ _⟩
    · obtain rfl : k = s.length := by omega
      have hd : ∀ c ∈ s, isDig c = true := fun c hc => by
        obtain ⟨j, hj, rfl⟩ := List.mem_iff_getElem.1 hc
        exact hall j hj _ (List.getElem?_eq_getElem hj)
      rw [List.take_length]
      obtain ⟨x, hx⟩ : ∃ x, x = IntKind.i64.wrap (valN s) := ⟨_, rfl⟩
      obtain ⟨n1, n2⟩ := num_isNum s (by omega) (by omega) hd x hx
      have hxb : -9223372036854775808 ≤ x ∧ x < 9223372036854775808 := by rw [hx, IntKind.wrap_i64]; omega
      have HN := Lib.hid (refNumber_any x hxb.1 hxb.2)
      rw [← hx]
      have hq : decide ((s.length : Int) < (s.length : Int)) = false := decide_eq_false (by omega)
      have hb : ((str (numL x)).toList == (str s).toList) = isNum s := by rw [str_toList, str_toList]; exact n1
      have N2 := Lib.hid n2
      clear hall hd hx n1 n2 hxb HA
      cases hnum : isNum s with
      | false =>
        rw [hnum] at hb
        obtain ⟨h1, h2⟩ := read_bad hnum most
        have HP := Lib.hid (And.intro h1 h2)
        clear h1 h2 hnum
        go_wp2_with (first | (go_at_call 42; refine (HN.out _).mono ?_; rintro e w1 ⟨rfl, hb1⟩))
        go_ret2
        exact ⟨by rw [HP.out.1, HP.out.2]; rfl, hb1⟩
      | true =>
        rw [hnum] at hb
        have hxv := N2.out hnum
        by_cases hmo : most < x
        · obtain ⟨h1, h2⟩ := read_over hnum (show most < (valN s : Int) from hxv ▸ hmo)
          have HP := Lib.hid (And.intro h1 h2)
          have hd : decide (most < x) = true := decide_eq_true hmo
          clear h1 h2 hnum hxv hmo
          go_wp2_with (first | (go_at_call 42; refine (HN.out _).mono ?_; rintro e w1 ⟨rfl, hb1⟩))
          go_ret2
          exact ⟨by rw [HP.out.1, HP.out.2]; rfl, hb1⟩
        · obtain ⟨h1, h2⟩ := read_good hnum (show ¬ most < (valN s : Int) from hxv ▸ hmo)
          rw [← hxv] at h1
          have HP := Lib.hid (And.intro h1 h2)
          have hd : decide (most < x) = false := decide_eq_false hmo
          clear h1 h2 hnum hxv hmo
          go_wp2_with (first | (go_at_call 42; refine (HN.out _).mono ?_; rintro e w1 ⟨rfl, hb1⟩))
          go_ret2
          exact ⟨by rw [HP.out.1, HP.out.2]; rfl, hb1⟩
end Go.Proofs.YteooklnejiipkaaGreatDoor
