/-
What the document's own answers for layer 4 return: Text and Parse.
-/
import Derived.Test.YtikhmhgjaipnaaaDoorHexa
import Derived.Test.YtikhmhgjaipnaaaDoorProg
import Derived.StillTailTactics
import Derived.WalkKit
import Derived.Lib.Hide
import Derived.Deep.RegionWith
import Derived.WalkLawsBesides
namespace Go.Proofs.YtikhmhgjaipnaaaDoor
open Go.RowKit
theorem infoByte : (Tryd.prog.info? 5).map (fun i => (i.zero, i.size, i.bytes)) = some (some (.int .u8 0), 1, 1) := by kernel_rfl
theorem refFigure_any (n : Nat) (h : n < 16) (w : World) : Calls Tryd.prog 20 #[.int .u8 (n : Int)] w fun e w' => e = .returned (.int .u8 (figN n : Int)) ∧ w = w' := by
  have hn : (n : Int) < 16 := by omega
  by_cases h1 : n < 10
  · have e1 : (48 : Int) + (n : Int) = (figN n : Int) := by unfold figN; rw [if_pos h1]; omega
    have e2 : (figN n : Int) < 256 := by omega
    have hd : decide ((n : Int) < 10) = true := decide_eq_true (by omega)
    go_enter Tryd.func20, Tryd.ntmps20
    go_wp2
    go_ret
    exact ⟨rfl, rfl⟩
  · have e1 : (87 : Int) + (n : Int) = (figN n : Int) := by unfold figN; rw [if_neg h1]; omega
    have e2 : (figN n : Int) < 256 := by omega
    have hd : decide ((n : Int) < 10) = false := decide_eq_false (by omega)
    go_enter Tryd.func20, Tryd.ntmps20
    go_wp2
    go_ret
    exact ⟨rfl, rfl⟩
/-- What value answers. -/
def figI (c : UInt8) : Int := match fig c with | some n => n | none => -1
set_option maxHeartbeats 1000000 in
theorem refValue_any (c : UInt8) (w : World) : Calls Tryd.prog 19 #[.int .u8 (c.toNat : Int)] w fun e w' => e = .returned (.int .i64 (figI c)) ∧ w = w' := by
  have hc := UInt8.toNat_lt c
  go_enter Tryd.func19, Tryd.ntmps19
  go_wp2
  go_loopw [3] (fun v wr => wr = w ∧ ∃ k : Nat, k ≤ 16 ∧ v = .int .i64 k ∧ ∀ j, j < k → c.toNat ≠ figN j) (fun v _ => 16 - (intOf v).toNat)
  case atStart => exact ⟨rfl, 0, by omega, rfl, fun j hj => by omega⟩
  case round =>
    obtain ⟨rfl, k, hk, rfl, hall⟩ := hrel
    have HA := Lib.hid hall
    clear hall
    by_cases h16 : k < 16
    · have q0 : (k : Int) < 16 := by omega
      by_cases he : c.toNat = figN k
      · have hb : ((figN k : Int) == (c.toNat : Int)) = true := by simp; omega
        have HF := Lib.hid (show figI c = (k : Int) by unfold figI; rw [fig_of_eq h16 he])
        clear he
        go_wp2_with (first | (go_at_call 20; refine (refFigure_any k h16 _).mono ?_; rintro e w' ⟨rfl, rfl⟩))
        go_ret
        exact ⟨by rw [HF.out]; rfl, rfl⟩
      · have hb : ((figN k : Int) == (c.toNat : Int)) = false := by simp; omega
        have HE := Lib.hid he
        clear he
        go_wp2_with (first | (go_at_call 20; refine (refFigure_any k h16 _).mono ?_; rintro e w' ⟨rfl, rfl⟩))
        go_roundw
        case rel => exact ⟨trivial, k + 1, by omega, by go_num, fun j hj => by
          rcases Nat.lt_or_ge j k with h | h
          · exact HA.out j h
          · obtain rfl : j = k := by omega
            exact HE.out⟩
        case measure => simp [intOf]; omega
    · obtain rfl : k = 16 := by omega
      have HF := Lib.hid (show figI c = -1 by
        unfold figI
        cases h : fig c with
        | none => rfl
        | some n => obtain ⟨h1, h2⟩ := fig_some h; exact absurd h2 (HA.out n h1))
      go_wp2
      go_ret
      exact ⟨by rw [HF.out]; rfl, rfl⟩
theorem nib (x : BitVec 32) : (u32 x / (16 : Int) = ((x.toNat / 16 : Nat) : Int)) ∧ (u32 x % (16 : Int) = ((x.toNat % 16 : Nat) : Int)) := by unfold u32; omega
theorem figureN (n : Nat) (h : n < 16) : Value.int .u8 (figN n : Int) = .int .u8 ((figure n).toNat : Int) := by rw [figure_toNat n h]
set_option maxHeartbeats 2000000 in
theorem refText_any (f : Nat → BitVec 32) (hf : ∀ i, u32 (f i) < 256) (w : World) : Calls Tryd.prog 13 #[.agg (row .u8 32 f)] w fun e w' => e = .returned (.string (str (textF f))) ∧ Below w.heap.size w w' := by
  obtain ⟨i0, hi, hz0, hz1, hz2⟩ := info_parts infoByte
  have HD := Lib.hid (heap_last w (.cells (row .u8 32 f) 23 (0, 0)))
  have HB := Lib.hid ((Below.refl w.heap.size w).alloc (Nat.le_refl _) (.cells (row .u8 32 f) 23 (0, 0)))
  go_enter Tryd.func13, Tryd.ntmps13
  go_wp2
  go_loopw [3, 4] (fun v c wr => ∃ k : Nat, k ≤ 32 ∧ c = .int .i64 k ∧ (∃ ao cap, v = .slice ao (2 * k) cap) ∧ wr.ownsRow (w.heap.size + 1) 5 1 v ((textTo f k).map w8).length (bytesL ((textTo f k).map w8)) ∧ wr.heap[w.heap.size]? = some (.cells (row .u8 32 f) 23 (0, 0)) ∧ w.heap.size < wr.heap.size ∧ Below w.heap.size w wr) (fun _ c _ => 32 - (intOf c).toNat)
  case atStart => exact ⟨0, by omega, rfl, ⟨_, _, rfl⟩, ⟨rfl, .inl ⟨rfl, rfl⟩⟩, HD.out, by simp, HB.out⟩
  case round =>
    clear HD HB
    obtain ⟨k, hk, rfl, ⟨ao, cap, rfl⟩, hown, hd, hs, hb⟩ := hrel
    have HO := Lib.hid hown
    have HD := Lib.hid hd
    have HB := Lib.hid hb
    by_cases h32 : k < 32
    · have q0 : (k : Int) < 32 := by omega
      obtain ⟨x, hx⟩ : ∃ x : Nat, x = (f k).toNat := ⟨_, rfl⟩
      have hx2 := hf k
      have c0 := (cell_of_row wr _ k _ _ _ hd).trans (row_get .u8 32 f k h32)
      rw [show Go.Proofs.YtikhmhgjaipnaaaDoor.u32 (f k) = (x : Int) from by rw [hx]; rfl] at c0 hx2
      obtain ⟨a, ha⟩ : ∃ a : Nat, a = x / 16 := ⟨_, rfl⟩
      obtain ⟨b, hb'⟩ : ∃ b : Nat, b = x % 16 := ⟨_, rfl⟩
      have e1 : (x : Int) / 16 = (a : Int) := by omega
      have e2 : (x : Int).tmod 16 = (b : Int) := by rw [Int.tmod_eq_emod_of_nonneg (by omega)]; omega
      have ew : IntKind.u8.wrap (a : Int) = (a : Int) := by rw [IntKind.wrap_u8]; omega
      have ha16 : a < 16 := by omega
      have hb16 : b < 16 := by omega
      have HE := Lib.hid (show textTo f (k + 1) = textTo f k ++ [figure a, figure b] by rw [textTo_succ, ha, hb', hx])
      have HS := Lib.hid hs
      clear hown hd hb ha hb' hx hs
      -- TEXT-REGION
      have hN := has_new wr 5 (0, 0) ([figure a, figure b].map w8)
      rw [show (bytesL ([figure a, figure b].map w8)).toArray = #[.int .u8 (figN a : Int), .int .u8 (figN b : Int)] by rw [bytesL_map]; simp [figure_toNat a ha16, figure_toNat b hb16]] at hN
      have HN := Lib.hid hN
      clear hN
      go_wp2
      refine wp_region_held_drew (S := fun w' => w'.cell? ⟨w.heap.size, k, none⟩ = some (.int .u8 (x : Int))) (by kernel_rfl) c0 (fun hHeld => ?_)
      refine take_at (i := 0) 9 rfl rfl (by kernel_rfl) (by kernel_rfl) (by kernel_rfl) (fun _ _ _ h => h) (sure_yes (by rfl) (fun w => by go_simp; try with_reducible rfl)) (by assumption) ?_
      simp only [List.setIfInBounds_toArray, List.set_cons_zero, List.set_cons_succ]
      refine take_at (i := 1) 10 rfl rfl (by kernel_rfl) (by kernel_rfl) (by kernel_rfl) (fun _ _ _ h => h) (sure_yes (by rfl) (fun w => by go_simp; try with_reducible rfl)) (by assumption) ?_
      simp only [List.setIfInBounds_toArray, List.set_cons_zero, List.set_cons_succ]
      refine take_at (i := 2) 11 rfl rfl (by kernel_rfl) (by kernel_rfl) (by kernel_rfl) (fun _ _ _ h => h) (sure_yes (by rfl) (fun w => by go_simp; try with_reducible rfl)) (by assumption) ?_
      simp only [List.setIfInBounds_toArray, List.set_cons_zero, List.set_cons_succ]
      refine take_at (i := 6) 15 rfl rfl (by kernel_rfl) (by kernel_rfl) (by kernel_rfl) (fun _ _ _ h => h) (sure_yes (by rfl) (fun w => by go_simp; try with_reducible rfl)) (by assumption) ?_
      simp only [List.setIfInBounds_toArray, List.set_cons_zero, List.set_cons_succ]
      refine take_at (i := 7) 16 rfl rfl (by kernel_rfl) (by kernel_rfl) (by kernel_rfl) (fun _ _ _ h => h) (sure_yes (by rfl) (fun w => by go_simp; try with_reducible rfl)) (by assumption) ?_
      simp only [List.setIfInBounds_toArray, List.set_cons_zero, List.set_cons_succ]
      refine take_at (i := 3) 12 rfl rfl (by kernel_rfl) (by kernel_rfl) (by kernel_rfl) (fun _ _ _ h => h) (cell_yields (by rfl) 5 (.tmp 11) rfl w.heap.size k rfl .u8 x Tryd.underlying5 (fun _ h => h)) (by assumption) ?_
      simp only [List.setIfInBounds_toArray, List.set_cons_zero, List.set_cons_succ]
      refine take_at (i := 4) 13 rfl rfl (by kernel_rfl) (by kernel_rfl) (by kernel_rfl) (fun _ _ _ h => h) (sure_yes (by rfl) (fun w => by go_simp; try with_reducible rfl)) (by assumption) ?_
      simp only [List.setIfInBounds_toArray, List.set_cons_zero, List.set_cons_succ]
      refine take_at (i := 8) 17 rfl rfl (by kernel_rfl) (by kernel_rfl) (by kernel_rfl) (fun _ _ _ h => h) (cell_yields (by rfl) 5 (.tmp 16) rfl w.heap.size k rfl .u8 x Tryd.underlying5 (fun _ h => h)) (by assumption) ?_
      simp only [List.setIfInBounds_toArray, List.set_cons_zero, List.set_cons_succ]
      refine take_at (i := 9) 18 rfl rfl (by kernel_rfl) (by kernel_rfl) (by kernel_rfl) (fun _ _ _ h => h) (sure_yes (by rfl) (fun w => by go_simp; try with_reducible rfl)) (by assumption) ?_
      simp only [List.setIfInBounds_toArray, List.set_cons_zero, List.set_cons_succ]
      refine wpAnyH_ready (rs := [5]) (by kernel_rfl) (by simp) ?_
      refine AllReadyH.cons rfl (fun K hK => ?_) AllReadyH.nil
      go_simp
      go_at_call 20
      refine (refFigure_any a ha16 _).mono ?_
      rintro e w' ⟨rfl, rfl⟩
      go_wp2_with fail
      refine hK.out _ _ (by assumption) (fun _ => ?_)
      clear hK K
      refine wpAnyH_ready (rs := [10]) (by kernel_rfl) (by simp) ?_
      refine AllReadyH.cons rfl (fun K hK => ?_) AllReadyH.nil
      go_simp
      go_at_call 20
      refine (refFigure_any b hb16 _).mono ?_
      rintro e w' ⟨rfl, rfl⟩
      go_wp2_with fail
      refine hK.out _ _ (by assumption) (fun _ => ?_)
      clear hK K
      refine wpAnyH_ready (rs := [11]) (by kernel_rfl) (by simp) ?_
      refine AllReadyH.cons rfl (fun K hK => ?_) AllReadyH.nil
      go_simp
      refine hK.out _ _ (cell_alloc_drew c0 _) (fun hS1 => ?_)
      clear hK K
      refine wpAnyH_ready (rs := [12]) (by kernel_rfl) (by simp) ?_
      refine AllReadyH.cons rfl (fun K hK => ?_) AllReadyH.nil
      refine append_has_wp 21 rfl (by rfl) (.tmp 9) (.tmp 20) 39 rfl (w.heap.size + 1) 5 i0 Tryd.underlying39 hi hz0 hz1 hz2 (.slice ao (2 * k) cap) ((textTo f k).map w8) ([figure a, figure b].map w8) rfl (HO.out.alloc _) (.slice (some ⟨wr.heap.size, 0, none⟩) 2 2) rfl HN.out (by simp [textTo_length]; omega) (by simp; have := HS.out; omega) ?_
      intro v1 w1 ho1 hg1 hn1
      have hrow := fun k hk => (HO.out.lt k hk).1
      have hb1 : w1.heap[w.heap.size]? = wr.heap[w.heap.size]? := (hg1.block w.heap.size (by simp; have := HS.out; omega) (fun h => absurd (hrow _ h.symm) (by omega))).trans (by rw [show ((wr.alloc _).drew).heap[w.heap.size]? = (wr.alloc _).heap[w.heap.size]? from rfl, heap_at_alloc, if_neg (by have := HS.out; omega)])
      refine hK.out _ _ ((cell_same hb1 k).trans c0) (fun hS2 => ?_)
      clear hK K
      obtain ⟨ao1, cap1, rfl⟩ := own_slice ho1
      have HO1 := Lib.hid ho1
      have HD1 := Lib.hid (hb1.trans HD.out)
      have HB1 := Lib.hid (below_grown (below_draws (HB.out.alloc HB.out.size _) 1) hg1 (by simp; have := HS.out; omega) (fun k hk => Nat.le_of_succ_le (hrow k hk)))
      have HS1 := Lib.hid (show w.heap.size < w1.heap.size from Nat.lt_of_lt_of_le HS.out (Nat.le_trans (by simp) hg1.size))
      clear ho1 hg1 hn1 hrow hb1
      refine take_at (i := 13) 3 rfl rfl (by kernel_rfl) (by kernel_rfl) (by kernel_rfl) (fun _ _ _ h => h) (sure_yes (by rfl) (fun w => by go_simp; try with_reducible rfl)) (by assumption) ?_
      simp only [List.setIfInBounds_toArray, List.set_cons_zero, List.set_cons_succ]
      refine wpAnyH_done (by kernel_rfl) ?_ _
      clear HO HD HB HN HS c0 hS1 hS2
      go_wp2
      have h := HO1.out
      rw [← List.map_append, ← HE.out, show ((textTo f (k + 1)).map w8).length = (textTo f k).length + 2 from by simp [textTo_length]; omega] at h
      refine ⟨⟨k + 1, by omega, by go_num, ⟨ao1, cap1, by rw [textTo_length]; rfl⟩, ?_, HD1.out, HS1.out, HB1.out⟩, by simp [intOf]; omega⟩
      rw [show ((textTo f (k + 1)).map w8).length = (textTo f k).length + 2 from by simp [textTo_length]; omega]
      exact h
    · obtain rfl : k = 32 := by omega
      have hcv := conv_text Tryd.underlying39 Tryd.underlying5 Tryd.underlying9 (show HasText wr _ (textF f) from has_of_own hown)
      clear hown HO HD hd hf
      go_wp2
      go_ret
      exact ⟨rfl, hb⟩
end Go.Proofs.YtikhmhgjaipnaaaDoor
