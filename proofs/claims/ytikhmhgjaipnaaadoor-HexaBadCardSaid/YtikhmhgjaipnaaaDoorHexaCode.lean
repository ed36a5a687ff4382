/-
What package hexa answers, walked over the landed code: Text, Parse, Number, Read.
-/
import Derived.Test.YtikhmhgjaipnaaaDoorHexaFace
import Derived.Test.YtikhmhgjaipnaaaDoorRef04Read
import Derived.Test.YtikhmhgjaipnaaaDoorShelf
namespace Go.Proofs.YtikhmhgjaipnaaaDoor
open Go.RowKit
/-- What worth answers. -/
def worthI (c : UInt8) : Nat := match fig c with | some n => n | none => 16
theorem worth_any (c : UInt8) (w : World) : Calls Tryd.prog 18 #[.int .u8 (c.toNat : Int)] w fun e w' => e = .returned (.int .u8 (worthI c : Int)) ∧ w = w' := by
  obtain ⟨x, hx⟩ : ∃ x : Nat, x = c.toNat := ⟨_, rfl⟩
  have hxlt := UInt8.toNat_lt c
  have HX := Lib.hid hx
  rw [← hx] at hxlt ⊢
  clear hx
  by_cases h1 : 48 ≤ x ∧ x ≤ 57
  · have HW := Lib.hid (show worthI c = x - 48 by unfold worthI fig; rw [← HX.out, if_pos h1])
    obtain ⟨d, hd⟩ : ∃ d : Nat, d = x - 48 := ⟨_, rfl⟩
    have b1 : decide ((48 : Int) ≤ (x : Int)) = true := decide_eq_true (by omega)
    have b2 : decide ((x : Int) ≤ 57) = true := decide_eq_true (by omega)
    have e1 : (x : Int) - 48 = (d : Int) := by omega
    have e2 : IntKind.u8.wrap (d : Int) = (d : Int) := by rw [IntKind.wrap_u8]; omega
    have HD := Lib.hid hd
    clear hd h1 hxlt
    go_enter Tryd.func18, Tryd.ntmps18
    go_wp2
    go_ret
    exact ⟨by rw [HW.out, ← HD.out]; rfl, rfl⟩
  · by_cases h2 : 97 ≤ x ∧ x ≤ 102
    · have HW := Lib.hid (show worthI c = x - 87 by unfold worthI fig; rw [← HX.out, if_neg h1, if_pos h2])
      obtain ⟨d, hd⟩ : ∃ d : Nat, d = x - 97 := ⟨_, rfl⟩
      obtain ⟨g, hg⟩ : ∃ g : Nat, g = d + 10 := ⟨_, rfl⟩
      have b1 : decide ((48 : Int) ≤ (x : Int)) = true := decide_eq_true (by omega)
      have b2 : decide ((x : Int) ≤ 57) = false := decide_eq_false (by omega)
      have b3 : decide ((97 : Int) ≤ (x : Int)) = true := decide_eq_true (by omega)
      have b4 : decide ((x : Int) ≤ 102) = true := decide_eq_true (by omega)
      have e1 : (x : Int) - 97 = (d : Int) := by omega
      have e2 : IntKind.u8.wrap (d : Int) = (d : Int) := by rw [IntKind.wrap_u8]; omega
      have e3 : (d : Int) + 10 = (g : Int) := by omega
      have e4 : IntKind.u8.wrap (g : Int) = (g : Int) := by rw [IntKind.wrap_u8]; omega
      have HD := Lib.hid (show g = x - 87 by omega)
      clear hd hg h1 h2 hxlt
      go_enter Tryd.func18, Tryd.ntmps18
      go_wp2
      go_ret
      exact ⟨by rw [HW.out, ← HD.out]; rfl, rfl⟩
    · have HW := Lib.hid (show worthI c = 16 by unfold worthI fig; rw [← HX.out, if_neg h1, if_neg h2])
      by_cases c1 : 48 ≤ x
      · have b1 : decide ((48 : Int) ≤ (x : Int)) = true := decide_eq_true (by omega)
        have b2 : decide ((x : Int) ≤ 57) = false := decide_eq_false (by omega)
        by_cases c2 : 97 ≤ x
        · have b3 : decide ((97 : Int) ≤ (x : Int)) = true := decide_eq_true (by omega)
          have b4 : decide ((x : Int) ≤ 102) = false := decide_eq_false (by omega)
          clear h1 h2 c1 c2 hxlt
          go_enter Tryd.func18, Tryd.ntmps18
          go_wp2
          go_ret
          exact ⟨by rw [HW.out]; rfl, rfl⟩
        · have b3 : decide ((97 : Int) ≤ (x : Int)) = false := decide_eq_false (by omega)
          clear h1 h2 c1 c2 hxlt
          go_enter Tryd.func18, Tryd.ntmps18
          go_wp2
          go_ret
          exact ⟨by rw [HW.out]; rfl, rfl⟩
      · have b1 : decide ((48 : Int) ≤ (x : Int)) = false := decide_eq_false (by omega)
        have b3 : decide ((97 : Int) ≤ (x : Int)) = false := decide_eq_false (by omega)
        clear h1 h2 c1 hxlt
        go_enter Tryd.func18, Tryd.ntmps18
        go_wp2
        go_ret
        exact ⟨by rw [HW.out]; rfl, rfl⟩
theorem dec_digs (m : Nat) : Lib.decDigits m = digs m := by
  induction m using Nat.strongRecOn with
  | _ m ih =>
    by_cases h : m < 10
    · rw [digs_lo m h, Lib.decDigits, dif_pos h]
    · rw [digs_hi m (by omega), Lib.decDigits, dif_neg h, ih _ (by omega)]
theorem itoa_num (n : Int) : Lib.itoa n = numL n := by
  unfold Lib.itoa numL
  by_cases h : n < 0
  · rw [if_pos h, if_pos h, dec_digs]
  · rw [if_neg h, if_neg h, dec_digs]; congr 1; omega
theorem number_any (w : World) (n : Int) (h0 : -9223372036854775808 ≤ n) (h1 : n < 9223372036854775808) (hT : PowTab w) :
    Calls Tryd.prog 16 #[.int .i64 n] w fun e w' => e = .returned (.string (str (numL n))) ∧ Below w.heap.size w w' := by
  have HC := Lib.hid (Tryd.strconv_FormatInt_10 n h0 (by omega) w hT)
  go_enter Tryd.func16, Tryd.ntmps16
  go_wp2_with (first | (go_at_call 21; refine HC.out.mono ?_; rintro e w' ⟨rfl, k, os, rfl⟩))
  go_ret
  exact ⟨by rw [itoa_num]; rfl, ⟨rfl, rfl, rfl, by simp [Sort.grow, World.drewN], fun i hi => Array.getElem?_append_left hi⟩⟩
theorem hex_at : ∀ a, a < 16 → ([48, 49, 50, 51, 52, 53, 54, 55, 56, 57, 97, 98, 99, 100, 101, 102] : List UInt8)[a]? = some (figure a) := by decide
theorem hex_ix (a : Nat) (ha : a < 16) (w : World) : (Instr.index 9 (.string ⟨#[48, 49, 50, 51, 52, 53, 54, 55, 56, 57, 97, 98, 99, 100, 101, 102]⟩) (.int .u8 (a : Int))).run Tryd.prog w = .ok (.int .u8 (figN a : Int)) w := by
  have h := index_str (P := Tryd.prog) w [48, 49, 50, 51, 52, 53, 54, 55, 56, 57, 97, 98, 99, 100, 101, 102] .u8 a (figure a) (hex_at a ha) Tryd.underlying9
  rwa [figure_toNat a ha] at h
theorem index_yields {P : Program} {ops : Array Oper} {S : World → Prop} {o : Oper} {a : Act} {u v r : Value} (hw : Region.wanted o (yielded ops a.tmps) = true) (t : TypeId) (x y : Operand) (ho : o.op = .index t x y) (hx : a.eval x = u) (hy : a.eval y = v)
    (h : ∀ w, (Instr.index t u v).run P w = .ok r w) : YieldsIf P ops S o r a := .inl ⟨hw, fun w _ => by
  simp only [execOp, ho, hx, hy, Sem.run_bind, h w, Result.andThen_ok, Sem.run_pure]⟩
theorem cellsOne : Tryd.prog.cellsOf 5 = 1 := by kernel_rfl
theorem and15 (x : Nat) (h : x < 256) : bits .and .u8 (x : Int) 15 = ((x % 16 : Nat) : Int) := by
  rw [show (15 : Int) = ((15 : Nat) : Int) from rfl, u8_and_nat x 15 h (by decide), Nat.and_two_pow_sub_one_eq_mod x 4]
set_option maxHeartbeats 2000000 in
theorem text_any (w : World) (f : Nat → BitVec 32) (hf : ∀ i, u32 (f i) < 256) : Calls Tryd.prog 12 #[.agg (row .u8 32 f)] w fun e w' => e = .returned (.string (str (textF f))) ∧ Below w.heap.size w w' := by
  obtain ⟨i0, hi, hz0, hz1, hz2⟩ := info_parts infoByte
  have HD := Lib.hid (heap_last w (.cells (row .u8 32 f) 23 (0, 0)))
  have HB := Lib.hid ((Below.refl w.heap.size w).alloc (Nat.le_refl _) (.cells (row .u8 32 f) 23 (0, 0)))
  go_enter Tryd.func12, Tryd.ntmps12
  go_wp2_with (first
    | (refine wpList_make_own _ rfl (.const (.int .i64 0)) (.const (.int .i64 64)) 39 rfl (w.heap.size + 1) 5 i0 (.int .u8 0) 1 Tryd.underlying39 hi hz0 hz1 .i64 .i64 64 64 rfl rfl rfl (by rw [hz2]; decide) (by decide) (by simp) ?_; intro w1 ho1 hg1; rw [size_of_alloc] at ho1; have HO1 := Lib.hid ho1; have HD1 := Lib.hid ((hg1.block w.heap.size (by simp) (fun h => by cases h)).trans HD.out); have HB1 := Lib.hid (below_grown HB.out hg1 (by simp) (fun k hk => by cases hk)); have HS1 := Lib.hid (show w.heap.size < w1.heap.size from Nat.lt_of_lt_of_le (by simp) hg1.size); clear ho1 hg1 HD HB)
    | (refine wpList_load_row rfl 23 (.tmp 1) rfl w.heap.size rfl 23 _ (0, 0) _ HD1.out Tryd.underlying23 rfl (by kernel_rfl) ?_))
  go_loopw [3, 5, 8] (fun v _ c wr => ∃ k : Nat, k ≤ 32 ∧ c = .int .i64 k ∧ (∃ ao cap, v = .slice ao (2 * k) cap) ∧ wr.ownsRow (w.heap.size + 1) 5 1 v ((textTo f k).map w8).length (bytesL ((textTo f k).map w8)) ∧ w.heap.size < wr.heap.size ∧ Below w.heap.size w wr) (fun _ _ c _ => 32 - (intOf c).toNat)
  case atStart => exact ⟨0, by omega, rfl, ⟨_, _, rfl⟩, HO1.out, HS1.out, HB1.out⟩
  case round =>
    clear HO1 HD1 HB1 HS1
    obtain ⟨k, hk, rfl, ⟨ao, cap, rfl⟩, hown, hs, hb⟩ := hrel
    have HO := Lib.hid hown
    have HB := Lib.hid hb
    have HS := Lib.hid hs
    clear hown hb hs
    by_cases h32 : k < 32
    · have q0 : (k : Int) < 32 := by omega
      obtain ⟨x, hx⟩ : ∃ x : Nat, x = (f k).toNat := ⟨_, rfl⟩
      have hx2 := hf k
      have ixR : ∀ w, (Instr.index 23 (.agg (row .u8 32 f)) (.int .i64 (k : Int))).run Tryd.prog w = .ok (.int .u8 (Go.Proofs.YtikhmhgjaipnaaaDoor.u32 (f k))) w := fun w => index_row w f k h32 Tryd.underlying23 Tryd.underlying5 cellsOne
      rw [show Go.Proofs.YtikhmhgjaipnaaaDoor.u32 (f k) = (x : Int) from by rw [hx]; rfl] at ixR hx2
      obtain ⟨a, ha⟩ : ∃ a : Nat, a = x / 16 := ⟨_, rfl⟩
      obtain ⟨b, hb'⟩ : ∃ b : Nat, b = x % 16 := ⟨_, rfl⟩
      have e1 : (x : Int) / 16 = (a : Int) := by omega
      have e2 : bits .and .u8 (x : Int) 15 = (b : Int) := by rw [hb']; exact and15 x (by omega)
      have ew : IntKind.u8.wrap (a : Int) = (a : Int) := by rw [IntKind.wrap_u8]; omega
      have ha16 : a < 16 := by omega
      have hb16 : b < 16 := by omega
      have ixA := hex_ix a ha16
      have ixB := hex_ix b hb16
      have HE := Lib.hid (show textTo f (k + 1) = textTo f k ++ [figure a, figure b] by rw [textTo_succ, ha, hb', hx])
      have hN := has_new wr 5 (0, 0) ([figure a, figure b].map w8)
      rw [show (bytesL ([figure a, figure b].map w8)).toArray = #[.int .u8 (figN a : Int), .int .u8 (figN b : Int)] by rw [bytesL_map]; simp [figure_toNat a ha16, figure_toNat b hb16]] at hN
      have HN := Lib.hid hN
      clear hN ha hb' hx
      go_wp2
      refine wp_region_held_drew (S := fun _ => True) (by kernel_rfl) trivial (fun hHeld => ?_)
      refine take_at (i := 0) 11 rfl rfl (by kernel_rfl) (by kernel_rfl) (by kernel_rfl) (fun _ _ _ h => h) (sure_yes (by rfl) (fun w => by go_simp; try with_reducible rfl)) trivial ?_
      simp only [List.setIfInBounds_toArray, List.set_cons_zero, List.set_cons_succ]
      refine take_at (i := 1) 12 rfl rfl (by kernel_rfl) (by kernel_rfl) (by kernel_rfl) (fun _ _ _ h => h) (sure_yes (by rfl) (fun w => by go_simp; try with_reducible rfl)) trivial ?_
      simp only [List.setIfInBounds_toArray, List.set_cons_zero, List.set_cons_succ]
      refine take_at (i := 2) 13 rfl rfl (by kernel_rfl) (by kernel_rfl) (by kernel_rfl) (fun _ _ _ h => h) (sure_yes (by rfl) (fun w => by go_simp; try with_reducible rfl)) trivial ?_
      simp only [List.setIfInBounds_toArray, List.set_cons_zero, List.set_cons_succ]
      refine take_at (i := 3) 14 rfl rfl (by kernel_rfl) (by kernel_rfl) (by kernel_rfl) (fun _ _ _ h => h) (index_yields (by rfl) 9 _ _ rfl rfl rfl ixA) trivial ?_
      simp only [List.setIfInBounds_toArray, List.set_cons_zero, List.set_cons_succ]
      refine take_at (i := 4) 15 rfl rfl (by kernel_rfl) (by kernel_rfl) (by kernel_rfl) (fun _ _ _ h => h) (sure_yes (by rfl) (fun w => by go_simp; try with_reducible rfl)) trivial ?_
      simp only [List.setIfInBounds_toArray, List.set_cons_zero, List.set_cons_succ]
      refine take_at (i := 5) 16 rfl rfl (by kernel_rfl) (by kernel_rfl) (by kernel_rfl) (fun _ _ _ h => h) (sure_yes (by rfl) (fun w => by go_simp; try with_reducible rfl)) trivial ?_
      simp only [List.setIfInBounds_toArray, List.set_cons_zero, List.set_cons_succ]
      refine take_at (i := 6) 17 rfl rfl (by kernel_rfl) (by kernel_rfl) (by kernel_rfl) (fun _ _ _ h => h) (index_yields (by rfl) 9 _ _ rfl rfl rfl ixB) trivial ?_
      simp only [List.setIfInBounds_toArray, List.set_cons_zero, List.set_cons_succ]
      refine wpAnyH_ready (rs := [7]) (by kernel_rfl) (by simp) ?_
      refine AllReadyH.cons rfl (fun K hK => ?_) AllReadyH.nil
      go_simp
      refine hK.out _ _ trivial (fun _ => ?_)
      clear hK K
      refine wpAnyH_ready (rs := [8]) (by kernel_rfl) (by simp) ?_
      refine AllReadyH.cons rfl (fun K hK => ?_) AllReadyH.nil
      refine append_has_wp 19 rfl (by rfl) (.tmp 11) (.tmp 18) 39 rfl (w.heap.size + 1) 5 i0 Tryd.underlying39 hi hz0 hz1 hz2 (.slice ao (2 * k) cap) ((textTo f k).map w8) ([figure a, figure b].map w8) rfl (HO.out.alloc _) (.slice (some ⟨wr.heap.size, 0, none⟩) 2 2) rfl HN.out (by simp [textTo_length]; omega) (by simp; have := HS.out; omega) ?_
      intro v1 w1 ho1 hg1 hn1
      have hrow := fun k hk => (HO.out.lt k hk).1
      refine hK.out _ _ trivial (fun _ => ?_)
      clear hK K
      obtain ⟨ao1, cap1, rfl⟩ := own_slice ho1
      have HO1 := Lib.hid ho1
      have HB1 := Lib.hid (below_grown (below_draws (HB.out.alloc HB.out.size _) 1) hg1 (by simp; have := HS.out; omega) (fun k hk => Nat.le_of_succ_le (hrow k hk)))
      have HS1 := Lib.hid (show w.heap.size < w1.heap.size from Nat.lt_of_lt_of_le HS.out (Nat.le_trans (by simp) hg1.size))
      clear ho1 hg1 hn1 hrow
      refine take_at (i := 9) 3 rfl rfl (by kernel_rfl) (by kernel_rfl) (by kernel_rfl) (fun _ _ _ h => h) (sure_yes (by rfl) (fun w => by go_simp; try with_reducible rfl)) trivial ?_
      simp only [List.setIfInBounds_toArray, List.set_cons_zero, List.set_cons_succ]
      refine wpAnyH_done (by kernel_rfl) ?_ _

      clear HO HB HN HS
      go_wp2
      have h := HO1.out
      rw [← List.map_append, ← HE.out, show ((textTo f (k + 1)).map w8).length = (textTo f k).length + 2 from by simp [textTo_length]; omega] at h
      refine ⟨⟨k + 1, by omega, by go_num, ⟨ao1, cap1, by rw [textTo_length]; rfl⟩, ?_, HS1.out, HB1.out⟩, by simp [intOf]; omega⟩
      rw [show ((textTo f (k + 1)).map w8).length = (textTo f k).length + 2 from by simp [textTo_length]; omega]
      exact h
    · obtain rfl : k = 32 := by omega
      have hcv := conv_text Tryd.underlying39 Tryd.underlying5 Tryd.underlying9 (show HasText wr _ (textF f) from has_of_own HO.out)
      clear HO hf
      go_wp2
      go_ret
      exact ⟨rfl, HB.out⟩
end Go.Proofs.YtikhmhgjaipnaaaDoor
