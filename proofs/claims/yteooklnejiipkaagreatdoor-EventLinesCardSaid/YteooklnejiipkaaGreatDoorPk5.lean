/-
Texts that all claims of this seat share, part 5: HexaCode, HexaRead, DotText, VecTell, SeqCells, VecSeq, DotCut, DotCode.
-/
import Derived.Test.YteooklnejiipkaaGreatDoorShelf
import Derived.WalkMore
import Derived.ScopeJumps
import Derived.Lib.Join
import Derived.RangeFuncNested
import Derived.RangeFuncBound
import Derived.RangeFuncCalls
import Derived.RangeFuncLeaves
import Derived.RangeFuncFrom
import Derived.Shelf.Abstract
import Derived.Shelf.RegionOpen
import Derived.WalkKit
import Derived.OwnWalkIn
import Derived.TacticsInMore
import Derived.LoopNIn
import Derived.LoopIn
import Derived.Lib.IndexLaws
import Derived.OneCell
import Derived.Test.YteooklnejiipkaaGreatDoorPk4
namespace Go.Proofs.YteooklnejiipkaaGreatDoor
open Go.RowKit
/-- What worth answers. -/
def worthI (c : UInt8) : Nat := match fig c with | some n => n | none => 16
theorem worth_any (c : UInt8) (w : World) : Calls Tryz.prog 86 #[.int .u8 (c.toNat : Int)] w fun e w' => e = .returned (.int .u8 (worthI c : Int)) ∧ w = w' := by
  obtain ⟨x, hx⟩ : ∃ x : Nat, x = c.toNat := ⟨_, rfl⟩
  have hxlt := UInt8.toNat_lt c
  have HX := Lib.hid hx
  rw [← hx] at hxlt ⊢
  clear hx
  by_cases h1 : 48 ≤ x ∧ x ≤ 57
  · have HW := Lib.hid (show worthI c = x - 48 by unfold worthI fig; rw [← HX.out, if_pos h1])
    obtain ⟨d, hd⟩ : ∃ d : Nat, d = x - 48 := ⟨_, rfl⟩
    have b1 : decide ((48 : Int) ≤ (x : Int)) = true := decide_eq_true (by omega)
    have b2 : decide ((x : Int) ≤ 57) = true := decide_eq_true (by omega)
    have e1 : (x : Int) - 48 = (d : Int) := by omega
    have e2 : IntKind.u8.wrap (d : Int) = (d : Int) := by rw [IntKind.wrap_u8]; omega
    have HD := Lib.hid hd
    clear hd h1 hxlt
    go_enter Tryz.func86, Tryz.ntmps86
    go_wp2
    go_ret
    exact ⟨by rw [HW.out, ← HD.out]; rfl, rfl⟩
  · by_cases h2 : 97 ≤ x ∧ x ≤ 102
    · have HW := Lib.hid (show worthI c = x - 87 by unfold worthI fig; rw [← HX.out, if_neg h1, if_pos h2])
      obtain ⟨d, hd⟩ : ∃ d : Nat, d = x - 97 := ⟨_, rfl⟩
      obtain ⟨g, hg⟩ : ∃ g : Nat, g = d + 10 := ⟨_, rfl⟩
      have b1 : decide ((48 : Int) ≤ (x : Int)) = true := decide_eq_true (by omega)
      have b2 : decide ((x : Int) ≤ 57) = false := decide_eq_false (by omega)
      have b3 : decide ((97 : Int) ≤ (x : Int)) = true := decide_eq_true (by omega)
      have b4 : decide ((x : Int) ≤ 102) = true := decide_eq_true (by omega)
      have e1 : (x : Int) - 97 = (d : Int) := by omega
      have e2 : IntKind.u8.wrap (d : Int) = (d : Int) := by rw [IntKind.wrap_u8]; omega
      have e3 : (d : Int) + 10 = (g : Int) := by omega
      have e4 : IntKind.u8.wrap (g : Int) = (g : Int) := by rw [IntKind.wrap_u8]; omega
      have HD := Lib.hid (show g = x - 87 by omega)
      clear hd hg h1 h2 hxlt
      go_enter Tryz.func86, Tryz.ntmps86
      go_wp2
      go_ret
      exact ⟨by rw [HW.out, ← HD.out]; rfl, rfl⟩
    · have HW := Lib.hid (show worthI c = 16 by unfold worthI fig; rw [← HX.out, if_neg h1, if_neg h2])
      by_cases c1 : 48 ≤ x
      · have b1 : decide ((48 : Int) ≤ (x : Int)) = true := decide_eq_true (by omega)
        have b2 : decide ((x : Int) ≤ 57) = false := decide_eq_false (by omega)
        by_cases c2 : 97 ≤ x
        · have b3 : decide ((97 : Int) ≤ (x : Int)) = true := decide_eq_true (by omega)
          have b4 : decide ((x : Int) ≤ 102) = false := decide_eq_false (by omega)
          clear h1 h2 c1 c2 hxlt
          go_enter Tryz.func86, Tryz.ntmps86
          go_wp2
          go_ret
          exact ⟨by rw [HW.out]; rfl, rfl⟩
        · have b3 : decide ((97 : Int) ≤ (x : Int)) = false := decide_eq_false (by omega)
          clear h1 h2 c1 c2 hxlt
          go_enter Tryz.func86, Tryz.ntmps86
          go_wp2
          go_ret
          exact ⟨by rw [HW.out]; rfl, rfl⟩
      · have b1 : decide ((48 : Int) ≤ (x : Int)) = false := decide_eq_false (by omega)
        have b3 : decide ((97 : Int) ≤ (x : Int)) = false := decide_eq_false (by omega)
        clear h1 h2 c1 hxlt
        go_enter Tryz.func86, Tryz.ntmps86
        go_wp2
        go_ret
        exact ⟨by rw [HW.out]; rfl, rfl⟩
theorem dec_digs (m : Nat) : Lib.decDigits m = digs m := by
  induction m using Nat.strongRecOn with
  | _ m ih =>
    by_cases h : m < 10
    · rw [digs_lo m h, Lib.decDigits, dif_pos h]
    · rw [digs_hi m (by omega), Lib.decDigits, dif_neg h, ih _ (by omega)]
theorem itoa_num (n : Int) : Lib.itoa n = numL n := by
  unfold Lib.itoa numL
  by_cases h : n < 0
  · rw [if_pos h, if_pos h, dec_digs]
  · rw [if_neg h, if_neg h, dec_digs]; congr 1; omega
theorem number_any (w : World) (n : Int) (h0 : -9223372036854775808 ≤ n) (h1 : n < 9223372036854775808) (hT : PowTab w) :
    Calls Tryz.prog 38 #[.int .i64 n] w fun e w' => e = .returned (.string (str (numL n))) ∧ Below w.heap.size w w' := by
  have HC := Lib.hid (Tryz.strconv_FormatInt_10 n h0 (by omega) w hT)
  go_enter Tryz.func38, Tryz.ntmps38
  go_wp2_with (first | (go_at_call 65; refine HC.out.mono ?_; rintro e w' ⟨rfl, k, os, rfl⟩))
  go_ret
  exact ⟨by rw [itoa_num]; rfl, ⟨rfl, rfl, rfl, by simp [Sort.grow, World.drewN], fun i hi => Array.getElem?_append_left hi⟩⟩
theorem hex_at : ∀ a, a < 16 → ([48, 49, 50, 51, 52, 53, 54, 55, 56, 57, 97, 98, 99, 100, 101, 102] : List UInt8)[a]? = some (figure a) := by decide
theorem hex_ix (a : Nat) (ha : a < 16) (w : World) : (Instr.index 9 (.string ⟨#[48, 49, 50, 51, 52, 53, 54, 55, 56, 57, 97, 98, 99, 100, 101, 102]⟩) (.int .u8 (a : Int))).run Tryz.prog w = .ok (.int .u8 (figN a : Int)) w := by
  have h := index_str (P := Tryz.prog) w [48, 49, 50, 51, 52, 53, 54, 55, 56, 57, 97, 98, 99, 100, 101, 102] .u8 a (figure a) (hex_at a ha) Tryz.underlying9
  rwa [figure_toNat a ha] at h
theorem index_yields {P : Program} {ops : Array Oper} {S : World → Prop} {o : Oper} {a : Act} {u v r : Value} (hw : Region.wanted o (yielded ops a.tmps) = true) (t : TypeId) (x y : Operand) (ho : o.op = .index t x y) (hx : a.eval x = u) (hy : a.eval y = v)
    (h : ∀ w, (Instr.index t u v).run P w = .ok r w) : YieldsIf P ops S o r a := .inl ⟨hw, fun w _ => by
  simp only [execOp, ho, hx, hy, Sem.run_bind, h w, Result.andThen_ok, Sem.run_pure]⟩
theorem cellsOne : Tryz.prog.cellsOf 5 = 1 := by kernel_rfl
theorem and15 (x : Nat) (h : x < 256) : bits .and .u8 (x : Int) 15 = ((x % 16 : Nat) : Int) := by
  rw [show (15 : Int) = ((15 : Nat) : Int) from rfl, u8_and_nat x 15 h (by decide), Nat.and_two_pow_sub_one_eq_mod x 4]
set_option maxRecDepth 100000 in
set_option maxHeartbeats 2000000 in
theorem text_any (w : World) (f : Nat → BitVec 32) (hf : ∀ i, u32 (f i) < 256) : Calls Tryz.prog 37 #[.agg (row .u8 32 f)] w fun e w' => e = .returned (.string (str (textF f))) ∧ Below w.heap.size w w' := by
  obtain ⟨i0, hi, hz0, hz1, hz2⟩ := info_parts infoByte
  have HD := Lib.hid (heap_last w (.cells (row .u8 32 f) 27 (0, 0)))
  have HB := Lib.hid ((Below.refl w.heap.size w).alloc (Nat.le_refl _) (.cells (row .u8 32 f) 27 (0, 0)))
  go_enter Tryz.func37, Tryz.ntmps37
  go_wp2_with (first
    | (refine wpList_make_own _ rfl (.const (.int .i64 0)) (.const (.int .i64 64)) 85 rfl (w.heap.size + 1) 5 i0 (.int .u8 0) 1 Tryz.underlying85 hi hz0 hz1 .i64 .i64 64 64 rfl rfl rfl (by rw [hz2]; decide) (by decide) (by simp) ?_; intro w1 ho1 hg1; rw [size_of_alloc] at ho1; have HO1 := Lib.hid ho1; have HD1 := Lib.hid ((hg1.block w.heap.size (by simp) (fun h => by cases h)).trans HD.out); have HB1 := Lib.hid (below_grown HB.out hg1 (by simp) (fun k hk => by cases hk)); have HS1 := Lib.hid (show w.heap.size < w1.heap.size from Nat.lt_of_lt_of_le (by simp) hg1.size); clear ho1 hg1 HD HB)
    | (refine wpList_load_row rfl 27 (.tmp 1) rfl w.heap.size rfl 27 _ (0, 0) _ HD1.out Tryz.underlying27 rfl (by kernel_rfl) ?_))
  go_loopw [3, 5, 8] (fun v _ c wr => ∃ k : Nat, k ≤ 32 ∧ c = .int .i64 k ∧ (∃ ao cap, v = .slice ao (2 * k) cap) ∧ wr.ownsRow (w.heap.size + 1) 5 1 v ((textTo f k).map w8).length (bytesL ((textTo f k).map w8)) ∧ w.heap.size < wr.heap.size ∧ Below w.heap.size w wr) (fun _ _ c _ => 32 - (intOf c).toNat)
  case atStart => exact ⟨0, by omega, rfl, ⟨_, _, rfl⟩, HO1.out, HS1.out, HB1.out⟩
  case round =>
    clear HO1 HD1 HB1 HS1
    obtain ⟨k, hk, rfl, ⟨ao, cap, rfl⟩, hown, hs, hb⟩ := hrel
    have HO := Lib.hid hown
    have HB := Lib.hid hb
    have HS := Lib.hid hs
    clear hown hb hs
    by_cases h32 : k < 32
    · have q0 : (k : Int) < 32 := by omega
      obtain ⟨x, hx⟩ : ∃ x : Nat, x = (f k).toNat := ⟨_, rfl⟩
      have hx2 := hf k
      have ixR : ∀ w, (Instr.index 27 (.agg (row .u8 32 f)) (.int .i64 (k : Int))).run Tryz.prog w = .ok (.int .u8 (Go.Proofs.YteooklnejiipkaaGreatDoor.u32 (f k))) w := fun w => index_row w f k h32 Tryz.underlying27 Tryz.underlying5 cellsOne
      rw [show Go.Proofs.YteooklnejiipkaaGreatDoor.u32 (f k) = (x : Int) from by rw [hx]; rfl] at ixR hx2
      obtain ⟨a, ha⟩ : ∃ a : Nat, a = x / 16 := ⟨_, rfl⟩
      obtain ⟨b, hb'⟩ : ∃ b : Nat, b = x % 16 := ⟨_, rfl⟩
      have e1 : (x : Int) / 16 = (a : Int) := by omega
      have e2 : bits .and .u8 (x : Int) 15 = (b : Int) := by rw [hb']; exact and15 x (by omega)
      have ew : IntKind.u8.wrap (a : Int) = (a : Int) := by rw [IntKind.wrap_u8]; omega
      have ha16 : a < 16 := by omega
      have hb16 : b < 16 := by omega
      have ixA := hex_ix a ha16
      have ixB := hex_ix b hb16
      have HE := Lib.hid (show textTo f (k + 1) = textTo f k ++ [figure a, figure b] by rw [textTo_succ, ha, hb', hx])
      have hN := has_new wr 5 (0, 0) ([figure a, figure b].map w8)
      rw [show (bytesL ([figure a, figure b].map w8)).toArray = #[.int .u8 (figN a : Int), .int .u8 (figN b : Int)] by rw [bytesL_map]; simp [figure_toNat a ha16, figure_toNat b hb16]] at hN
      have HN := Lib.hid hN
      clear hN ha hb' hx
      go_wp2
      refine wp_region_held_drew (S := fun _ => True) (by kernel_rfl) trivial (fun hHeld => ?_)
      refine take_at (i := 0) 11 rfl rfl (by kernel_rfl) (by kernel_rfl) (by kernel_rfl) (fun _ _ _ h => h) (sure_yes (by rfl) (fun w => by go_simp; try with_reducible rfl)) trivial ?_
      simp only [List.setIfInBounds_toArray, List.set_cons_zero, List.set_cons_succ]
      refine take_at (i := 1) 12 rfl rfl (by kernel_rfl) (by kernel_rfl) (by kernel_rfl) (fun _ _ _ h => h) (sure_yes (by rfl) (fun w => by go_simp; try with_reducible rfl)) trivial ?_
      simp only [List.setIfInBounds_toArray, List.set_cons_zero, List.set_cons_succ]
      refine take_at (i := 2) 13 rfl rfl (by kernel_rfl) (by kernel_rfl) (by kernel_rfl) (fun _ _ _ h => h) (sure_yes (by rfl) (fun w => by go_simp; try with_reducible rfl)) trivial ?_
      simp only [List.setIfInBounds_toArray, List.set_cons_zero, List.set_cons_succ]
      refine take_at (i := 3) 14 rfl rfl (by kernel_rfl) (by kernel_rfl) (by kernel_rfl) (fun _ _ _ h => h) (index_yields (by rfl) 9 _ _ rfl rfl rfl ixA) trivial ?_
      simp only [List.setIfInBounds_toArray, List.set_cons_zero, List.set_cons_succ]
      refine take_at (i := 4) 15 rfl rfl (by kernel_rfl) (by kernel_rfl) (by kernel_rfl) (fun _ _ _ h => h) (sure_yes (by rfl) (fun w => by go_simp; try with_reducible rfl)) trivial ?_
      simp only [List.setIfInBounds_toArray, List.set_cons_zero, List.set_cons_succ]
      refine take_at (i := 5) 16 rfl rfl (by kernel_rfl) (by kernel_rfl) (by kernel_rfl) (fun _ _ _ h => h) (sure_yes (by rfl) (fun w => by go_simp; try with_reducible rfl)) trivial ?_
      simp only [List.setIfInBounds_toArray, List.set_cons_zero, List.set_cons_succ]
      refine take_at (i := 6) 17 rfl rfl (by kernel_rfl) (by kernel_rfl) (by kernel_rfl) (fun _ _ _ h => h) (index_yields (by rfl) 9 _ _ rfl rfl rfl ixB) trivial ?_
      simp only [List.setIfInBounds_toArray, List.set_cons_zero, List.set_cons_succ]
      refine wpAnyH_ready (rs := [7]) (by kernel_rfl) (by simp) ?_
      refine AllReadyH.cons rfl (fun K hK => ?_) AllReadyH.nil
      go_simp
      refine hK.out _ _ trivial (fun _ => ?_)
      clear hK K
      refine wpAnyH_ready (rs := [8]) (by kernel_rfl) (by simp) ?_
      refine AllReadyH.cons rfl (fun K hK => ?_) AllReadyH.nil
      refine append_has_wp 19 rfl (by rfl) (.tmp 11) (.tmp 18) 85 rfl (w.heap.size + 1) 5 i0 Tryz.underlying85 hi hz0 hz1 hz2 (.slice ao (2 * k) cap) ((textTo f k).map w8) ([figure a, figure b].map w8) rfl (HO.out.alloc _) (.slice (some ⟨wr.heap.size, 0, none⟩) 2 2) rfl HN.out (by simp [textTo_length]; omega) (by simp; have := HS.out; omega) ?_
      intro v1 w1 ho1 hg1 hn1
      have hrow := fun k hk => (HO.out.lt k hk).1
      refine hK.out _ _ trivial (fun _ => ?_)
      clear hK K
      obtain ⟨ao1, cap1, rfl⟩ := own_slice ho1
      have HO1 := Lib.hid ho1
      have HB1 := Lib.hid (below_grown (below_draws (HB.out.alloc HB.out.size _) 1) hg1 (by simp; have := HS.out; omega) (fun k hk => Nat.le_of_succ_le (hrow k hk)))
      have HS1 := Lib.hid (show w.heap.size < w1.heap.size from Nat.lt_of_lt_of_le HS.out (Nat.le_trans (by simp) hg1.size))
      clear ho1 hg1 hn1 hrow
      refine take_at (i := 9) 3 rfl rfl (by kernel_rfl) (by kernel_rfl) (by kernel_rfl) (fun _ _ _ h => h) (sure_yes (by rfl) (fun w => by go_simp; try with_reducible rfl)) trivial ?_
      simp only [List.setIfInBounds_toArray, List.set_cons_zero, List.set_cons_succ]
      refine wpAnyH_done (by kernel_rfl) ?_ _

      clear HO HB HN HS
      go_wp2
      have h := HO1.out
      rw [← List.map_append, ← HE.out, show ((textTo f (k + 1)).map w8).length = (textTo f k).length + 2 from by simp [textTo_length]; omega] at h
      refine ⟨⟨k + 1, by omega, by go_num, ⟨ao1, cap1, by rw [textTo_length]; rfl⟩, ?_, HS1.out, HB1.out⟩, by simp [intOf]; omega⟩
      rw [show ((textTo f (k + 1)).map w8).length = (textTo f k).length + 2 from by simp [textTo_length]; omega]
      exact h
    · obtain rfl : k = 32 := by omega
      have hcv := conv_text Tryz.underlying85 Tryz.underlying5 Tryz.underlying9 (show HasText wr _ (textF f) from has_of_own HO.out)
      clear HO hf
      go_wp2
      go_ret
      exact ⟨rfl, HB.out⟩
end Go.Proofs.YteooklnejiipkaaGreatDoor
namespace Go.Proofs.YteooklnejiipkaaGreatDoor
open Go.RowKit
theorem worth_dig {c : UInt8} (h : isDig c = true) : worthI c = c.toNat - 48 ∧ worthI c ≤ 9 := by
  simp only [isDig, Bool.and_eq_true, decide_eq_true_eq] at h
  have : worthI c = c.toNat - 48 := by unfold worthI fig; rw [if_pos h]
  omega
theorem worth_nodig {c : UInt8} (h : ¬ isDig c = true) : 9 < worthI c := by
  simp only [isDig, Bool.and_eq_true, decide_eq_true_eq] at h
  unfold worthI fig
  rw [if_neg h]
  by_cases h2 : 97 ≤ c.toNat ∧ c.toNat ≤ 102
  · rw [if_pos h2]; show 9 < c.toNat - 87; omega
  · rw [if_neg h2]; decide
theorem val_next (s : List UInt8) (k : Nat) (c : UInt8) (hc : s[k]? = some c) : valN (s.take (k + 1)) = 10 * valN (s.take k) + (c.toNat - 48) := by
  obtain ⟨hk, rfl⟩ := List.getElem?_eq_some_iff.1 hc
  rw [List.take_succ_eq_append_getElem hk, valN_snoc]
theorem val_take_le (s : List UInt8) (k m : Nat) (h : k ≤ m) : valN (s.take k) ≤ valN (s.take m) := by
  induction m with
  | zero => obtain rfl : k = 0 := by omega
            exact Nat.le_refl _
  | succ m ih =>
    rcases Nat.lt_or_ge k (m + 1) with h' | h'
    · have h1 := ih (by omega)
      rcases Nat.lt_or_ge m s.length with hm | hm
      · have := val_next s m s[m] (List.getElem?_eq_getElem hm); omega
      · rw [List.take_of_length_le (show s.length ≤ m + 1 by omega)]
        rwa [List.take_of_length_le hm] at h1
    · obtain rfl : k = m + 1 := by omega
      exact Nat.le_refl _
theorem num_over (s : List UInt8) (k : Nat) (c : UInt8) (hc : s[k]? = some c) (h : 9223372036854775808 ≤ 10 * valN (s.take k) + (c.toNat - 48)) : isNum s = false := by
  have h1 := val_next s k c hc
  have hk := (List.getElem?_eq_some_iff.1 hc).1
  have h2 := val_take_le s (k + 1) s.length (by omega)
  rw [List.take_length] at h2
  cases hn : isNum s with
  | false => rfl
  | true => have := (isNum_val hn).1; omega
theorem num_nodig (s : List UInt8) (c : UInt8) (hc : c ∈ s) (h : ¬ isDig c = true) : isNum s = false := by
  cases hn : isNum s with
  | false => rfl
  | true =>
    simp only [isNum, Bool.and_eq_true, List.all_eq_true] at hn
    exact absurd (hn.2.1 c hc) h
theorem digs_first (m : Nat) (h : (digs m)[0]? = some 48) : m = 0 := by
  induction m using Nat.strongRecOn with
  | _ m ih =>
    by_cases h10 : m < 10
    · rw [digs_lo m h10] at h
      have h1 : UInt8.ofNat (48 + m) = 48 := by simpa using h
      have h2 := dig_toNat m h10
      rw [h1, show (48 : UInt8).toNat = 48 from rfl] at h2
      omega
    · rw [digs_hi m (by omega), List.getElem?_append_left (digs_pos _)] at h
      have := ih (m / 10) (by omega) h
      omega
theorem num_lead (s : List UInt8) (h : s[0]? = some 48) (hs : s ≠ [48]) : isNum s = false := by
  cases hn : isNum s with
  | false => rfl
  | true =>
    have h1 := (isNum_val hn).2
    rw [← h1] at h
    have h2 := digs_first _ h
    rw [h2, digs_lo 0 (by omega)] at h1
    exact absurd h1.symm hs
theorem digs_val (n : Nat) : ∀ s : List UInt8, s.length = n → s ≠ [] → (∀ c ∈ s, isDig c = true) → (s[0]? = some 48 → s = [48]) → digs (valN s) = s := by
  induction n with
  | zero => intro s hl hne; exact absurd (List.eq_nil_of_length_eq_zero hl) hne
  | succ n ih =>
    intro s hl hne hd h0
    rcases List.eq_nil_or_concat s with rfl | ⟨t, c, rfl⟩
    · exact absurd rfl hne
    · rw [List.concat_eq_append] at *
      have hc := hd c (by simp)
      simp only [isDig, Bool.and_eq_true, decide_eq_true_eq] at hc
      have hcc : UInt8.ofNat (48 + (c.toNat - 48)) = c := by
        apply UInt8.toNat_inj.1
        rw [dig_toNat _ (by omega)]; omega
      rw [valN_snoc]
      by_cases ht : t = []
      · subst ht
        rw [valN_nil, digs_lo _ (by omega)]
        simp [hcc]
      · have ht0 : 0 < t.length := List.length_pos_iff.2 ht
        have hlt : t.length = n := by simpa using hl
        have hf : t[0]? ≠ some 48 := fun h => by
          have := h0 (by rw [List.getElem?_append_left ht0]; exact h)
          have := congrArg List.length this
          exact ht (by simpa using this)
        have h1 := ih t hlt ht (fun c hc => hd c (by simp [hc])) (fun h => absurd h hf)
        have hpos : 0 < valN t := by
          rcases Nat.eq_zero_or_pos (valN t) with h | h
          · rw [h, digs_lo 0 (by omega)] at h1
            rw [← h1] at hf
            exact absurd rfl hf
          · exact h
        rw [digs_hi _ (by omega), show (10 * valN t + (c.toNat - 48)) / 10 = valN t from by omega, show (10 * valN t + (c.toNat - 48)) % 10 = c.toNat - 48 from by omega, h1, hcc]
theorem num_good (s : List UInt8) (hne : s ≠ []) (hd : ∀ c ∈ s, isDig c = true) (h0 : s[0]? = some 48 → s = [48]) (hv : valN s < 9223372036854775808) : isNum s = true := by
  have h1 := digs_val s.length s rfl hne hd h0
  have h2 := digs_length 19 (valN s) (by omega) (by omega)
  rw [h1] at h2
  have he : s.isEmpty = false := by cases s with | nil => exact absurd rfl hne | cons a l => rfl
  have hall : s.all isDig = true := List.all_eq_true.2 hd
  simp [isNum, he, h2, hall, hv, h1]
theorem wrap_nat (p : Nat) (h : p < 9223372036854775808) : IntKind.i64.wrap (p : Int) = (p : Int) := by rw [IntKind.wrap_i64]; omega
theorem next_i64 (k : Nat) (h : k + 1 < 9223372036854775808) : wrap64 ((k : Int) + 1) = ((k + 1 : Nat) : Int) := by rw [wrap64]; omega
theorem read_step (v g : Nat) (hg : g ≤ 9) : ∃ M D : Int, (9223372036854775807 : Int) - (g : Int) = M ∧ IntKind.i64.wrap M = M ∧ M / (10 : Int) = D ∧ IntKind.i64.wrap D = D ∧ M.tdiv 10 = D ∧
    (D < (v : Int) → 9223372036854775808 ≤ 10 * v + g) ∧ (¬ D < (v : Int) → 10 * v + g < 9223372036854775808) := by
  refine ⟨_, _, rfl, by rw [IntKind.wrap_i64]; omega, rfl, by rw [IntKind.wrap_i64]; omega, Int.tdiv_eq_ediv_of_nonneg (by omega), fun h => by omega, fun h => by omega⟩
/-- What holds where a text that is no number's is left. -/
def LeftRead (s : List UInt8) (w : World) : Act → World → Prop := fun a' w' => (∃ u0' u1' u2' u3' u4' u5' u6' u7' u8' u9' u10' u11' u12' u13' u14' u15' u16' u17' u18' u19' u20' u21' u22' u23' u24' u25' u26' u27' u28' u29' u30' u31' u32' u33' u34' u35' u36' u37' u38' u39' u40' u41' u42' u43' u44' u45' u46' : Value, a' = { tmps := #[u0', u1', u2', u3', u4', u5', u6', u7', u8', u9', u10', u11', u12', u13', u14', u15', u16', u17', u18', u19', u20', u21', u22', u23', u24', u25', u26', u27', u28', u29', u30', u31', u32', u33', u34', u35', u36', u37', u38', u39', u40', u41', u42', u43', u44', u45', u46'], defers := [] }) ∧ isNum s = false ∧ w' = w
set_option maxRecDepth 100000 in
set_option maxHeartbeats 8000000 in
theorem read_any (w : World) (s : List UInt8) (most : Int) (hs : s.length < 9223372036854775808) : Calls Tryz.prog 71 #[.string (str s), .int .i64 most] w fun e w' => e = .returned (.tuple #[.int .i64 (readN s most), .int .i64 (readErr s most)]) ∧ Below w.heap.size w w' := by
  obtain ⟨n, hn⟩ : ∃ n, n = s.length := ⟨_, rfl⟩
  have HN := Lib.hid hn
  have hsz : (str s).size = n := by rw [str_size, hn]
  have hl : (str s).toList = s := str_toList s
  have HS := Lib.hid hs
  clear hn hs
  go_enter Tryz.func71, Tryz.ntmps71
  go_wp2
  refine wp_scope_jumps 0 (LeftRead s w) (fun _ _ => 0) rfl ?_ ?_
  · by_cases he : s = []
    · subst he
      go_wp2
      go_step3
      exact ⟨rfl, ⟨_, _, _, _, _, _, _, _, _, _, _, _, _, _, _, _, _, _, _, _, _, _, _, _, _, _, _, _, _, _, _, _, _, _, _, _, _, _, _, _, _, _, _, _, _, _, _, rfl⟩, rfl, rfl⟩
    · obtain ⟨c0, hc0⟩ : ∃ c, s[0]? = some c := by cases s with | nil => exact absurd rfl he | cons a l => exact ⟨a, rfl⟩
      obtain ⟨x, hx⟩ : ∃ x, c0.toNat = x := ⟨_, rfl⟩
      have i0 : ∀ w, (Instr.index 9 (.string (str s)) (.int .i64 0)).run Tryz.prog w = .ok (.int .u8 (x : Int)) w := fun w => by rw [← hx]; exact index_str (P := Tryz.prog) w s .i64 0 c0 hc0 Tryz.underlying9
      have te : (s == []) = false := by rw [beq_eq_false_iff_ne]; exact he
      have HX := Lib.hid (And.intro hx hc0)
      have HE := Lib.hid he
      clear hx hc0 he
      by_cases h48 : x = 48
      · have hc48 : s[0]? = some 48 := by
          rw [HX.out.2]; congr 1; exact UInt8.toNat_inj.1 (by rw [HX.out.1, h48]; rfl)
        replace i0 : ∀ w, (Instr.index 9 (.string (str s)) (.int .i64 0)).run Tryz.prog w = .ok (.int .u8 48) w := fun w => by have := i0 w; rwa [h48] at this
        clear HX h48
        by_cases hs48 : s = [48]
        · have HL := Lib.hid (show s[0]? = some 48 → s = [48] from fun _ => hs48)
          have tb : (s == [48]) = true := by rw [beq_iff_eq]; exact hs48
          clear hs48 hc48
          go_wp2
          clear tb te i0
          go_loopw [6, 22] (fun x c wr => wr = w ∧ ∃ k : Nat, k ≤ n ∧ c = .int .i64 k ∧ (∃ v : Nat, v = valN (s.take k) ∧ v < 9223372036854775808 ∧ x = .int .i64 v) ∧ ∀ j, j < k → ∀ c, s[j]? = some c → isDig c = true) (fun _ c _ => n - (intOf c).toNat)
          case atStart => exact ⟨rfl, 0, by omega, rfl, ⟨0, by rw [List.take_zero, valN_nil], by omega, rfl⟩, fun j hj => by omega⟩
          case round =>
            obtain ⟨rfl, k, hk, rfl, ⟨v, hv, hv63, rfl⟩, hall⟩ := hrel
            have HA := Lib.hid hall
            have HV := Lib.hid (And.intro hv hv63)
            clear hall hv hv63
            by_cases hlt : k < n
            · obtain ⟨c, hc⟩ : ∃ c, s[k]? = some c := ⟨s[k]'(by have := HN.out; omega), List.getElem?_eq_getElem _⟩
              have i1 := fun w => index_str (P := Tryz.prog) w s .i64 k c hc Tryz.underlying9
              have HC := Lib.hid hc
              have q0 : (k : Int) < (n : Int) := by omega
              have w64 := next_i64 k (by have := HS.out; have := HN.out; omega)
              obtain ⟨g, hg⟩ : ∃ g, worthI c = g := ⟨_, rfl⟩
              have HW := Lib.hid (show ∀ w, Calls Tryz.prog 86 #[.int .u8 (c.toNat : Int)] w fun e w' => e = .returned (.int .u8 (g : Int)) ∧ w = w' from fun w => by have := worth_any c w; rwa [hg] at this)
              have HG := Lib.hid hg
              clear hc hg
              by_cases hdg : isDig c = true
              · have hw9 := worth_dig hdg
                rw [HG.out] at hw9
                have hg9 : g ≤ 9 := hw9.2
                have t1 : decide ((9 : Int) < (g : Int)) = false := decide_eq_false (by omega)
                have e1 := wrap_nat g (by omega)
                obtain ⟨M, D, hM, e2, hD, e3, e3', hlow, hhigh⟩ := read_step v g hg9
                have HDG := Lib.hid hdg
                by_cases hov : D < (v : Int)
                · have t2 : decide (D < (v : Int)) = true := decide_eq_true hov
                  have HBAD := Lib.hid (show isNum s = false from num_over s k c HC.out (by rw [← HV.out.1, ← hw9.1]; exact hlow hov))
                  clear hov hg9 hw9 hdg hlow hhigh
                  go_wp2_with (first | (go_at_call 86; refine (HW.out _).mono ?_; rintro e w' ⟨rfl, rfl⟩))
                  go_step3
                  exact ⟨rfl, ⟨_, _, _, _, _, _, _, _, _, _, _, _, _, _, _, _, _, _, _, _, _, _, _, _, _, _, _, _, _, _, _, _, _, _, _, _, _, _, _, _, _, _, _, _, _, _, _, rfl⟩, HBAD.out, rfl⟩
                · have t2 : decide (D < (v : Int)) = false := decide_eq_false hov
                  obtain ⟨p, hp⟩ : ∃ p : Nat, p = 10 * v := ⟨_, rfl⟩
                  obtain ⟨q, hq⟩ : ∃ q : Nat, q = p + g := ⟨_, rfl⟩
                  have f1 : (10 : Int) * (v : Int) = (p : Int) := by omega
                  have hpq := hhigh hov
                  have f2 := wrap_nat p (by omega)
                  have f3 : (p : Int) + (g : Int) = (q : Int) := by omega
                  have f4 := wrap_nat q (by omega)
                  have HQ := Lib.hid (show q = valN (s.take (k + 1)) ∧ q < 9223372036854775808 from ⟨by rw [val_next s k c HC.out, ← HV.out.1, ← hw9.1, hq, hp], by omega⟩)
                  clear hov hg9 hw9 hdg hp hq hlow hhigh hpq
                  go_wp2_with (first | (go_at_call 86; refine (HW.out _).mono ?_; rintro e w' ⟨rfl, rfl⟩))
                  clear hM e2 hD e3 e3' f1 f2 f3 f4 e1 t1 t2
                  refine ⟨⟨trivial, k + 1, by omega, by go_num, ⟨q, HQ.out.1, HQ.out.2, rfl⟩, fun j hj c' hc' => ?_⟩, by rw [w64]; show n - ((k + 1 : Nat) : Int).toNat < n - (k : Int).toNat; rw [Int.toNat_natCast, Int.toNat_natCast]; omega⟩
                  rcases Nat.lt_or_ge j k with h | h
                  · exact HA.out j h c' hc'
                  · obtain rfl : j = k := by omega
                    rw [HC.out] at hc'; cases hc'; exact HDG.out
              · have hw9 := worth_nodig hdg
                rw [HG.out] at hw9
                have t1 : decide ((9 : Int) < (g : Int)) = true := decide_eq_true (by omega)
                have HBAD := Lib.hid (show isNum s = false from num_nodig s c (List.mem_of_getElem? HC.out) hdg)
                clear hw9 hdg
                go_wp2_with (first | (go_at_call 86; refine (HW.out _).mono ?_; rintro e w' ⟨rfl, rfl⟩))
                go_step3
                exact ⟨rfl, ⟨_, _, _, _, _, _, _, _, _, _, _, _, _, _, _, _, _, _, _, _, _, _, _, _, _, _, _, _, _, _, _, _, _, _, _, _, _, _, _, _, _, _, _, _, _, _, _, rfl⟩, HBAD.out, rfl⟩
            · obtain rfl : k = n := by omega
              have hq : decide ((k : Int) < (k : Int)) = false := decide_eq_false (by omega)
              have hnum : isNum s = true ∧ v = valN s := by
                have hv := HV.out.1
                rw [HN.out, List.take_length] at hv
                exact ⟨num_good s HE.out (fun c hc => by
                  obtain ⟨j, hj, rfl⟩ := List.mem_iff_getElem.1 hc
                  exact HA.out j (by rw [HN.out]; exact hj) _ (List.getElem?_eq_getElem hj)) HL.out (by rw [← hv]; exact HV.out.2), hv⟩
              by_cases hmo : most < (v : Int)
              · obtain ⟨h1, h2⟩ := read_over hnum.1 (show most < (valN s : Int) from hnum.2 ▸ hmo)
                have HP := Lib.hid (And.intro h1 h2)
                have t2 : decide (most < (v : Int)) = true := decide_eq_true hmo
                clear h1 h2 hnum hmo
                go_wp2
                simp only [Exit.jump]
                go_ret2
                exact ⟨by rw [HP.out.1, HP.out.2]; try rfl, Below.refl _ _⟩
              · obtain ⟨h1, h2⟩ := read_good hnum.1 (show ¬ most < (valN s : Int) from hnum.2 ▸ hmo)
                rw [← hnum.2] at h1
                have HP := Lib.hid (And.intro h1 h2)
                have t2 : decide (most < (v : Int)) = false := decide_eq_false hmo
                clear h1 h2 hnum hmo
                go_wp2
                simp only [Exit.jump]
                go_ret2
                exact ⟨by rw [HP.out.1, HP.out.2]; try rfl, Below.refl _ _⟩
        · have HBAD := Lib.hid (num_lead s hc48 hs48)
          have tb : (s == [48]) = false := by rw [beq_eq_false_iff_ne]; exact hs48
          clear hs48 hc48
          go_wp2
          go_step3
          exact ⟨rfl, ⟨_, _, _, _, _, _, _, _, _, _, _, _, _, _, _, _, _, _, _, _, _, _, _, _, _, _, _, _, _, _, _, _, _, _, _, _, _, _, _, _, _, _, _, _, _, _, _, rfl⟩, HBAD.out, rfl⟩
      · have tb : ((x : Int) == 48) = false := by rw [beq_eq_false_iff_ne]; omega
        have HL := Lib.hid (show s[0]? = some 48 → s = [48] from fun h => by
          rw [HX.out.2] at h; have h1 := HX.out.1; cases h; exact absurd h1.symm h48)
        clear HX h48
        go_wp2
        clear tb te i0
        go_loopw [6, 22] (fun x c wr => wr = w ∧ ∃ k : Nat, k ≤ n ∧ c = .int .i64 k ∧ (∃ v : Nat, v = valN (s.take k) ∧ v < 9223372036854775808 ∧ x = .int .i64 v) ∧ ∀ j, j < k → ∀ c, s[j]? = some c → isDig c = true) (fun _ c _ => n - (intOf c).toNat)
        case atStart => exact ⟨rfl, 0, by omega, rfl, ⟨0, by rw [List.take_zero, valN_nil], by omega, rfl⟩, fun j hj => by omega⟩
        case round =>
          obtain ⟨rfl, k, hk, rfl, ⟨v, hv, hv63, rfl⟩, hall⟩ := hrel
          have HA := Lib.hid hall
          have HV := Lib.hid (And.intro hv hv63)
          clear hall hv hv63
          by_cases hlt : k < n
          · obtain ⟨c, hc⟩ : ∃ c, s[k]? = some c := ⟨s[k]'(by have := HN.out; omega), List.getElem?_eq_getElem _⟩
            have i1 := fun w => index_str (P := Tryz.prog) w s .i64 k c hc Tryz.underlying9
            have HC := Lib.hid hc
            have q0 : (k : Int) < (n : Int) := by omega
            have w64 := next_i64 k (by have := HS.out; have := HN.out; omega)
            obtain ⟨g, hg⟩ : ∃ g, worthI c = g := ⟨_, rfl⟩
            have HW := Lib.hid (show ∀ w, Calls Tryz.prog 86 #[.int .u8 (c.toNat : Int)] w fun e w' => e = .returned (.int .u8 (g : Int)) ∧ w = w' from fun w => by have := worth_any c w; rwa [hg] at this)
            have HG := Lib.hid hg
            clear hc hg
            by_cases hdg : isDig c = true
            · have hw9 := worth_dig hdg
              rw [HG.out] at hw9
              have hg9 : g ≤ 9 := hw9.2
              have t1 : decide ((9 : Int) < (g : Int)) = false := decide_eq_false (by omega)
              have e1 := wrap_nat g (by omega)
              obtain ⟨M, D, hM, e2, hD, e3, e3', hlow, hhigh⟩ := read_step v g hg9
              have HDG := Lib.hid hdg
              by_cases hov : D < (v : Int)
              · have t2 : decide (D < (v : Int)) = true := decide_eq_true hov
                have HBAD := Lib.hid (show isNum s = false from num_over s k c HC.out (by rw [← HV.out.1, ← hw9.1]; exact hlow hov))
                clear hov hg9 hw9 hdg hlow hhigh
                go_wp2_with (first | (go_at_call 86; refine (HW.out _).mono ?_; rintro e w' ⟨rfl, rfl⟩))
                go_step3
                exact ⟨rfl, ⟨_, _, _, _, _, _, _, _, _, _, _, _, _, _, _, _, _, _, _, _, _, _, _, _, _, _, _, _, _, _, _, _, _, _, _, _, _, _, _, _, _, _, _, _, _, _, _, rfl⟩, HBAD.out, rfl⟩
              · have t2 : decide (D < (v : Int)) = false := decide_eq_false hov
                obtain ⟨p, hp⟩ : ∃ p : Nat, p = 10 * v := ⟨_, rfl⟩
                obtain ⟨q, hq⟩ : ∃ q : Nat, q = p + g := ⟨_, rfl⟩
                have f1 : (10 : Int) * (v : Int) = (p : Int) := by omega
                have hpq := hhigh hov
                have f2 := wrap_nat p (by omega)
                have f3 : (p : Int) + (g : Int) = (q : Int) := by omega
                have f4 := wrap_nat q (by omega)
                have HQ := Lib.hid (show q = valN (s.take (k + 1)) ∧ q < 9223372036854775808 from ⟨by rw [val_next s k c HC.out, ← HV.out.1, ← hw9.1, hq, hp], by omega⟩)
                clear hov hg9 hw9 hdg hp hq hlow hhigh hpq
                go_wp2_with (first | (go_at_call 86; refine (HW.out _).mono ?_; rintro e w' ⟨rfl, rfl⟩))
                clear hM e2 hD e3 e3' f1 f2 f3 f4 e1 t1 t2
                refine ⟨⟨trivial, k + 1, by omega, by go_num, ⟨q, HQ.out.1, HQ.out.2, rfl⟩, fun j hj c' hc' => ?_⟩, by rw [w64]; show n - ((k + 1 : Nat) : Int).toNat < n - (k : Int).toNat; rw [Int.toNat_natCast, Int.toNat_natCast]; omega⟩
                rcases Nat.lt_or_ge j k with h | h
                · exact HA.out j h c' hc'
                · obtain rfl : j = k := by omega
                  rw [HC.out] at hc'; cases hc'; exact HDG.out
            · have hw9 := worth_nodig hdg
              rw [HG.out] at hw9
              have t1 : decide ((9 : Int) < (g : Int)) = true := decide_eq_true (by omega)
              have HBAD := Lib.hid (show isNum s = false from num_nodig s c (List.mem_of_getElem? HC.out) hdg)
              clear hw9 hdg
              go_wp2_with (first | (go_at_call 86; refine (HW.out _).mono ?_; rintro e w' ⟨rfl, rfl⟩))
              go_step3
              exact ⟨rfl, ⟨_, _, _, _, _, _, _, _, _, _, _, _, _, _, _, _, _, _, _, _, _, _, _, _, _, _, _, _, _, _, _, _, _, _, _, _, _, _, _, _, _, _, _, _, _, _, _, rfl⟩, HBAD.out, rfl⟩
          · obtain rfl : k = n := by omega
            have hq : decide ((k : Int) < (k : Int)) = false := decide_eq_false (by omega)
            have hnum : isNum s = true ∧ v = valN s := by
              have hv := HV.out.1
              rw [HN.out, List.take_length] at hv
              exact ⟨num_good s HE.out (fun c hc => by
                obtain ⟨j, hj, rfl⟩ := List.mem_iff_getElem.1 hc
                exact HA.out j (by rw [HN.out]; exact hj) _ (List.getElem?_eq_getElem hj)) HL.out (by rw [← hv]; exact HV.out.2), hv⟩
            by_cases hmo : most < (v : Int)
            · obtain ⟨h1, h2⟩ := read_over hnum.1 (show most < (valN s : Int) from hnum.2 ▸ hmo)
              have HP := Lib.hid (And.intro h1 h2)
              have t2 : decide (most < (v : Int)) = true := decide_eq_true hmo
              clear h1 h2 hnum hmo
              go_wp2
              simp only [Exit.jump]
              go_ret2
              exact ⟨by rw [HP.out.1, HP.out.2]; try rfl, Below.refl _ _⟩
            · obtain ⟨h1, h2⟩ := read_good hnum.1 (show ¬ most < (valN s : Int) from hnum.2 ▸ hmo)
              rw [← hnum.2] at h1
              have HP := Lib.hid (And.intro h1 h2)
              have t2 : decide (most < (v : Int)) = false := decide_eq_false hmo
              clear h1 h2 hnum hmo
              go_wp2
              simp only [Exit.jump]
              go_ret2
              exact ⟨by rw [HP.out.1, HP.out.2]; try rfl, Below.refl _ _⟩
  · rintro a' w1 ⟨⟨u0', u1', u2', u3', u4', u5', u6', u7', u8', u9', u10', u11', u12', u13', u14', u15', u16', u17', u18', u19', u20', u21', u22', u23', u24', u25', u26', u27', u28', u29', u30', u31', u32', u33', u34', u35', u36', u37', u38', u39', u40', u41', u42', u43', u44', u45', u46', rfl⟩, hbad, rfl⟩
    obtain ⟨hp1, hp2⟩ := read_bad hbad most
    have HP := Lib.hid (And.intro hp1 hp2)
    clear hbad hp1 hp2 hl hsz
    go_wp2
    simp only [Exit.jump]
    go_ret2
    exact ⟨by rw [HP.out.1, HP.out.2]; try rfl, Below.refl _ _⟩
end Go.Proofs.YteooklnejiipkaaGreatDoor
namespace Go.Proofs.YteooklnejiipkaaGreatDoor
open Go.RowKit
set_option maxRecDepth 100000 in
set_option maxHeartbeats 4000000 in
theorem text_any9 (r q : Int) (hr : I64 r) (hq : I64 q) (w : World) (hT : PowTab w) : Calls Tryz.prog 34 #[.agg #[.int .i64 r, .int .i64 q]] w fun e w' => e = .returned (.string (str (textD r q))) ∧ Below w.heap.size w w' := by
  have HT := Lib.hid hT
  have N1 := Lib.hid (fun w hT => number_any w r hr.1 hr.2 hT)
  have N2 := Lib.hid (fun w hT => number_any w q hq.1 hq.2 hT)
  have HL := Lib.hid (And.intro (numL_length r hr.1 hr.2) (numL_length q hq.1 hq.2))
  obtain ⟨R, hR⟩ : ∃ R, numL r = R := ⟨_, rfl⟩
  obtain ⟨Q, hQ⟩ : ∃ Q, numL q = Q := ⟨_, rfl⟩
  obtain ⟨A1, hA1⟩ : ∃ A1, R ++ [58] = A1 := ⟨_, rfl⟩
  obtain ⟨A2, hA2⟩ : ∃ A2, A1 ++ Q = A2 := ⟨_, rfl⟩
  have HE := Lib.hid (show A2 = textD r q by rw [← hA2, ← hA1, ← hR, ← hQ]; simp [textD])
  have hA := Lib.hid (And.intro hA1 hA2)
  rw [hR] at N1 HL
  rw [hQ] at N2 HL
  have c0 : (w.alloc (.cells #[.int .i64 r, .int .i64 q] 23 (0, 0))).cell? ⟨w.heap.size, 0, none⟩ = some (.int .i64 r) := by rw [cell_of_row _ _ 0 _ _ _ (heap_last w _)]; rfl
  have c1 : (w.alloc (.cells #[.int .i64 r, .int .i64 q] 23 (0, 0))).cell? ⟨w.heap.size, 1, none⟩ = some (.int .i64 q) := by rw [cell_of_row _ _ 1 _ _ _ (heap_last w _)]; rfl
  have B0 := Lib.hid ((Below.refl w.heap.size w).alloc (Nat.le_refl _) (.cells #[.int .i64 r, .int .i64 q] 23 (0, 0)))
  clear hr hq hR hQ hA1 hA2 hT
  go_enter Tryz.func34, Tryz.ntmps34
  go_wp2
  refine wp_region_held_drew (S := fun w' => Below (w.alloc (.cells #[.int .i64 r, .int .i64 q] 23 (0, 0))).heap.size (w.alloc (.cells #[.int .i64 r, .int .i64 q] 23 (0, 0))) w') (by kernel_rfl) (below_draws (Below.refl _ _) 1) (fun hHeld => ?_)
  generalize (w.alloc (.cells #[.int .i64 r, .int .i64 q] 23 (0, 0))).drew = wd at hHeld ⊢
  refine take_at (i := 0) 3 rfl rfl (by kernel_rfl) (by kernel_rfl) (by kernel_rfl) (fun _ _ _ h => h) (sure_yes (by rfl) (fun w => by go_simp; try with_reducible rfl)) hHeld ?_
  simp only [List.setIfInBounds_toArray, List.set_cons_zero, List.set_cons_succ]
  refine take_at (i := 4) 7 rfl rfl (by kernel_rfl) (by kernel_rfl) (by kernel_rfl) (fun _ _ _ h => h) (sure_yes (by rfl) (fun w => by go_simp; try with_reducible rfl)) hHeld ?_
  simp only [List.setIfInBounds_toArray, List.set_cons_zero, List.set_cons_succ]
  refine take_at (i := 1) 4 rfl rfl (by kernel_rfl) (by kernel_rfl) (by kernel_rfl) (fun _ _ _ h => h) (cell_yields (by rfl) 3 (.tmp 3) rfl w.heap.size 0 rfl .i64 r Tryz.underlying3 (fun w' h => (cell_same (h.block w.heap.size (by simp)) 0).trans c0)) hHeld ?_
  simp only [List.setIfInBounds_toArray, List.set_cons_zero, List.set_cons_succ]
  refine take_at (i := 5) 8 rfl rfl (by kernel_rfl) (by kernel_rfl) (by kernel_rfl) (fun _ _ _ h => h) (cell_yields (by rfl) 2 (.tmp 7) rfl w.heap.size 1 rfl .i64 q Tryz.underlying2 (fun w' h => (cell_same (h.block w.heap.size (by simp)) 1).trans c1)) hHeld ?_
  simp only [List.setIfInBounds_toArray, List.set_cons_zero, List.set_cons_succ]
  refine wpAnyH_ready (rs := [2]) (by kernel_rfl) (by simp) ?_
  refine AllReadyH.cons rfl (fun K hK => ?_) AllReadyH.nil
  go_simp
  go_at_call 38
  refine (N1.out _ (powTab_below HT.out (below_next B0.out hHeld))).mono ?_
  rintro e w2 ⟨rfl, hb⟩
  dsimp only
  refine hK.out _ _ (below_next hHeld hb) (fun hHeld => ?_)
  clear hK K hb
  refine take_at (i := 3) 6 rfl rfl (by kernel_rfl) (by kernel_rfl) (by kernel_rfl) (fun _ _ _ h => h) (sure_yes (by rfl) (add_as (l := R) (m := [58]) rfl rfl rfl (by have h1 := HL.out.1; have h2 := HL.out.2; have e1 := congrArg List.length hA.out.1; simp at e1 ⊢; omega) hA.out.1)) hHeld ?_
  simp only [List.setIfInBounds_toArray, List.set_cons_zero, List.set_cons_succ]
  refine wpAnyH_ready (rs := [6]) (by kernel_rfl) (by simp) ?_
  refine AllReadyH.cons rfl (fun K hK => ?_) AllReadyH.nil
  go_simp
  go_at_call 38
  refine (N2.out _ (powTab_below HT.out (below_next B0.out hHeld))).mono ?_
  rintro e w2 ⟨rfl, hb⟩
  dsimp only
  refine hK.out _ _ (below_next hHeld hb) (fun hHeld => ?_)
  clear hK K hb
  refine take_at (i := 7) 10 rfl rfl (by kernel_rfl) (by kernel_rfl) (by kernel_rfl) (fun _ _ _ h => h) (sure_yes (by rfl) (add_as (l := A1) (m := Q) rfl rfl rfl (by have h1 := HL.out.1; have h2 := HL.out.2; have e1 := congrArg List.length hA.out.1; simp at e1 ⊢; omega) hA.out.2)) hHeld ?_
  simp only [List.setIfInBounds_toArray, List.set_cons_zero, List.set_cons_succ]
  refine take_at (i := 8) 2 rfl rfl (by kernel_rfl) (by kernel_rfl) (by kernel_rfl) (fun _ _ _ h => h) (sure_yes (by rfl) (fun w => by go_simp; try with_reducible rfl)) hHeld ?_
  simp only [List.setIfInBounds_toArray, List.set_cons_zero, List.set_cons_succ]
  refine wpAnyH_done (by kernel_rfl) ?_ _
  go_wp2
  go_ret
  exact ⟨by rw [← HE.out]; rfl, below_next B0.out hHeld⟩
end Go.Proofs.YteooklnejiipkaaGreatDoor
namespace Go.Proofs.YteooklnejiipkaaGreatDoor
open Go.RowKit
theorem infoStr10 : ∃ i, Tryz.prog.info? 9 = some i ∧ i.zero = some (.string ByteArray.empty) ∧ i.size = 1 ∧ i.bytes = 16 := by
  have h : (Tryz.prog.info? 9).map (fun i => (i.zero, i.size, i.bytes)) = some (some (.string ByteArray.empty), 1, 16) := by kernel_rfl
  cases hi : Tryz.prog.info? 9 with
  | none => rw [hi] at h; cases h
  | some i =>
    rw [hi] at h
    simp only [Option.map_some, Option.some.injEq, Prod.mk.injEq] at h
    exact ⟨i, rfl, h⟩
theorem lib_joinB (c : UInt8) (ps : List (List UInt8)) : Lib.join ps [c] = joinB c ps := by
  cases ps with
  | nil => rfl
  | cons p t =>
    rw [Lib.join_cons, joinB, Lib.joinTail]
    congr 1
/-- The texts of the first so many dots. -/
def dotTs (l : List D2) (k : Nat) : List (List UInt8) := (l.take k).map dotT
theorem dotTs_next {l : List D2} {k : Nat} {d : D2} (h : l[k]? = some d) : dotTs l (k + 1) = dotTs l k ++ [dotT d] := by
  rw [dotTs, List.take_add_one, h, List.map_append]; rfl
theorem dotTs_length (l : List D2) (k : Nat) : (dotTs l k).length ≤ k := by rw [dotTs, List.length_map, List.length_take]; omega
theorem dotTs_all (l : List D2) : dotTs l l.length = l.map dotT := by rw [dotTs, List.take_length]
/-- Texts of a slice, joined with a byte. -/
theorem join_any (c : UInt8) (ls : List (List UInt8)) (w : World) (base : Nat) (e : TypeId) (v : Value) (h : w.ownsRow base e 1 v ls.length (textsL ls)) (h0 : 0 < ls.length) (hn : ls.length ≤ 1000) (hl : (joinB c ls).length ≤ 140737488355328) :
    Calls Tryz.prog 64 #[v, .string ⟨#[c]⟩] w fun e w' => e = .returned (.string (str (joinB c ls))) ∧ Below w.heap.size w w' := by
  obtain ⟨g, cap, cur, rfl, -, hg, hcap, -, -, -⟩ := own_shape h h0
  have hcells : ∀ (j : Nat) x, (ls.map str)[j]? = some x → w.cell? ⟨g, 0 + j, none⟩ = some (.string x) := fun j x hx => by
    have h1 := h.cells (g := g) rfl j (.string x) (by
      rw [textsL, List.getElem?_map]
      rw [List.getElem?_map] at hx
      cases hj : ls[j]? with
      | none => rw [hj] at hx; cases hx
      | some y => rw [hj] at hx; exact congrArg some (congrArg Value.string (Option.some.inj hx)))
    have e : ((⟨g, 0, none⟩ : Addr).add j) = ⟨g, 0 + j, none⟩ := Addr.add_lit ..
    rwa [e] at h1
  have hm : (ls.map str).map (·.data.toList) = ls := by
    rw [List.map_map]
    conv => rhs; rw [← List.map_id ls]
    exact List.map_congr_left fun p _ => by simp [str]
  have hj := Tryz.strings_Join g 0 cap (ls.map str) ⟨#[c]⟩ w hcells (Array.getElem?_eq_some_iff.1 hg).1 (by rw [List.length_map]; omega) (by rw [List.length_map]; exact hcap) (by rw [hm]; show (Lib.join ls [c]).length ≤ _; rw [lib_joinB]; exact hl)
  rw [hm, List.length_map] at hj
  refine hj.mono fun e w' => ?_
  rintro ⟨rfl, hb⟩
  exact ⟨by show Ending.returned (Value.string ⟨(Lib.join ls [c]).toArray⟩) = _; rw [lib_joinB]; rfl, hb⟩
set_option maxRecDepth 100000 in
set_option maxHeartbeats 16000000 in
theorem vecText_any (l : List D2) (hl : l.length < 2000000) (v : Value) (w : World) (hv : HasDots w v l) (hT : PowTab w) : Calls Tryz.prog 35 #[v] w fun e w' => e = .returned (.string (str (textV l))) ∧ Below w.heap.size w w' := by
  obtain ⟨i0, hi, hz0, hz1, hz2⟩ := infoStr10
  have HV := Lib.hid hv
  have HT := Lib.hid hT
  have A1 := Lib.hid (fun w v hv => counts_V l hl v w hv)
  have MT := Lib.hid (fun G w hG => madeText_any (allV l) G w hG)
  have hmf : ∀ (fn : Fn) (first cap : Array Value) (w : World), (Instr.makeFunc fn first cap).run Tryz.prog w = .ok (.func fn first cap) w := fun _ _ _ _ => rfl
  obtain ⟨X, hX⟩ : ∃ X, X = vecOf l := ⟨_, rfl⟩
  have HX := Lib.hid (And.intro hX (show ∀ d ∈ X, mayT d = true by rw [hX]; exact vecOf_may l))
  obtain ⟨N, hN⟩ : ∃ N, N = X.length := ⟨_, rfl⟩
  have HN := Lib.hid (And.intro hN (show N ≤ 32 by rw [hN, hX]; exact ofN_length _ 32))
  have hN32 : N ≤ 32 := HN.out.2
  obtain ⟨ao, cap, rfl⟩ := dots_shape hv l.length rfl
  obtain ⟨n, hn⟩ : ∃ n, n = l.length := ⟨_, rfl⟩
  rw [← hn] at HV ⊢
  clear hv hl hn hT hX hN
  go_enter Tryz.func35, Tryz.ntmps35
  go_wp2_with (first
    | (go_at_call 61; with_reducible refine (A1.out w _ HV.out).mono ?_; rintro e w1 ⟨rfl, hb⟩; have B1 := Lib.hid hb; clear hb)
    | (refine alloc_as rfl 80 rfl _ zero49 ?_)
    | (refine store_new rfl 80 (.tmp 3) (.tmp 8) rfl rfl w1 _ (nums 32 (allV l)) 80 rfl rfl rfl (by rw [nums_size]; kernel_rfl) (by rw [nums_size, nums_size]) (nums_one _ _) ?_; intro w2 hg2 hb2 hs2; have HG := Lib.hid hg2; have B2 := Lib.hid (below_next B1.out hb2); clear hg2 hb2 hs2)
    | (go_at_call 62; refine (MT.out _ _ HG.out).mono ?_; rintro e w3 ⟨x, rfl, hx, hb⟩; have HD := Lib.hid (show HasDots w3 x X by rw [HX.out.1]; exact hx); obtain ⟨xo, xc, rfl⟩ := dots_shape HD.out N HN.out.1; have B3 := Lib.hid (below_next B2.out hb); clear hx hb))
  generalize w1.heap.size = G1 at *
  clear HG B1 B2
  go_loopw [4, 12] (fun v c wr => ∃ k : Nat, k ≤ N ∧ c = .int .i64 (k : Int) ∧ wr.ownsRow w3.heap.size 9 1 v (dotTs X k).length (textsL (dotTs X k)) ∧ Below w3.heap.size w3 wr) (fun _ c _ => N - (intOf c).toNat)
  case atStart => exact ⟨0, by omega, rfl, ⟨rfl, .inl ⟨rfl, rfl⟩⟩, Below.refl _ _⟩
  case round =>
    obtain ⟨k, hk, rfl, ho, hb⟩ := hrel
    have HO := Lib.hid ho
    have hd := dots_below HD.out hb
    have HB := Lib.hid hb
    by_cases hlt : k < N
    · have q0 : (k : Int) < (N : Int) := by omega
      have KK := Lib.hid (show k + 1 ≤ N ∧ N - (k + 1) < N - k by omega)
      obtain ⟨d, hdk⟩ : ∃ d, X[k]? = some d := ⟨_, List.getElem?_eq_getElem (by rw [← HN.out.1]; exact hlt)⟩
      have hm := mayT_bd (HX.out.2 d (List.mem_of_getElem? hdk))
      have HTN := Lib.hid (dotTs_next hdk)
      obtain ⟨r, q⟩ := d
      obtain ⟨ad, cap', e, c0, c1⟩ := dots_at hd N k HN.out.1.symm _ hdk
      cases e
      have C0 := Lib.hid (And.intro c0 c1)
      have D0 := Lib.hid (heap_last wr (.cells #[.int .i64 r, .int .i64 q] 23 (0, 0)))
      have K0 := (Below.refl wr.heap.size wr).alloc (Nat.le_refl _) (.cells #[.int .i64 r, .int .i64 q] 23 (0, 0))
      have B0 := Lib.hid (below_next hb K0)
      have O0 := Lib.hid (own_below ho K0)
      have TX := Lib.hid (fun w hT => text_any9 r q (by unfold I64; simp only at hm; omega) (by unfold I64; simp only at hm; omega) w hT)
      have HTL := Lib.hid (dotTs_length X k)
      replace TX := Lib.hid (show ∀ w, PowTab w → Calls Tryz.prog 34 #[.agg #[.int .i64 r, .int .i64 q]] w fun e w' => e = .returned (.string (str (dotT (r, q)))) ∧ Below w.heap.size w w' from TX.out)
      obtain ⟨T, hTT⟩ : ∃ T, T = dotT (r, q) := ⟨_, rfl⟩
      rw [← hTT] at TX HTN
      clear c0 c1 hdk hm ho hd hb K0 hlt hTT
      go_wp2_with (first
        | (refine load_dot10 (by rfl) 23 (.tmp 14) rfl (ad.add (k * 2)) rfl r q Tryz.underlying23 (by kernel_rfl) C0.out ?_)
        | (refine load_row_on (by rfl) 23 (.tmp 6) rfl wr.heap.size rfl 23 _ (0, 0) _ D0.out Tryz.underlying23 rfl (by kernel_rfl) ?_)
        | (go_at_call 34; refine (TX.out _ (powTab_below HT.out (below_next B3.out B0.out))).mono ?_; rintro e w4 ⟨rfl, hb⟩; have B4 := Lib.hid (below_next B0.out hb); have O4 := Lib.hid (own_below O0.out hb); clear hb)
        | (at_builtin; refine append_text rfl (.tmp 16) (.tmp 19) 59 rfl w3.heap.size 9 i0 Tryz.underlying59 hi hz0 hz1 hz2 _ (dotTs X k) T rfl (O4.out.alloc _) ⟨w4.heap.size, 0, none⟩ 1 rfl ((cell_of_row _ _ 0 _ _ _ (heap_last w4 _)).trans rfl) (by have := HTL.out; have := KK.out.1; have := HN.out.2; omega) (by have := B4.out.size; simp <;> omega) ?_; intro v1 w5 ho hg; rw [← HTN.out] at ho; have HO1 := Lib.hid ho; have HB1 := Lib.hid (below_grown (B4.out.alloc B4.out.size _) hg (by have := B4.out.size; simp <;> omega) (fun j hj => by have := (O4.out.lt j hj).1; omega)); clear ho hg))
      refine ⟨⟨k + 1, KK.out.1, by simp, HO1.out, HB1.out⟩, ?_⟩
      have := KK.out.2; simp [intOf]; omega
    · have q0 : ¬ (k : Int) < (N : Int) := by omega
      obtain rfl : k = N := by omega
      have HL := Lib.hid (show (X.map dotT).length = k by rw [List.length_map]; exact HN.out.1.symm)
      have hts : dotTs X k = X.map dotT := by conv => lhs; rw [HN.out.1]
                                              exact dotTs_all X
      rw [hts, HL.out] at ho
      clear hts
      obtain ⟨ao2, cap2, rfl⟩ := own_slice ho
      by_cases h0 : k = 0
      · subst h0
        have HE := Lib.hid (show str (textV l) = ⟨#[45]⟩ by rw [textV, ← HX.out.1, List.eq_nil_of_length_eq_zero HN.out.1.symm]; rfl)
        clear ho hd hlt
        go_wp2
        go_ret
        exact ⟨by rw [HE.out]; rfl, below_next B3.out hb⟩
      · have HE := Lib.hid (show joinB 44 (X.map dotT) = textV l by rw [textV, ← HX.out.1, textL, if_neg (fun e => h0 (by rw [HN.out.1, e]; rfl))])
        have e1 : ((k : Int) == 0) = false := by rw [beq_eq_false_iff_ne]; omega
        have JN := Lib.hid (join_any 44 (X.map dotT) wr _ _ _ (by rw [HL.out]; exact ho) (by rw [HL.out]; omega) (by rw [HL.out]; omega) (by rw [HE.out]; have := textV_length l; omega))
        rw [HE.out] at JN
        clear ho hd hlt h0
        go_wp2_with (first
          | (go_at_call 64; refine JN.out.mono ?_; rintro e w6 ⟨rfl, hb6⟩; have B6 := Lib.hid (below_next (below_next B3.out hb) hb6); clear hb6))
        go_ret
        exact ⟨rfl, B6.out⟩
end Go.Proofs.YteooklnejiipkaaGreatDoor
namespace Go.Proofs.YteooklnejiipkaaGreatDoor
open Go.RowKit
/-- Three blocks from B on read as they did. -/
def Keep3 (B : Nat) (W W' : World) : Prop := ∀ g, B ≤ g → g < B + 3 → W'.heap[g]? = W.heap[g]?
theorem keep3_trans {B : Nat} {X Y Z : World} (h : Keep3 B X Y) (k : Keep3 B Y Z) : Keep3 B X Z := fun g h1 h2 => (k g h1 h2).trans (h g h1 h2)
theorem keep3_put {B l : Nat} (W : World) (o : Obj) (hl : B + 3 ≤ l) : Keep3 B W (W.putObj l o) := fun _ _ h2 => World.putObj_heap_other (by omega)
theorem keep3_below {B n : Nat} {W W' : World} (h : Below n W W') (hn : B + 3 ≤ n) : Keep3 B W W' := fun g _ h2 => h.block g (by omega)
/-- An invariant abides a write into a cell. -/
def AbidesSet {α : Type} (B : Nat) (J : List α → World → Prop) : Prop := ∀ s W v, J s W → J s (W.setCell ⟨B, 0, none⟩ v)
/-- What a function that is ranged over owes, if it writes the cell B between two rounds. -/
def SeqCell {α : Type} (F : Fence) (n : Nat) (P : Program) (g : Nat) (lb : Array Value) (encs : α → Array Value) (B : Nat) (S Sp : List α → Prop) (N : Nat) (w : World) : Prop :=
  ∀ (l : Nat) (J Jx : List α → World → Prop) (W : World), Below w.heap.size w W → AbidesSet B J →
    (∀ pre x W1, J pre W1 → pre.length < N → YieldAt F (n - 1) P l (encs x) W1 fun e W' =>
      (e = .returned (.bool true) ∧ J (pre ++ [x]) W' ∧ Keep3 B W1 W') ∨ (e = .returned (.bool false) ∧ Jx (pre ++ [x]) W')) →
    J [] W →
    CallsIn F n P g (#[.func (.yield l) #[] #[]] ++ lb) W fun e W' => (∃ v, e = .returned v) ∧ ((∃ xs, S xs ∧ J xs W') ∨ (∃ pre, Sp pre ∧ Jx pre W'))
/-- How a round's body is left: it goes on, or the function returns. -/
def roundOut {α : Type} (B : Nat) (I Ix : List α → World → Prop) (xs : List α) (W : World) : Exit → Act → World → Prop
  | .normal, _, W' => KeepsOthers W W' ∧ Keep3 B W W' ∧ I xs W'
  | .ret, _, W' => KeepsOthers W W' ∧ Ix xs W'
  | _, _, _ => False
variable {F : Fence} {n : Nat} {P : Program}
theorem range_cells {α : Type} {g : Operand} {ps : Array Tmp} {assign body : Code} {Q : Exit → Act → World → Prop} {a : Act} {w : World}
    (hro : F.round = none) (h1 : 1 ≤ n) {gf : Nat} {lb : Array Value} (hg : a.eval g = .func (.func gf) #[] lb) (hFg : F.fn gf) (eg : ∀ args w, (callFunc gf args).run P w = .ok (.enter gf args) w)
    {encs : α → Array Value} {B : Nat} {S Sp : List α → Prop} {N : Nat} (hB : B + 3 ≤ w.heap.size) (hseq : SeqCell F (n - 1) P gf lb encs B S Sp N w) (hps : ∀ x, (encs x).size = ps.size)
    (I Ix : List α → World → Prop) (hI : OwnFrom w.heap.size I) (hIx : OwnFrom w.heap.size Ix) (hIs : AbidesSet B I) (h0 : I [] w) (a₁ : α → Act)
    (hassign : ∀ (l : Nat) (x : α) (W : World) (K : Act → World → Prop), K (a₁ x) W →
      assign.wpIn (F.inRound l) (n - 1 - 1) P (Exit.then K (fun _ _ _ => False)) { tmps := (ps.zip (encs x)).foldl (fun t (p, v) => t.setIfInBounds p v) a.tmps, defers := [] } W)
    (hbody : ∀ (l : Nat) (pre : List α) (x : α) (W : World), I pre W → pre.length < N → body.wpIn (F.inRound l) (n - 1 - 1) P (roundOut B I Ix (pre ++ [x]) W) (a₁ x) W)
    (hdone : ∀ (D : Nat) (xs : List α) (W : World), w.heap.size ≤ D → S xs → I xs W → W.heap[D]? = some (.deferred (some [])) → Q .normal { a with defers := { target := .collected D, args := #[] } :: a.defers } W)
    (hstop : ∀ (D : Nat) (pre : List α) (W : World), w.heap.size ≤ D → Sp pre → Ix pre W → W.heap[D]? = some (.deferred (some [])) → Code.ret.wpIn F n P Q { a with defers := { target := .collected D, args := #[] } :: a.defers } W) :
    (Code.rangeFunc g ps assign body).wpIn F n P Q a w := by
  refine wpIn_rangeFunc fun fn hfn => ?_
  rw [hro]
  -- the loop's record L, at the place R; the rounds' deferred calls at the place D
  let L : LoopState → Option Code → Obj := fun st j => .loop { state := st, pending := j, fn := fn, tmps := a.tmps, params := ps, assign := assign, body := body, defers := w.heap.size }
  have hBk : Below w.heap.size w ((w.alloc (.deferred (some []))).alloc (L .ready none)) := ((Below.refl _ w).alloc (Nat.le_refl _) _).alloc (by simp) _
  have hD : ((w.alloc (.deferred (some []))).alloc (L .ready none)).heap[w.heap.size]? = some (.deferred (some [])) := (Below.heap_alloc _ _ _ (by simp)).trans (World.alloc_heap_new w _)
  have hL : ((w.alloc (.deferred (some []))).alloc (L .ready none)).heap[w.heap.size + 1]? = some (L .ready none) := by
    have h := World.alloc_heap_new (w.alloc (.deferred (some []))) (L .ready none); rwa [World.size_alloc] at h
  have hI0 : I [] ((w.alloc (.deferred (some []))).alloc (L .ready none)) := hI.alloc _ (hI.alloc _ h0)
  refine ⟨w.heap.size + 1, [{ target := .collected w.heap.size, args := #[] }], _, { target := .fn (.func gf) lb, args := #[.func (.yield (w.heap.size + 1)) #[] #[]] }, _, gf, #[.func (.yield (w.heap.size + 1)) #[] #[]] ++ lb, _,
    run_enterLoop_outer _ _ _ _ _, (by simp only [resolve, hg]; simp [go_sem]; rfl), (fun f' hf' => by simp [Target.leads] at hf'; subst hf'; exact hFg), (by simp [invoke, go_sem, eg]; rfl), (fun _ => h1), ?_⟩
  have set_keeps : ∀ (W : World) (v : Value) (k : Nat) (o : Obj), W.heap[k]? = some o → o.isCells = false → (W.setCell ⟨B, 0, none⟩ v).heap[k]? = some o := fun W v k o h1 h2 => (KeepsOthers.setCell W _ v).same k o h1 h2
  refine (hseq (w.heap.size + 1)
    (fun pre W => I pre W ∧ W.heap[w.heap.size + 1]? = some (L .ready none) ∧ W.heap[w.heap.size]? = some (.deferred (some [])))
    (fun pre W => Ix pre W ∧ W.heap[w.heap.size + 1]? = some (L .done (some .ret)) ∧ W.heap[w.heap.size]? = some (.deferred (some []))) _ hBk
    (fun s W v h => ⟨hIs s W v h.1, set_keeps W v _ _ h.2.1 rfl, set_keeps W v _ _ h.2.2 rfl⟩) ?_ ⟨hI0, hL, hD⟩).mono ?_
  · rintro pre x W ⟨hi, hl, hd⟩ hlen
    have hlt : w.heap.size + 1 < W.heap.size := (Array.getElem?_eq_some_iff.1 hl).1
    refine ⟨fn, _, assign, body, run_yield (P := P) (args := encs x) hl (hps x), roundIn_of_wpIn hfn (hassign _ x W _ ⟨_, run_beginRound hl rfl, ?_⟩)⟩
    obtain ⟨W2, hW2⟩ : ∃ W2, W.putObj (w.heap.size + 1) (L .busy none) = W2 := ⟨_, rfl⟩
    have e2 : W2.heap[w.heap.size + 1]? = some (L .busy none) := by rw [← hW2]; exact World.putObj_heap_same hlt
    have d2 : W2.heap[w.heap.size]? = some (.deferred (some [])) := by rw [← hW2]; exact (World.putObj_heap_other (by omega)).trans hd
    have k2 : Keep3 B W W2 := by rw [← hW2]; exact keep3_put W _ (by omega)
    have i2 : I pre W2 := by rw [← hW2]; exact hI.putObj _ hi (by omega) hl rfl
    show body.wpIn _ _ _ _ _ (W.putObj (w.heap.size + 1) (L .busy none))
    rw [hW2]
    refine wpIn_mono (hbody _ pre x W2 i2 hlen) ?_
    rintro e a3 W3 hp
    cases e with
    | normal =>
      obtain ⟨q1, q2, q3⟩ := hp
      have e3 := q1.same _ _ e2 rfl
      have d3 := q1.same _ _ d2 rfl
      refine ⟨_, _, run_endRound (P := P) none e3, .inl ⟨rfl, ⟨hI.putObj _ q3 (by omega) e3 rfl, World.putObj_heap_same (Array.getElem?_eq_some_iff.1 e3).1, (World.putObj_heap_other (by omega)).trans d3⟩, keep3_trans (keep3_trans k2 q2) (keep3_put W3 _ (by omega))⟩⟩
    | ret =>
      obtain ⟨q1, q3⟩ := hp
      have e3 := q1.same _ _ e2 rfl
      have d3 := q1.same _ _ d2 rfl
      exact ⟨_, _, run_endRound (P := P) (some .ret) e3, .inr ⟨rfl, hIx.putObj _ q3 (by omega) e3 rfl, World.putObj_heap_same (Array.getElem?_eq_some_iff.1 e3).1, (World.putObj_heap_other (by omega)).trans d3⟩⟩
    | exit id => exact hp.elim
    | goto t => exact hp.elim
    | panic ch => exact hp.elim
    | outgrown => exact hp.elim
  · rintro e W2 ⟨⟨v, rfl⟩, (⟨xs, hS, hi, hl, hd⟩ | ⟨pre, hSp, hi, hl, hd⟩)⟩
    · exact ⟨none, _, run_endLoop (P := P) hl (by simp), hdone _ xs _ (Nat.le_refl _) hS (hI.putObj _ hi (by omega) hl rfl) ((World.putObj_heap_other (by omega)).trans hd)⟩
    · exact ⟨some .ret, _, run_endLoop (P := P) hl (by simp), hstop _ pre _ (Nat.le_refl _) hSp (hIx.putObj _ hi (by omega) hl rfl) ((World.putObj_heap_other (by omega)).trans hd)⟩
end Go.Proofs.YteooklnejiipkaaGreatDoor
namespace Go.Proofs.YteooklnejiipkaaGreatDoor
open Go.RowKit Go.Shelf
attribute [local go_sem] Oper.semAt_some
/-- A piece no longer than the text. -/
abbrev Pc (s : List UInt8) := { p : List UInt8 // p.length ≤ s.length }
theorem comma_first (t : List UInt8) : (Lib.indexByte t 44 = -1 ∧ piecesB 44 t = [t]) ∨ ∃ o : Nat, o < t.length ∧ Lib.indexByte t 44 = (o : Int) ∧ piecesB 44 t = t.take o :: piecesB 44 (t.drop (o + 1)) := by
  have hge := Lib.indexByte_ge t 44
  by_cases h : Lib.indexByte t 44 = -1
  · have hn : (44 : UInt8) ∉ t := fun hm => by
      obtain ⟨j, hj, e⟩ := List.mem_iff_getElem.1 hm
      exact absurd (by rw [List.getElem?_eq_getElem hj, e]) (Lib.indexByte_none h j)
    exact .inl ⟨h, pieces_last hn⟩
  · obtain ⟨k, hk⟩ : ∃ k : Nat, Lib.indexByte t 44 = (k : Int) := ⟨(Lib.indexByte t 44).toNat, by omega⟩
    obtain ⟨h1, h2⟩ := Lib.indexByte_some hk
    obtain ⟨hlt, he⟩ := List.getElem?_eq_some_iff.1 h1
    refine .inr ⟨k, hlt, hk, ?_⟩
    have hn : (44 : UInt8) ∉ t.take k := fun hm => by
      obtain ⟨j, hj, e⟩ := List.mem_iff_getElem.1 hm
      rw [List.length_take] at hj
      refine h2 j (by omega) ?_
      rw [List.getElem_take] at e
      rw [List.getElem?_eq_getElem (by omega), e]
    have hs : t = t.take k ++ 44 :: t.drop (k + 1) := by
      conv => lhs; rw [← List.take_append_drop k t]
      rw [List.drop_eq_getElem_cons hlt, he]
    conv => lhs; rw [hs]
    exact pieces_front hn
/-- How long the text in a cell is. -/
def cellLen (B : Nat) (W : World) : Nat := match W.cell? ⟨B, 0, none⟩ with | some (.string b) => b.size | _ => 0
theorem cellLen_one {B : Nat} {W : World} {t : TypeId} {b : ByteArray} (h : W.heap[B]? = some (.cells #[.string b] t (0, 0))) : cellLen B W = b.size := by
  unfold cellLen; rw [cell_of_one h]
theorem seq10_wraps (o m O : Nat) (h : o < m) (hm : m < 1152921504606846976) (hO : O = o + 1) : wrap64 ((o : Int) + 1) = (O : Int) ∧ wrap64 ((o : Int) + 0) = (o : Int) ∧ decide ((o : Int) < 0) = false := by
  refine ⟨?_, ?_, decide_eq_false (by omega)⟩ <;> rw [wrap64] <;> omega
theorem drop_step (s : List UInt8) (f o O m k : Nat) (hm : m = s.length) (hlt : o < (s.drop f).length) (hO : O = o + 1) (hf : f ≤ m) (hk : k ≤ f + 1) : f + O ≤ m ∧ (s.drop f).drop O = s.drop (f + O) ∧ ((s.drop f).drop O).length < (s.drop f).length ∧ k ≤ f + O := by
  rw [List.length_drop] at hlt
  exact ⟨by omega, List.drop_drop, by simp only [List.length_drop]; omega, by omega⟩
set_option maxRecDepth 100000 in
set_option maxHeartbeats 8000000 in
theorem splitSeq_in (n : Nat) (hn : 1 ≤ n) (l B : Nat) (s : List UInt8) (hs : s.length < 1152921504606846976) (J Jx : List (Pc s) → World → Prop) (hJ : AbidesSet B J)
    (hY : ∀ pre x W, J pre W → pre.length < s.length + 1 → YieldAt Fence.wide (n - 1) Tryz.prog l #[.string (str x.1)] W fun e W' =>
      (e = .returned (.bool true) ∧ J (pre ++ [x]) W' ∧ Keep3 B W W') ∨ (e = .returned (.bool false) ∧ Jx (pre ++ [x]) W'))
    (W : World) (hB0 : W.heap[B]? = some (.cells #[.string (str s)] 9 (0, 0))) (hB1 : W.heap[B + 1]? = some (.cells #[.string ⟨#[44]⟩] 9 (0, 0))) (hB2 : W.heap[B + 2]? = some (.cells #[.int .i64 0] 3 (0, 0))) (h0 : J [] W) :
    CallsIn Fence.wide n Tryz.prog 119 #[.func (.yield l) #[] #[], .pointer (some ⟨B + 1, 0, none⟩), .pointer (some ⟨B, 0, none⟩), .pointer (some ⟨B + 2, 0, none⟩)] W fun e W' => (∃ v, e = .returned v) ∧
      ((∃ ys : List (Pc s), ys.map (·.1) = piecesB 44 s ∧ J ys W') ∨ (∃ pre : List (Pc s), pre.map (·.1) <+: piecesB 44 s ∧ Jx pre W')) := by
  obtain ⟨m, hm⟩ : ∃ m, m = s.length := ⟨_, rfl⟩
  have HM := Lib.hid hm
  rw [← hm] at hs
  have HMS := Lib.hid hs
  have s2 : (ByteArray.mk #[44]).size = 1 := rfl
  have c1 := cell_of_one hB1
  clear hm hs
  refine callsIn_of_wp Tryz.func119 rfl trivial ?_ rfl
  simp only [Tryz.ntmps119, List.size_toArray, List.length_cons, List.length_nil, Nat.reduceAdd, Nat.reduceSub, Array.replicate_succ, Array.replicate_zero, List.push_toArray, List.append_toArray, List.nil_append, List.cons_append]
  gi_wp2
  gi_loopw [7] (fun x wr => ∃ (f : Nat) (pre : List (Pc s)), f ≤ m ∧ pre.map (·.1) ++ piecesB 44 (s.drop f) = piecesB 44 s ∧ pre.length ≤ f ∧ J pre wr ∧ wr.heap[B]? = some (.cells #[.string (str (s.drop f))] 9 (0, 0)) ∧ wr.heap[B + 1]? = some (.cells #[.string ⟨#[44]⟩] 9 (0, 0)) ∧ wr.heap[B + 2]? = some (.cells #[.int .i64 0] 3 (0, 0)))
    (fun _ wr => cellLen B wr)
  case atStart => exact ⟨0, [], by omega, rfl, Nat.le_refl _, h0, hB0, hB1, hB2⟩
  case round =>
    obtain ⟨f, pre, hfm, hpc, hpl, hj, b0, b1, b2⟩ := hrel
    have HPC := Lib.hid (And.intro hpc hpl)
    have hpre : pre.length < s.length + 1 := by have := HM.out; omega
    have HB := Lib.hid (And.intro b0 (And.intro b1 b2))
    have c0 := cell_of_one b0
    have c1 := cell_of_one b1
    have c2 := cell_of_one b2
    have HX := Lib.hid (show ∀ w, Calls Tryz.prog 75 #[.string (str (s.drop f)), .string ⟨#[44]⟩] w fun e w' => e = .returned (.int .i64 (Lib.indexByte (s.drop f) 44)) ∧ w = w' from fun w => by
      refine (Tryz.strings_Index_one (str (s.drop f)) 44 w).mono fun e w' h => ?_
      rw [show (str (s.drop f)).data.toList = s.drop f from by simp [str]] at h
      exact ⟨h.1, h.2.symm⟩)
    rcases comma_first (s.drop f) with ⟨hix, hmk⟩ | ⟨o, hlt, hix, hmk⟩
    · rw [hix] at HX
      obtain ⟨p, hp⟩ : ∃ p : Pc s, p.1 = s.drop f := ⟨⟨s.drop f, by simp⟩, rfl⟩
      have HE := Lib.hid (show (pre ++ [p]).map (·.1) = piecesB 44 s by
        rw [← HPC.out.1, List.map_append, List.map_cons, List.map_nil, hp, hmk])
      obtain ⟨fn, tmps, assign, body, hy, hR⟩ := hY pre p wr hj hpre
      rw [hp] at hy
      clear hp hpl hix hmk hpc b0 b1 b2 hpre
      gi_wp2_with (refine ⟨trivial, ?_⟩; gi_at_call 75; refine (callsIn_wide.2 (HX.out _)).mono ?_; rintro e w' ⟨rfl, rfl⟩)
      refine hR.mono ?_
      rintro e W3 (⟨rfl, hJ3, hk3⟩ | ⟨rfl, hJx3⟩)
      · gi_wp2
        refine bodyPost_end (results_none rfl _ _ _) rfl ?_
        exact ⟨⟨_, rfl⟩, .inl ⟨pre ++ [p], HE.out, hJ3⟩⟩
      · gi_wp2
        refine bodyPost_end (results_none rfl _ _ _) rfl ?_
        exact ⟨⟨_, rfl⟩, .inr ⟨pre ++ [p], by rw [HE.out]; exact List.prefix_refl _, hJx3⟩⟩
    · rw [hix] at HX
      obtain ⟨p, hp⟩ : ∃ p : Pc s, p.1 = (s.drop f).take o := ⟨⟨(s.drop f).take o, by rw [List.length_take, List.length_drop]; omega⟩, rfl⟩
      obtain ⟨O, hO⟩ : ∃ O : Nat, O = o + 1 := ⟨_, rfl⟩
      have hlm : o < m := by rw [List.length_drop] at hlt; have := HM.out; omega
      have HG := Lib.hid (drop_step s f o O m (pre ++ [p]).length HM.out hlt hO hfm (by rw [List.length_append, List.length_singleton]; omega))
      have ho' : o ≤ (s.drop f).length := Nat.le_of_lt hlt
      have hO' : O ≤ (s.drop f).length := by rw [hO]; exact hlt
      obtain ⟨w1, w2, d0⟩ := seq10_wraps o m O hlm HMS.out hO
      have w3 : wrap64 (o : Int) = (o : Int) := by rw [Int.add_zero] at w2; exact w2
      have sl1 : ∀ w, (Instr.slice 9 (.string (str (s.drop f))) none (some (.int .i64 (o : Int))) none).run Tryz.prog w = .ok (.string (str ((s.drop f).take o))) w := fun w => slice_upto w 9 (s.drop f) o ho' Tryz.underlying9
      have sl2 : ∀ w, (Instr.slice 9 (.string (str (s.drop f))) (some (.int .i64 (O : Int))) none none).run Tryz.prog w = .ok (.string (str ((s.drop f).drop O))) w := fun w => slice_rest w 9 (s.drop f) O hO' Tryz.underlying9
      have HE := Lib.hid (show (pre ++ [p]).map (·.1) ++ piecesB 44 ((s.drop f).drop O) = piecesB 44 s by
        rw [← HPC.out.1, List.map_append, List.map_cons, List.map_nil, hp, hmk, hO, List.append_assoc]; rfl)
      obtain ⟨fn, tmps, assign, body, hy, hR⟩ := hY pre p wr hj hpre
      rw [hp] at hy
      obtain ⟨X, hX⟩ : ∃ X, X = s.drop f := ⟨_, rfl⟩
      rw [← hX] at HX sl1 sl2 HE HG c0 HB hy
      obtain ⟨Y, hY1⟩ : ∃ Y, Y = X.take o := ⟨_, rfl⟩
      rw [← hY1] at sl1 hy
      obtain ⟨Z, hZ⟩ : ∃ Z, Z = X.drop O := ⟨_, rfl⟩
      rw [← hZ] at sl2 HE HG
      clear hp hpl hix hmk hpc b0 b1 b2 hlt hO hlm ho' hO' hpre hX hY1 hZ
      gi_wp2_with (refine ⟨trivial, ?_⟩; gi_at_call 75; refine (callsIn_wide.2 (HX.out _)).mono ?_; rintro e w' ⟨rfl, rfl⟩)
      refine hR.mono ?_
      rintro e W3 (⟨rfl, hJ3, hk3⟩ | ⟨rfl, hJx3⟩)
      · have b0 := (hk3 B (Nat.le_refl _) (by omega)).trans HB.out.1
        have b1 := (hk3 (B + 1) (by omega) (by omega)).trans HB.out.2.1
        have b2 := (hk3 (B + 2) (by omega) (by omega)).trans HB.out.2.2
        have c0 := cell_of_one b0
        have f0 := free_of_one b0
        have c1 := cell_of_one b1
        have HN := Lib.hid (And.intro (one_setCell (u := .string (str Z)) b0) (And.intro ((heap_setCell_other W3 ⟨B, 0, none⟩ (B + 1) (.string (str Z)) (by show B + 1 ≠ B; omega)).trans b1) (And.intro ((heap_setCell_other W3 ⟨B, 0, none⟩ (B + 2) (.string (str Z)) (by show B + 2 ≠ B; omega)).trans b2) (hJ _ W3 (.string (str Z)) hJ3))))
        clear b0 b1 b2 hk3
        gi_wp2
        go_roundw
        case rel => exact ⟨f + O, pre ++ [p], HG.out.1, by rw [← HG.out.2.1]; exact HE.out, HG.out.2.2.2, HN.out.2.2.2, by rw [← HG.out.2.1]; exact HN.out.1, HN.out.2.1, HN.out.2.2.1⟩
        case measure => rw [cellLen_one HN.out.1, cellLen_one HB.out.1, str_size, str_size]; exact HG.out.2.2.1
      · gi_wp2
        refine bodyPost_ret (results_none rfl _ _ _) rfl ?_
        exact ⟨⟨_, rfl⟩, .inr ⟨pre ++ [p], ⟨_, HE.out⟩, hJx3⟩⟩
theorem seq10 (n : Nat) (hn : 1 ≤ n) (B : Nat) (s : List UInt8) (hs : s.length < 1152921504606846976) (w : World) (hB : B + 3 ≤ w.heap.size) (hB0 : w.heap[B]? = some (.cells #[.string (str s)] 9 (0, 0))) (hB1 : w.heap[B + 1]? = some (.cells #[.string ⟨#[44]⟩] 9 (0, 0))) (hB2 : w.heap[B + 2]? = some (.cells #[.int .i64 0] 3 (0, 0))) :
    SeqCell Fence.wide n Tryz.prog 119 #[.pointer (some ⟨B + 1, 0, none⟩), .pointer (some ⟨B, 0, none⟩), .pointer (some ⟨B + 2, 0, none⟩)] (fun x : Pc s => #[.string (str x.1)]) B (fun xs => xs.map (·.1) = piecesB 44 s) (fun pre => pre.map (·.1) <+: piecesB 44 s) (s.length + 1) w := fun l J Jx W hW hJ hY h0 =>
  splitSeq_in n hn l B s hs J Jx hJ hY W ((hW.block B (by omega)).trans hB0) ((hW.block (B + 1) (by omega)).trans hB1) ((hW.block (B + 2) (by omega)).trans hB2) h0
/-- The function: it has laid its text, the byte between, and a number into three cells of its own. -/
theorem splitSeq_any (s : List UInt8) (w : World) : Calls Tryz.prog 85 #[.string (str s), .string ⟨#[44]⟩] w fun e w' => e = .returned (.func (.func 119) #[] #[.pointer (some ⟨w.heap.size + 1, 0, none⟩), .pointer (some ⟨w.heap.size, 0, none⟩), .pointer (some ⟨w.heap.size + 2, 0, none⟩)]) ∧
    (Below w.heap.size w w' ∧ w'.heap.size = w.heap.size + 3 ∧ w'.heap[w.heap.size]? = some (.cells #[.string (str s)] 9 (0, 0)) ∧ w'.heap[w.heap.size + 1]? = some (.cells #[.string ⟨#[44]⟩] 9 (0, 0)) ∧ w'.heap[w.heap.size + 2]? = some (.cells #[.int .i64 0] 3 (0, 0))) := by
  have hmf : ∀ (fn : Fn) (first cap : Array Value) (w : World), (Instr.makeFunc fn first cap).run Tryz.prog w = .ok (.func fn first cap) w := fun _ _ _ _ => rfl
  have H := Lib.hid (show Calls Tryz.prog 100 #[.string (str s), .string ⟨#[44]⟩, .int .i64 0] w fun e w' => e = .returned (.func (.func 119) #[] #[.pointer (some ⟨w.heap.size + 1, 0, none⟩), .pointer (some ⟨w.heap.size, 0, none⟩), .pointer (some ⟨w.heap.size + 2, 0, none⟩)]) ∧ w' = ((w.alloc (.cells #[.string (str s)] 9)).alloc (.cells #[.string ⟨#[44]⟩] 9)).alloc (.cells #[.int .i64 0] 3) from by
    go_enter Tryz.func100, Tryz.ntmps100
    go_wp2
    go_ret
    exact ⟨rfl, rfl⟩)
  go_enter Tryz.func85, Tryz.ntmps85
  go_wp2_with (first | (go_at_call 100; refine H.out.mono ?_; rintro e w1 ⟨rfl, rfl⟩))
  go_ret
  exact ⟨rfl, (((Below.refl w.heap.size w).alloc (Nat.le_refl _) _).alloc (by simp) _).alloc (by simp; omega) _, by simp, alloc3_0 w _ _ _, alloc3_1 w _ _ _, alloc3_2 w _ _ _⟩
end Go.Proofs.YteooklnejiipkaaGreatDoor
namespace Go.Proofs.YteooklnejiipkaaGreatDoor
open Go.RowKit
/-- The first colon. -/
theorem index_colon (s : List UInt8) : (s.contains 58 = false ∧ Lib.indexByte s 58 = -1 ∧ aheadD s = s ∧ behindD s = []) ∨ ∃ k : Nat, k < s.length ∧ Lib.indexByte s 58 = (k : Int) ∧ aheadD s = s.take k ∧ behindD s = s.drop (k + 1) ∧ s.contains 58 = true := by
  have hge := Lib.indexByte_ge s 58
  by_cases h : Lib.indexByte s 58 = -1
  · have hn : (58 : UInt8) ∉ s := fun hm => by
      obtain ⟨j, hj, e⟩ := List.mem_iff_getElem.1 hm
      exact absurd (by rw [List.getElem?_eq_getElem hj, e]) (Lib.indexByte_none h j)
    have ha : aheadD s = s := by
      unfold aheadD
      have : ∀ l : List UInt8, (58 : UInt8) ∉ l → l.takeWhile (· != 58) = l := by
        intro l
        induction l with
        | nil => intro _; rfl
        | cons c r ih =>
          intro hl
          have hc : c ≠ 58 := fun e => hl (by rw [e]; exact List.mem_cons_self)
          rw [List.takeWhile_cons_of_pos (by simpa using hc), ih fun hm => hl (List.mem_cons_of_mem _ hm)]
      exact this s hn
    refine .inl ⟨?_, h, ha, ?_⟩
    · rw [Bool.eq_false_iff, ne_eq, List.contains_iff_mem]; exact hn
    · unfold behindD; rw [ha]; exact List.drop_of_length_le (by omega)
  · obtain ⟨k, hk⟩ : ∃ k : Nat, Lib.indexByte s 58 = (k : Int) := ⟨(Lib.indexByte s 58).toNat, by omega⟩
    obtain ⟨h1, h2⟩ := Lib.indexByte_some hk
    have hlt : k < s.length := (List.getElem?_eq_some_iff.1 h1).1
    obtain ⟨a1, a2, a3⟩ := ahead_at (s := s) (k := k) hlt (by rw [List.getD_eq_getElem?_getD, h1]; rfl) (fun j hj e => by
      refine h2 j hj ?_
      rw [List.getD_eq_getElem?_getD] at e
      rw [List.getElem?_eq_getElem (by omega)] at e ⊢
      exact congrArg some e)
    exact .inr ⟨k, hlt, hk, a1, a2, a3⟩
set_option maxRecDepth 100000 in
set_option maxHeartbeats 4000000 in
theorem liteCut_any (s : List UInt8) (hs : s.length < 1152921504606846976) (w : World) : Calls Tryz.prog 99 #[.string (str s), .string ⟨#[58]⟩] w fun e w' => e = .returned (.tuple #[.string (str (aheadD s)), .string (str (behindD s)), .bool (s.contains 58)]) ∧ Below w.heap.size w w' := by
  have HX := Lib.hid (show ∀ w, Calls Tryz.prog 87 #[.string (str s), .string ⟨#[58]⟩] w fun e w' => e = .returned (.int .i64 (Lib.indexByte s 58)) ∧ w = w' from fun w => by
    refine (Tryz.stringslite_Index_one (str s) 58 w).mono fun e w' h => ?_
    rw [show (str s).data.toList = s from by simp [str]] at h
    exact ⟨h.1, h.2.symm⟩)
  have s2 : (ByteArray.mk #[58]).size = 1 := rfl
  rcases index_colon s with ⟨c1, c2, c3, c4⟩ | ⟨k, hk, c2, c3, c4, c1⟩
  · rw [c2] at HX
    rw [c1, c3, c4]
    clear c1 c2 c3 c4
    go_enter Tryz.func99, Tryz.ntmps99
    go_wp2_with (first | (go_at_call 87; refine (HX.out _).mono ?_; rintro e w1 ⟨rfl, rfl⟩))
    go_ret3
    exact ⟨rfl, Below.refl _ _⟩
  · rw [c2] at HX
    rw [c1, c3, c4]
    have q1 : decide ((k : Int) ≥ 0) = true := decide_eq_true (by omega)
    obtain ⟨k1, hk1⟩ : ∃ k1, k1 = k + 1 := ⟨_, rfl⟩
    have e1 : wrap64 ((k : Int) + 1) = (k1 : Int) := by rw [wrap64]; omega
    have s3 : ∀ w, (Instr.slice 9 (.string (str s)) none (some (.int .i64 (k : Int))) none).run Tryz.prog w = .ok (.string (str (s.take k))) w := fun w => slice_upto w 9 s k (by omega) Tryz.underlying9
    have s4 : ∀ w, (Instr.slice 9 (.string (str s)) (some (.int .i64 (k1 : Int))) none none).run Tryz.prog w = .ok (.string (str (s.drop k1))) w := fun w => slice_rest w 9 s k1 (by omega) Tryz.underlying9
    rw [← hk1]
    generalize s.take k = X at *
    generalize s.drop k1 = Y at *
    clear c1 c2 c3 c4 hk hk1 hs
    go_enter Tryz.func99, Tryz.ntmps99
    go_wp2_with (first | (go_at_call 87; refine (HX.out _).mono ?_; rintro e w1 ⟨rfl, rfl⟩))
    go_quiet (fail)
    have B1 := Lib.hid (below_draws (Below.refl w.heap.size w) nq)
    generalize w.drewN nq = W1 at *
    go_wp2
    go_ret3
    exact ⟨rfl, B1.out⟩
set_option maxRecDepth 100000 in
set_option maxHeartbeats 4000000 in
theorem cut_any (s : List UInt8) (hs : s.length < 1152921504606846976) (w : World) : Calls Tryz.prog 84 #[.string (str s), .string ⟨#[58]⟩] w fun e w' => e = .returned (.tuple #[.string (str (aheadD s)), .string (str (behindD s)), .bool (s.contains 58)]) ∧ Below w.heap.size w w' := by
  have HC := Lib.hid (fun w => liteCut_any s hs w)
  generalize aheadD s = X at *
  generalize behindD s = Y at *
  generalize s.contains 58 = c at *
  clear hs
  go_enter Tryz.func84, Tryz.ntmps84
  go_wp2_with (first | (go_at_call 99; refine (HC.out _).mono ?_; rintro e W1 ⟨rfl, hb⟩; have B1 := Lib.hid hb; clear hb))
  go_ret3
  exact ⟨rfl, B1.out⟩
end Go.Proofs.YteooklnejiipkaaGreatDoor
namespace Go.Proofs.YteooklnejiipkaaGreatDoor
open Go.RowKit
theorem ahead_le (s : List UInt8) : (aheadD s).length ≤ s.length := (List.takeWhile_sublist _).length_le
theorem behind_le (s : List UInt8) : (behindD s).length ≤ s.length := by unfold behindD; rw [List.length_drop]; omega
set_option maxRecDepth 100000 in
set_option maxHeartbeats 8000000 in
theorem parse_any9 (s : List UInt8) (hs : s.length < 1152921504606846976) (w : World) : Calls Tryz.prog 68 #[.string (str s)] w fun e w' => e = .returned (.tuple #[.agg #[.int .i64 (parR s), .int .i64 (parQ s)], .int .i64 (parErr s)]) ∧ Below w.heap.size w w' := by
  have HC := Lib.hid (fun w => cut_any s hs w)
  have RA := Lib.hid (fun w => read_any w (aheadD s) 31 (by have := ahead_le s; omega))
  have RB := Lib.hid (fun w => read_any w (behindD s) 1099511627776 (by have := behind_le s; omega))
  have HD := Lib.hid (show isDot s = (s.contains 58 && (readErr (aheadD s) 31 == 0 && (readErr (behindD s) 1099511627776 == 0 && mayD (readN (aheadD s) 31) (readN (behindD s) 1099511627776)))) from rfl)
  have HP := Lib.hid (show parErr s = (if isDot s then 0 else 2) ∧ parR s = (if isDot s then readN (aheadD s) 31 else 0) ∧ parQ s = (if isDot s then readN (behindD s) 1099511627776 else 0) from ⟨rfl, rfl, rfl⟩)
  clear hs
  generalize readN (aheadD s) 31 = r at *
  generalize readN (behindD s) 1099511627776 = q at *
  generalize readErr (aheadD s) 31 = e1 at *
  generalize readErr (behindD s) 1099511627776 = e2 at *
  generalize aheadD s = X at *
  generalize behindD s = Y at *
  generalize s.contains 58 = c at *
  have M1 := Lib.hid (fun w => may_any9 r q w)
  have B0 := Lib.hid ((Below.refl w.heap.size w).alloc (Nat.le_refl _) (.cells #[.int .i64 0, .int .i64 0] 23 (0, 0)))
  have H0 := Lib.hid (heap_last w (.cells #[.int .i64 0, .int .i64 0] 23 (0, 0)))
  go_enter Tryz.func68, Tryz.ntmps68
  go_upto_region 1 with fail
  generalize w.alloc (.cells #[.int .i64 0, .int .i64 0] 23 (0, 0)) = W0 at *
  go_upto_region 2 with (first | (go_at_call 84; refine (HC.out _).mono ?_; rintro e W1 ⟨rfl, hb⟩; have G1 := Lib.hid (row_kept H0.out hb); have B1 := Lib.hid (below_next B0.out hb); clear hb))
  go_upto_region 3 with (first | (go_at_call 71; refine (RA.out _).mono ?_; rintro e W2 ⟨rfl, hb⟩; have G2 := Lib.hid (row_kept G1.out hb); have B2 := Lib.hid (below_next B1.out hb); clear hb))
  go_upto_region 4 with (first | (go_at_call 71; refine (RB.out _).mono ?_; rintro e W3 ⟨rfl, hb⟩; have G3 := Lib.hid (row_kept G2.out hb); have B3 := Lib.hid (below_next B2.out hb); clear hb))
  cases c with
  | false =>
    have hd : isDot s = false := by rw [HD.out]; rfl
    have HR := Lib.hid (show parR s = 0 ∧ parQ s = 0 ∧ parErr s = 2 by have h := HP.out; rw [hd] at h; exact ⟨h.2.1, h.2.2, h.1⟩)
    clear hd
    go_wp2_with (first
      | (refine build_on (by rfl) 23 #[] rfl _ _ dot_built0 (by simp [Act.eval]) ?_)
      | (refine wpList_store_row rfl 23 (.tmp 2) (.tmp 38) rfl w.heap.size _ rfl rfl 23 _ G3.out (by kernel_rfl) rfl (dot_one _ _) ?_))
    exact bodyPost_ret (results_cell2 Tryz.results68 _ _ w.heap.size 23 _ (0, 0) _ _ rfl rfl (setRow_heap _ _ _ _ _ _ G3.out) Tryz.underlying23 rfl (by kernel_rfl)) rfl ⟨by rw [HR.out.1, HR.out.2.1, HR.out.2.2]; rfl, below_setRow B3.out (Nat.le_refl _) _⟩
  | true =>
    by_cases z1 : e1 = 0
    · subst z1
      by_cases z2 : e2 = 0
      · subst z2
        go_upto_region 7 with (first
          | (refine build_on (by rfl) 23 #[(0, .tmp 39), (1, .tmp 40)] rfl _ _ (dot_built _ _) (by simp [Act.eval]) ?_))
        have H4 := Lib.hid (heap_last W3 (.cells #[.int .i64 r, .int .i64 q] 23 (0, 0)))
        have G4 := Lib.hid (row_kept G3.out ((Below.refl W3.heap.size W3).alloc (Nat.le_refl _) (.cells #[.int .i64 r, .int .i64 q] 23 (0, 0))))
        have B4 := Lib.hid (B3.out.alloc B3.out.size (.cells #[.int .i64 r, .int .i64 q] 23 (0, 0)))
        generalize W3.alloc (.cells #[.int .i64 r, .int .i64 q] 23 (0, 0)) = W4 at *
        cases hm : mayD r q with
        | true =>
          have hd : isDot s = true := by rw [HD.out, hm]; rfl
          have HR := Lib.hid (show parR s = r ∧ parQ s = q ∧ parErr s = 0 by have h := HP.out; rw [hd] at h; exact ⟨h.2.1, h.2.2, h.1⟩)
          rw [hm] at M1
          clear hd hm
          go_wp2_with (first
            | (refine load_row_on (by rfl) 23 (.tmp 11) rfl W3.heap.size rfl 23 _ (0, 0) _ H4.out Tryz.underlying23 rfl (by kernel_rfl) ?_)
            | (go_at_call 18; refine (M1.out _).mono ?_; rintro e W5 ⟨rfl, hb⟩; have G5 := Lib.hid (row_kept G4.out hb); have H5 := Lib.hid (row_kept H4.out hb); have B5 := Lib.hid (below_next B4.out hb); clear hb)
            | (refine load_row_on (by rfl) 23 (.tmp 11) rfl W3.heap.size rfl 23 _ (0, 0) _ H5.out Tryz.underlying23 rfl (by kernel_rfl) ?_)
            | (refine wpList_store_row rfl 23 (.tmp 2) (.tmp 46) rfl w.heap.size _ rfl rfl 23 _ G5.out (by kernel_rfl) rfl (dot_one _ _) ?_))
          exact bodyPost_ret (results_cell2 Tryz.results68 _ _ w.heap.size 23 _ (0, 0) _ _ rfl rfl (setRow_heap _ _ _ _ _ _ G5.out) Tryz.underlying23 rfl (by kernel_rfl)) rfl ⟨by rw [HR.out.1, HR.out.2.1, HR.out.2.2]; rfl, below_setRow B5.out (Nat.le_refl _) _⟩
        | false =>
          have hd : isDot s = false := by rw [HD.out, hm]; rfl
          have HR := Lib.hid (show parR s = 0 ∧ parQ s = 0 ∧ parErr s = 2 by have h := HP.out; rw [hd] at h; exact ⟨h.2.1, h.2.2, h.1⟩)
          rw [hm] at M1
          clear hd hm
          go_wp2_with (first
            | (refine load_row_on (by rfl) 23 (.tmp 11) rfl W3.heap.size rfl 23 _ (0, 0) _ H4.out Tryz.underlying23 rfl (by kernel_rfl) ?_)
            | (go_at_call 18; refine (M1.out _).mono ?_; rintro e W5 ⟨rfl, hb⟩; have G5 := Lib.hid (row_kept G4.out hb); have B5 := Lib.hid (below_next B4.out hb); clear hb)
            | (refine build_on (by rfl) 23 #[] rfl _ _ dot_built0 (by simp [Act.eval]) ?_)
            | (refine wpList_store_row rfl 23 (.tmp 2) (.tmp 45) rfl w.heap.size _ rfl rfl 23 _ G5.out (by kernel_rfl) rfl (dot_one _ _) ?_))
          exact bodyPost_ret (results_cell2 Tryz.results68 _ _ w.heap.size 23 _ (0, 0) _ _ rfl rfl (setRow_heap _ _ _ _ _ _ G5.out) Tryz.underlying23 rfl (by kernel_rfl)) rfl ⟨by rw [HR.out.1, HR.out.2.1, HR.out.2.2]; rfl, below_setRow B5.out (Nat.le_refl _) _⟩
      · have t2 : (e2 != 0) = true := bne_iff_ne.2 z2
        have hd : isDot s = false := by rw [HD.out, show (e2 == 0) = false from beq_eq_false_iff_ne.2 z2]; simp
        have HR := Lib.hid (show parR s = 0 ∧ parQ s = 0 ∧ parErr s = 2 by have h := HP.out; rw [hd] at h; exact ⟨h.2.1, h.2.2, h.1⟩)
        clear z2 hd
        go_wp2_with (first
          | (refine build_on (by rfl) 23 #[] rfl _ _ dot_built0 (by simp [Act.eval]) ?_)
          | (refine wpList_store_row rfl 23 (.tmp 2) (.tmp 38) rfl w.heap.size _ rfl rfl 23 _ G3.out (by kernel_rfl) rfl (dot_one _ _) ?_))
        exact bodyPost_ret (results_cell2 Tryz.results68 _ _ w.heap.size 23 _ (0, 0) _ _ rfl rfl (setRow_heap _ _ _ _ _ _ G3.out) Tryz.underlying23 rfl (by kernel_rfl)) rfl ⟨by rw [HR.out.1, HR.out.2.1, HR.out.2.2]; rfl, below_setRow B3.out (Nat.le_refl _) _⟩
    · have t1 : (e1 != 0) = true := bne_iff_ne.2 z1
      have hd : isDot s = false := by rw [HD.out, show (e1 == 0) = false from beq_eq_false_iff_ne.2 z1]; simp
      have HR := Lib.hid (show parR s = 0 ∧ parQ s = 0 ∧ parErr s = 2 by have h := HP.out; rw [hd] at h; exact ⟨h.2.1, h.2.2, h.1⟩)
      clear z1 hd
      go_wp2_with (first
        | (refine build_on (by rfl) 23 #[] rfl _ _ dot_built0 (by simp [Act.eval]) ?_)
        | (refine wpList_store_row rfl 23 (.tmp 2) (.tmp 38) rfl w.heap.size _ rfl rfl 23 _ G3.out (by kernel_rfl) rfl (dot_one _ _) ?_))
      exact bodyPost_ret (results_cell2 Tryz.results68 _ _ w.heap.size 23 _ (0, 0) _ _ rfl rfl (setRow_heap _ _ _ _ _ _ G3.out) Tryz.underlying23 rfl (by kernel_rfl)) rfl ⟨by rw [HR.out.1, HR.out.2.1, HR.out.2.2]; rfl, below_setRow B3.out (Nat.le_refl _) _⟩
end Go.Proofs.YteooklnejiipkaaGreatDoor
