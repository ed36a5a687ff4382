/-
The walk of the statement of layer 3 on blocks behind one another, out of the contracts of package sha.
-/
import Derived.Test.YtnfklikphkkpoaaDoorLaw03Sums
import Derived.Deep.QuietTactic
import Derived.BigQuiet
namespace Go.Proofs.YtnfklikphkkpoaaDoor
open Go.RowKit
theorem join4 (a b c d : Nat) (ha : a < 256) (hb : b < 256) (hc : c < 256) (hd : d < 256) : a * 16777216 % 4294967296 ||| b * 65536 % 4294967296 ||| c * 256 % 4294967296 ||| d = a * 16777216 + b * 65536 + c * 256 + d := by
  rw [Nat.mod_eq_of_lt (show a * 16777216 < 4294967296 by omega), Nat.mod_eq_of_lt (show b * 65536 < 4294967296 by omega), Nat.mod_eq_of_lt (show c * 256 < 4294967296 by omega),
    nat_join 24 (a * 16777216) (b * 65536) (by omega) (by omega), nat_join 16 (a * 16777216 + b * 65536) (c * 256) (by omega) (by omega), nat_join 8 (a * 16777216 + b * 65536 + c * 256) d (by omega) (by omega)]
theorem digest_word (H : Nat → BitVec 32) (i : Nat) : digestF H (4 * i) <<< 24 ||| digestF H (4 * i + 1) <<< 16 ||| digestF H (4 * i + 2) <<< 8 ||| digestF H (4 * i + 3) = H i := by
  unfold digestF
  rw [show 4 * i / 4 = i from by omega, show (4 * i + 1) / 4 = i from by omega, show (4 * i + 2) / 4 = i from by omega, show (4 * i + 3) / 4 = i from by omega,
    show 4 * i % 4 = 0 from by omega, show (4 * i + 1) % 4 = 1 from by omega, show (4 * i + 2) % 4 = 2 from by omega, show (4 * i + 3) % 4 = 3 from by omega]
  generalize H i = x
  show ((x >>> 24) &&& 255#32) <<< 24 ||| ((x >>> 16) &&& 255#32) <<< 16 ||| ((x >>> 8) &&& 255#32) <<< 8 ||| ((x >>> 0) &&& 255#32) = x
  apply BitVec.eq_of_toNat_eq
  have hx := x.isLt
  have e : ∀ k, ((x >>> k) &&& 255#32).toNat = x.toNat / 2 ^ k % 256 := fun k => by
    rw [BitVec.toNat_and, show (255#32).toNat = 2 ^ 8 - 1 from rfl, Nat.and_two_pow_sub_one_eq_mod, BitVec.toNat_ushiftRight, Nat.shiftRight_eq_div_pow]
  rw [BitVec.toNat_or, BitVec.toNat_or, BitVec.toNat_or, BitVec.toNat_shiftLeft, BitVec.toNat_shiftLeft, BitVec.toNat_shiftLeft, e, e, e, e, Nat.shiftLeft_eq, Nat.shiftLeft_eq, Nat.shiftLeft_eq]
  simp only [Nat.reducePow, Nat.div_one]
  rw [join4 _ _ _ _ (Nat.mod_lt _ (by decide)) (Nat.mod_lt _ (by decide)) (Nat.mod_lt _ (by decide)) (Nat.mod_lt _ (by decide))]
  omega
theorem first_R (w : World) : Calls Tryd.prog 18 #[] w fun e w' => e = .returned (.agg (row .u32 8 firstF)) ∧ Below w.heap.size w w' :=
  (first_any w).mono fun _ _ ⟨h1, h2⟩ => ⟨h1, h2 ▸ (Below.refl _ _).alloc (Nat.le_refl _) _⟩
set_option maxHeartbeats 4000000 in
theorem shaBlocks_walk {Inv : World → Nat → List (BitVec 32) → Prop} (F : HashFace Inv) (bs : List (BitVec 32)) (hbs : ∀ x ∈ bs, u32 x < 256) (v : Value) (w : World) (tab : Tab w) (hv : HasBytes w v bs) (hmax : bs.length ≤ maxLen) :
    Calls Tryd.prog 6 #[v] w fun e w' => e = .returned (.bool true) ∧ Below w.heap.size w w' := by
  obtain ⟨i0, hi, hz0, hz1, hz2⟩ := info_parts infoByte
  have HT := Lib.hid tab
  have HV := Lib.hid hv
  have hl : bs.length < 9223372036854775808 := by unfold maxLen at hmax; omega
  clear hmax tab
  obtain ⟨ao, cap, rfl, -⟩ := hv
  by_cases h4 : 1000 < bs.length
  · go_enter Tryd.func6, Tryd.ntmps6
    go_wp2_with (first | (go_at_call 9; refine (awake3_any F _ HT.out).mono ?_; rintro e w1 ⟨rfl, hb1⟩))
    go_ret
    exact ⟨rfl, hb1⟩
  have hpl : (padB bs.length).length ≤ 72 := by rw [padB_length]; have := padZeros_lt bs.length; omega
  have hpl0 : 9 ≤ (padB bs.length).length := by rw [padB_length]; omega
  have hP64 := paddedB_length bs
  have hPb : ∀ x ∈ paddedB bs, u32 x < 256 := fun x hx => by
    rcases List.mem_append.1 hx with h | h
    · exact hbs x h
    · exact padB_bytes _ x h
  obtain ⟨P, hP⟩ : ∃ P, P = bs ++ padB bs.length := ⟨_, rfl⟩
  have hPl : P.length ≤ 1072 := by rw [hP, List.length_append]; omega
  have hPl0 : 9 ≤ P.length := by rw [hP, List.length_append]; omega
  have hsum : sumF bs = digestF (wordsF P (P.length / 64)) := by rw [hP]; rfl
  rw [show paddedB bs = P from hP.symm] at hP64 hPb
  have HP := Lib.hid hP
  have HSUM := Lib.hid hsum
  have HPB := Lib.hid hPb
  have HBS := Lib.hid hbs
  have hd1 : decide ((P.length : Int) % 64 = 0) = true := decide_eq_true (by omega)
  have hd2 : decide ((P.length : Int) = 0) = false := decide_eq_false (by omega)
  have h64 : (P.length : Int) % 64 = 0 := by omega
  clear hP hsum hPb hbs
  go_enter Tryd.func6, Tryd.ntmps6
  go_wp2_with (first | (go_at_call 9; refine (awake3_any F _ HT.out).mono ?_; rintro e w0 ⟨rfl, hb0⟩) | (at_builtin; refine append_has rfl (.tmp 16) (.tmp 17) 22 rfl w0.heap.size 5 i0 Tryd.underlying22 hi hz0 hz1 hz2 _ [] bs rfl ⟨rfl, .inr ⟨w0.heap.size, 0, #[], rfl, Nat.le_refl _, heap_last _ _, Nat.le_refl _, by decide, rfl, rfl⟩⟩ _ rfl (has_below HV.out (hb0.alloc hb0.size _)) (by simp; omega) (by simp) ?_; intro v1 w1 ho1 hg1 hn1; have hb1 := below_grown (hb0.alloc hb0.size _) hg1 (by simp; exact Nat.le_succ_of_le hb0.size) (fun k hk => by cases hk; exact hb0.size); have hv1 : v1 ≠ .slice none 0 0 := hn1 (fun h => by cases h); have HO1 := Lib.hid ho1; have s1 : w0.heap.size + 1 ≤ w1.heap.size := (by have := hg1.size; simpa using this); have s0 := hb0.size; clear hn1 hg1 ho1 hb0) | (go_at_call 12; refine (F.pad _ bs.length (by omega)).mono ?_; rintro e w2 ⟨v2, rfl, hv2, hb2⟩; have HO2 := Lib.hid (And.intro (own_below HO1.out hb2) hv2); have B2 := hb1.trans (hb2.mono hb1.size); have s2 : w0.heap.size + 1 ≤ w2.heap.size := Nat.le_trans s1 hb2.size; clear hv2 hb2 HO1 hb1 s1) | (at_builtin; refine append_has rfl (.tmp 18) (.tmp 21) 22 rfl w0.heap.size 5 i0 Tryd.underlying22 hi hz0 hz1 hz2 v1 bs (padB bs.length) rfl HO2.out.1 v2 rfl HO2.out.2 (by omega) (by omega) ?_; intro v3 w3 ho3 hg3 hn3; rw [← HP.out] at ho3; obtain ⟨g, cap3, cur, rfl, hgb, hgh, hgn, -, -, htk⟩ := own_block ho3 (hn3 hv1); have hrow : ∀ k, v1.ownBlock = some k → w0.heap.size ≤ k := fun k hk => (HO2.out.1.lt k hk).1; have B3 := below_grown B2 hg3 B2.size (fun k hk => Nat.le_trans s0 (hrow k hk)); have s3 := Nat.le_trans s2 hg3.size; have hgl : g < w3.heap.size := (Array.getElem?_eq_some_iff.1 hgh).1; have HG := Lib.hid hgh; have HTK := Lib.hid htk; clear ho3 hg3 hn3 hrow B2 HO2 s2 hv1 hgh htk) | (go_at_call 18; refine (first_R _).mono ?_; rintro e w4 ⟨rfl, hb4⟩; have HG4 := Lib.hid ((hb4.block g hgl).trans HG.out); have B4 := below_next B3 hb4; have hgl4 : g < w4.heap.size := Nat.lt_of_lt_of_le hgl hb4.size; clear HG B3 hb4 hgl) | (refine store_new rfl 38 (.tmp 5) (.tmp 32) rfl rfl w4 _ _ 38 rfl rfl rfl (by kernel_rfl) rfl (row_one _ _ _) ?_; intro w5 hh5 hb5 s5; have HG5 := Lib.hid ((hb5.block g hgl4).trans HG4.out); have HH5 := Lib.hid hh5; have B5 := below_next B4 hb5; clear HG4 B4 hb5 hh5))
  have t4 : w.heap.size ≤ w4.heap.size := by omega
  go_loopw [6] (fun c wr => ∃ k : Nat, 64 * k ≤ P.length ∧ c = .int .i64 ((64 * k : Nat) : Int) ∧ wr.heap[g]? = some (.cells cur 5 (0, 0)) ∧ wr.heap[w4.heap.size]? = some (.cells (row .u32 8 (wordsF P k)) 38 (0, 0)) ∧ w4.heap.size < wr.heap.size ∧ Below w.heap.size w wr) (fun c _ => P.length - (intOf c).toNat)
  case atStart => exact ⟨0, by omega, rfl, HG5.out, by rw [wordsF_zero]; exact HH5.out, s5, B5⟩
  case round =>
    clear HG5 HH5 s5 B5
    obtain ⟨k, hk, rfl, hg, hh, hs, hb⟩ := hrel
    have HG := Lib.hid hg
    have HH := Lib.hid hh
    clear hg hh
    obtain ⟨at0, hat⟩ : ∃ a, a = 64 * k := ⟨_, rfl⟩
    rw [← hat] at hk ⊢
    by_cases hlt : at0 < P.length
    · obtain ⟨wo, rfl⟩ : ∃ wo, wo = wr := ⟨_, rfl⟩
      have hat64 : at0 + 64 ≤ P.length := by omega
      have HAT := Lib.hid hat
      clear hat
      go_wp2
      go_loopw [8] (fun c wi => ∃ i : Nat, i ≤ 64 ∧ c = .int .i64 i ∧ wi.heap[g]? = some (.cells cur 5 (0, 0)) ∧ wi.heap[w4.heap.size]? = some (.cells (row .u32 8 (wordsF P k)) 38 (0, 0)) ∧ wi.heap[wo.heap.size]? = some (.cells (row .u8 64 (upTo (blockF P k) i)) 40 (0, 0)) ∧ wo.heap.size < wi.heap.size ∧ Below w.heap.size w wi) (fun c _ => 64 - (intOf c).toNat)
      case atStart =>
        refine ⟨0, by omega, rfl, ?_, ?_, ?_, by simp, hb.alloc hb.size _⟩
        · rw [heap_at_alloc, if_neg (by omega)]; exact HG.out
        · rw [heap_at_alloc, if_neg (by omega)]; exact HH.out
        · rw [upTo_zero]; exact heap_last _ _
      case round =>
        clear HG HH hb
        obtain ⟨i, hi64, rfl, hg, hh, hx, hsi, hb⟩ := hrel
        by_cases hil : i < 64
        · obtain ⟨p, hp⟩ : ∃ p : Nat, p = at0 + i := ⟨_, rfl⟩
          have e0 := wrap_at ((at0 : Int) + (i : Int)) p (by omega) (by omega)
          have q0 : (p : Int) < (P.length : Int) := by omega
          have q1 : (i : Int) < 64 := by omega
          have c0 := own_cell hg HTK.out rfl p (by omega)
          have c1 := (cell_of_row wr _ i _ _ _ hx).trans (row_get .u8 64 _ i hil)
          have f1 := frozen_of_row wr _ i _ _ hx
          have HE := Lib.hid (show P[p]?.getD 0#32 = blockF P k i by unfold blockF; rw [hp, HAT.out, List.getD_eq_getElem?_getD])
          have HG := Lib.hid hg
          have HH := Lib.hid hh
          have HX := Lib.hid hx
          clear hg hh hx hp
          go_wp2
          go_roundw
          case rel =>
            rw [HE.out]
            refine ⟨i + 1, by omega, by go_num, ?_, ?_, ?_, by simpa using hsi, hb.setCell (show w.heap.size ≤ wo.heap.size by omega) _⟩
            · rw [heap_setCell_other _ _ _ _ (by simp; omega)]; exact HG.out
            · rw [heap_setCell_other _ _ _ _ (by simp; omega)]; exact HH.out
            · rw [← upTo_set]; exact heap_setCell_same _ _ _ _ _ _ HX.out
          case measure => simp [intOf]; omega
        · obtain rfl : i = 64 := by omega
          rw [upTo_full] at hx
          have HG := Lib.hid hg
          have HH := Lib.hid hh
          have HX := Lib.hid hx
          clear hg hh hx
          go_wp2_with (first | (refine wpList_load_row rfl 38 (.tmp 5) rfl (w4.heap.size) rfl 38 _ (0, 0) _ HH.out Tryd.underlying38 rfl (by kernel_rfl) ?_) | (refine wpList_load_row rfl 40 (.tmp 7) rfl (wo.heap.size) rfl 40 _ (0, 0) _ HX.out Tryd.underlying40 rfl (by kernel_rfl) ?_) | (go_at_call 19; refine (compress_any (wordsF P k) (blockF P k) _ (tab_keep HT.out hb (Nat.le_refl _))).mono ?_; rintro e w6 ⟨rfl, hb6⟩; replace HG := Lib.hid ((hb6.block g (by omega)).trans HG.out); replace HH := Lib.hid ((hb6.block w4.heap.size (by omega)).trans HH.out); have B6 := below_next hb hb6; have s6 : w4.heap.size < w6.heap.size := Nat.lt_of_lt_of_le (by omega) hb6.size; clear HX hb hb6 hsi) | (refine store_old rfl 38 (.tmp 5) (.tmp 53) rfl rfl w4.heap.size _ _ 38 HH.out rfl rfl (by kernel_rfl) ((row_size _ _ _).trans (row_size _ _ _).symm) (row_one _ _ _) ?_; intro w8 hh8 ho8 hs8 hb8; replace HG := Lib.hid ((ho8 g (by omega)).trans HG.out); replace HH := Lib.hid hh8; have B8 := hb8 _ _ B6 (by omega); have s8 : w4.heap.size < w8.heap.size := Nat.lt_of_lt_of_le s6 hs8; clear hh8 ho8 hs8 hb8 B6 s6))
          go_roundw
          case rel => exact ⟨k + 1, by have := HAT.out; omega, congrArg (Value.int .i64) (by have := HAT.out; omega), HG.out, by rw [wordsF_succ]; exact HH.out, s8, B8⟩
          case measure => simp [intOf]; omega
    · have hk2 : k = P.length / 64 := by omega
      have HH2 := Lib.hid (show wr.heap[w4.heap.size]? = some (.cells (row .u32 8 (wordsF P (P.length / 64))) 38 (0, 0)) from hk2 ▸ HH.out)
      clear HH HG hk2 hat
      have hE : ∀ i, i < 8 → digestF (wordsF P (P.length / 64)) (4 * i) <<< 24 ||| digestF (wordsF P (P.length / 64)) (4 * i + 1) <<< 16 ||| digestF (wordsF P (P.length / 64)) (4 * i + 2) <<< 8 ||| digestF (wordsF P (P.length / 64)) (4 * i + 3) = wordsF P (P.length / 64) i := fun i _ => digest_word _ i
      have HE := Lib.hid hE
      clear hE
      obtain ⟨sd, hsd⟩ : ∃ s, digestF (wordsF P (P.length / 64)) = s := ⟨_, rfl⟩
      rw [hsd] at HSUM HE
      generalize wordsF P (P.length / 64) = HF at HH2 HE
      clear hsd
      have hd : decide ((at0 : Int) < (P.length : Int)) = false := decide_eq_false (by omega)
      obtain ⟨wo, rfl⟩ : ∃ wo, wo = wr := ⟨_, rfl⟩
      go_wp2_with (first | (go_at_call 10; refine (F.sum _ _ bs (tab_keep HT.out hb (Nat.le_refl _)) (has_below HV.out hb) HBS.out (by omega)).mono ?_; rintro e w6 ⟨rfl, hb6⟩; rw [HSUM.out]; have HH6 := Lib.hid ((hb6.block w4.heap.size hs).trans HH2.out); have B6 := below_next hb hb6; have s6 : w4.heap.size < w6.heap.size := Nat.lt_of_lt_of_le hs hb6.size; clear HH2 hb6) | (refine store_new rfl 25 (.tmp 9) (.tmp 55) rfl rfl w6 _ (row .u8 32 sd) 25 rfl rfl rfl (by kernel_rfl) rfl (row_one _ _ _) ?_; intro w7 hh7 hb7 s7; have HH7 := Lib.hid ((hb7.block w4.heap.size s6).trans HH6.out); have HD7 := Lib.hid hh7; have B7 := below_next B6 hb7; clear HH6 hb7 hh7))
      clear hd
      go_loopw [10] (fun c wi => ∃ i : Nat, i ≤ 8 ∧ c = .int .i64 i ∧ wi.heap[w4.heap.size]? = some (.cells (row .u32 8 HF) 38 (0, 0)) ∧ wi.heap[w6.heap.size]? = some (.cells (row .u8 32 sd) 25 (0, 0)) ∧ Below w.heap.size w wi) (fun c _ => 8 - (intOf c).toNat)
      case atStart => exact ⟨0, by omega, rfl, HH7.out, HD7.out, B7⟩
      case round =>
        clear HH7 HD7 B7
        obtain ⟨i, hi8, rfl, hh, hdg, hb⟩ := hrel
        by_cases hil : i < 8
        · obtain ⟨p0, hp0⟩ : ∃ p : Nat, p = 4 * i := ⟨_, rfl⟩
          obtain ⟨p1, hp1⟩ : ∃ p : Nat, p = 4 * i + 1 := ⟨_, rfl⟩
          obtain ⟨p2, hp2⟩ : ∃ p : Nat, p = 4 * i + 2 := ⟨_, rfl⟩
          obtain ⟨p3, hp3⟩ : ∃ p : Nat, p = 4 * i + 3 := ⟨_, rfl⟩
          have e0 := wrap_at (4 * (i : Int)) p0 (by omega) (by omega)
          have e1 := wrap_at ((p0 : Int) + 1) p1 (by omega) (by omega)
          have e2 := wrap_at ((p0 : Int) + 2) p2 (by omega) (by omega)
          have e3 := wrap_at ((p0 : Int) + 3) p3 (by omega) (by omega)
          have q0 : (p0 : Int) < 32 := by omega
          have q1 : (p1 : Int) < 32 := by omega
          have q2 : (p2 : Int) < 32 := by omega
          have q3 : (p3 : Int) < 32 := by omega
          have q4 : (i : Int) < 8 := by omega
          have b0 := (cell_of_row wr _ p0 _ _ _ hdg).trans (row_get .u8 32 sd p0 (by omega))
          have b1 := (cell_of_row wr _ p1 _ _ _ hdg).trans (row_get .u8 32 sd p1 (by omega))
          have b2 := (cell_of_row wr _ p2 _ _ _ hdg).trans (row_get .u8 32 sd p2 (by omega))
          have b3 := (cell_of_row wr _ p3 _ _ _ hdg).trans (row_get .u8 32 sd p3 (by omega))
          have c0 := (cell_of_row wr _ i _ _ _ hh).trans (row_get .u32 8 HF i hil)
          have HW := Lib.hid (show sd p0 <<< 24 ||| sd p1 <<< 16 ||| sd p2 <<< 8 ||| sd p3 = HF i by rw [hp0, hp1, hp2, hp3]; exact HE.out i hil)
          have HH := Lib.hid hh
          have HD := Lib.hid hdg
          clear hh hdg hp0 hp1 hp2 hp3
          go_wp2
          go_quiet (fail)
          have hh : (wr.drewN nq).heap[w4.heap.size]? = _ := HH.out
          have hdg : (wr.drewN nq).heap[w6.heap.size]? = _ := HD.out
          have hb := below_draws hb nq
          clear HH HD b0 b1 b2 b3 c0 e0 e1 e2 e3 q0 q1 q2 q3
          generalize wr.drewN nq = w9 at *
          have HH := Lib.hid hh
          have HD := Lib.hid hdg
          clear hh hdg
          rw [HW.out]
          go_wp2
          go_roundw
          case rel => exact ⟨i + 1, by omega, by go_num, HH.out, HD.out, hb⟩
          case measure => simp [intOf]; omega
        · obtain rfl : i = 8 := by omega
          go_wp2
          go_ret
          exact ⟨rfl, hb⟩
end Go.Proofs.YtnfklikphkkpoaaDoor
