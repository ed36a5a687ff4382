/-
What the document's own Sum returns: the digest of the bytes, for every slice of bytes.
-/
import Derived.Test.YtnfklikphkkpoaaDoorRef03Pad
import Derived.Test.YtnfklikphkkpoaaDoorRef02Compress
import Derived.Test.YtnfklikphkkpoaaDoorBytes
import Derived.StillTailTactics
namespace Go.Proofs.YtnfklikphkkpoaaDoor
open Go.RowKit
theorem row_firstF : row .u32 8 firstF = #[.int .u32 1779033703, .int .u32 3144134277, .int .u32 1013904242, .int .u32 2773480762, .int .u32 1359893119, .int .u32 2600822924, .int .u32 528734635, .int .u32 1541459225] := rfl
set_option maxHeartbeats 4000000 in
theorem refSum_any (bs : List (BitVec 32)) (hbs : ∀ x ∈ bs, u32 x < 256) (hlen : bs.length ≤ 1099511627776) (v : Value) (w : World) (hv : HasBytes w v bs) :
    Calls Tryd.prog 11 #[v] w fun e w' => e = .returned (.agg (row .u8 32 (sumF bs))) ∧ Below w.heap.size w w' := by
  obtain ⟨i0, hi, hz0, hz1, hz2⟩ := info_parts infoByte
  have HV := Lib.hid hv
  obtain ⟨ao, cap, rfl, -⟩ := hv
  have hpl : (padB bs.length).length ≤ 72 := by rw [padB_length]; have := padZeros_lt bs.length; omega
  have hP64 := paddedB_length bs
  have hPb : ∀ x ∈ paddedB bs, u32 x < 256 := fun x hx => by
    rcases List.mem_append.1 hx with h | h
    · exact hbs x h
    · exact padB_bytes _ x h
  obtain ⟨P, hP⟩ : ∃ P, P = bs ++ padB bs.length := ⟨_, rfl⟩
  have hPl : P.length ≤ 1099511627848 := by rw [hP, List.length_append]; omega
  have hsum : sumF bs = digestF (wordsF P (P.length / 64)) := by rw [hP]; rfl
  rw [show paddedB bs = P from hP.symm] at hP64 hPb
  have HP := Lib.hid hP
  have HSUM := Lib.hid hsum
  have HPB := Lib.hid hPb
  have B0 : Below w.heap.size w ((w.alloc (.cells (row .u8 32 fun _ => 0#32) 25 (0, 0))).alloc (.cells #[] 5 (0, 0))) := ((Below.refl _ _).alloc (Nat.le_refl _) _).alloc (by simp) _
  have HB0 := Lib.hid B0
  clear hP hsum hPb hbs B0
  go_enter Tryd.func11, Tryd.ntmps11
  go_wp2_with (first | (at_builtin; refine append_has rfl (.tmp 12) (.tmp 13) 22 rfl (w.heap.size + 1) 5 i0 Tryd.underlying22 hi hz0 hz1 hz2 _ [] bs rfl ⟨rfl, .inr ⟨w.heap.size + 1, 0, #[], rfl, Nat.le_refl _, alloc2_1 _ _ _, Nat.le_refl _, by decide, rfl, rfl⟩⟩ _ rfl (has_below HV.out HB0.out) (by simp; omega) (by simp) ?_; intro v1 w1 ho1 hg1 hn1; have hb1 := below_grown HB0.out hg1 (by simp; omega) (fun k hk => by cases hk; exact Nat.le_succ _); have hz1' := (hg1.block w.heap.size (by simp; omega) (by show some w.heap.size ≠ some (w.heap.size + 1); simp)).trans (alloc2_0 w (.cells (row .u8 32 fun _ => 0#32) 25 (0, 0)) (.cells #[] 5 (0, 0))); have hv1 : v1 ≠ .slice none 0 0 := hn1 (fun h => by cases h); have HO1 := Lib.hid ho1; have HZ1 := Lib.hid hz1'; have s1 : w.heap.size + 2 ≤ w1.heap.size := (by have := hg1.size; simpa using this); clear hn1 hg1 ho1 hz1') | (go_at_call 13; refine (refPad_any bs.length hlen _).mono ?_; rintro e w2 ⟨v2, rfl, ho2, hb2⟩; have HO2 := Lib.hid (And.intro (own_below HO1.out hb2) (has_of_own ho2)); have HZ2 := Lib.hid ((hb2.block w.heap.size (by omega)).trans HZ1.out); have B2 := hb1.trans (hb2.mono (by omega)); have s2 : w.heap.size + 2 ≤ w2.heap.size := Nat.le_trans s1 hb2.size; clear ho2 hb2 HO1 HZ1 hb1 s1) | (at_builtin; refine append_has rfl (.tmp 15) (.tmp 18) 22 rfl (w.heap.size + 1) 5 i0 Tryd.underlying22 hi hz0 hz1 hz2 v1 bs (padB bs.length) rfl HO2.out.1 v2 rfl HO2.out.2 (by omega) (by omega) ?_; intro v3 w3 ho3 hg3 hn3; rw [← HP.out] at ho3; obtain ⟨g, cap3, cur, rfl, hgb, hgh, hgn, -, -, htk⟩ := own_block ho3 (hn3 hv1); have hrow : ∀ k, v1.ownBlock = some k → w.heap.size + 1 ≤ k := fun k hk => (HO2.out.1.lt k hk).1; have B3 := below_grown B2 hg3 (by omega) (fun k hk => Nat.le_of_succ_le (hrow k hk)); have HZ3 := Lib.hid ((hg3.block w.heap.size (by omega) (fun h => absurd (hrow _ h.symm) (by omega))).trans HZ2.out); have s3 : w.heap.size + 2 ≤ w3.heap.size := Nat.le_trans s2 hg3.size; have hgl : g < w3.heap.size := (Array.getElem?_eq_some_iff.1 hgh).1; have HG3 := Lib.hid hgh; have HTK := Lib.hid htk; clear ho3 hg3 hn3 hrow B2 HZ2 HO2 s2 hv1 hgh htk) | (refine store_new rfl 38 (.tmp 4) (.tmp 20) rfl rfl w3 _ (row .u32 8 firstF) 38 rfl rfl rfl (by kernel_rfl) rfl (row_one _ _ _) ?_; intro w4 hh4 hb4 s4; have HG4 := Lib.hid ((hb4.block g hgl).trans HG3.out); have HZ4 := Lib.hid ((hb4.block w.heap.size (by omega)).trans HZ3.out); have HH4 := Lib.hid hh4; have B4 := B3.trans (hb4.mono (by omega)); clear HG3 HZ3 B3 hb4 hh4))
  have t4 : w.heap.size < w3.heap.size := by omega
  go_loopw [5] (fun c wr => ∃ k : Nat, 64 * k ≤ P.length ∧ c = .int .i64 ((64 * k : Nat) : Int) ∧ wr.heap[w.heap.size]? = some (.cells (row .u8 32 fun _ => 0#32) 25 (0, 0)) ∧ wr.heap[g]? = some (.cells cur 5 (0, 0)) ∧ wr.heap[w3.heap.size]? = some (.cells (row .u32 8 (wordsF P k)) 38 (0, 0)) ∧ w3.heap.size < wr.heap.size ∧ Below w.heap.size w wr) (fun c _ => P.length - (intOf c).toNat)
  case atStart => exact ⟨0, by omega, rfl, HZ4.out, HG4.out, by rw [wordsF_zero]; exact HH4.out, s4, B4⟩
  case round =>
    clear HZ4 HG4 HH4 s4 B4
    obtain ⟨k, hk, rfl, hz, hg, hh, hs, hb⟩ := hrel
    have HZ := Lib.hid hz
    have HG := Lib.hid hg
    have HH := Lib.hid hh
    clear hz hg hh
    obtain ⟨at0, hat⟩ : ∃ a, a = 64 * k := ⟨_, rfl⟩
    rw [← hat] at hk ⊢
    by_cases hlt : at0 < P.length
    · obtain ⟨wo, rfl⟩ : ∃ wo, wo = wr := ⟨_, rfl⟩
      have hat64 : at0 + 64 ≤ P.length := by omega
      have HAT := Lib.hid hat
      clear hat
      go_wp2
      go_loopw [7] (fun c wi => ∃ i : Nat, i ≤ 64 ∧ c = .int .i64 i ∧ wi.heap[w.heap.size]? = some (.cells (row .u8 32 fun _ => 0#32) 25 (0, 0)) ∧ wi.heap[g]? = some (.cells cur 5 (0, 0)) ∧ wi.heap[w3.heap.size]? = some (.cells (row .u32 8 (wordsF P k)) 38 (0, 0)) ∧ wi.heap[wo.heap.size]? = some (.cells (row .u8 64 (upTo (blockF P k) i)) 40 (0, 0)) ∧ wo.heap.size < wi.heap.size ∧ Below w.heap.size w wi) (fun c _ => 64 - (intOf c).toNat)
      case atStart =>
        refine ⟨0, by omega, rfl, ?_, ?_, ?_, ?_, by simp, hb.alloc hb.size _⟩
        · rw [heap_at_alloc, if_neg (by omega)]; exact HZ.out
        · rw [heap_at_alloc, if_neg (by omega)]; exact HG.out
        · rw [heap_at_alloc, if_neg (by omega)]; exact HH.out
        · rw [upTo_zero]; exact heap_last _ _
      case round =>
        clear HZ HG HH hb
        obtain ⟨i, hi64, rfl, hz, hg, hh, hx, hsi, hb⟩ := hrel
        by_cases hil : i < 64
        · obtain ⟨p, hp⟩ : ∃ p : Nat, p = at0 + i := ⟨_, rfl⟩
          have e0 := wrap_at ((at0 : Int) + (i : Int)) p (by omega) (by omega)
          have q0 : (p : Int) < (P.length : Int) := by omega
          have q1 : (i : Int) < 64 := by omega
          have c0 := own_cell hg HTK.out rfl p (by omega)
          have c1 := (cell_of_row wr _ i _ _ _ hx).trans (row_get .u8 64 _ i hil)
          have f1 := frozen_of_row wr _ i _ _ hx
          have HE := Lib.hid (show P[p]?.getD 0#32 = blockF P k i by unfold blockF; rw [hp, HAT.out, List.getD_eq_getElem?_getD])
          have HZ := Lib.hid hz
          have HG := Lib.hid hg
          have HH := Lib.hid hh
          have HX := Lib.hid hx
          clear hz hg hh hx hp
          go_wp2
          go_roundw
          case rel =>
            rw [HE.out]
            refine ⟨i + 1, by omega, by go_num, ?_, ?_, ?_, ?_, by simpa using hsi, hb.setCell (show w.heap.size ≤ wo.heap.size by omega) _⟩
            · rw [heap_setCell_other _ _ _ _ (by simp; omega)]; exact HZ.out
            · rw [heap_setCell_other _ _ _ _ (by simp; omega)]; exact HG.out
            · rw [heap_setCell_other _ _ _ _ (by simp; omega)]; exact HH.out
            · rw [← upTo_set]; exact heap_setCell_same _ _ _ _ _ _ HX.out
          case measure => simp [intOf]; omega
        · obtain rfl : i = 64 := by omega
          rw [upTo_full] at hx
          have HZ := Lib.hid hz
          have HG := Lib.hid hg
          have HH := Lib.hid hh
          have HX := Lib.hid hx
          clear hz hg hh hx
          go_wp2_with (first | (refine wpList_load_row rfl 38 (.tmp 4) rfl (w3.heap.size) rfl 38 _ (0, 0) _ HH.out Tryd.underlying38 rfl (by kernel_rfl) ?_) | (refine wpList_load_row rfl 40 (.tmp 6) rfl (wo.heap.size) rfl 40 _ (0, 0) _ HX.out Tryd.underlying40 rfl (by kernel_rfl) ?_) | (go_at_call 21; refine (ref2Compress_any (wordsF P k) (blockF P k) (blockF_lt P HPB.out k) _).mono ?_; rintro e w6 ⟨rfl, hb6⟩; replace HZ := Lib.hid ((hb6.block w.heap.size (by omega)).trans HZ.out); replace HG := Lib.hid ((hb6.block g (by omega)).trans HG.out); replace HH := Lib.hid ((hb6.block w3.heap.size (by omega)).trans HH.out); have B6 := below_next hb hb6; have s6 : w3.heap.size < w6.heap.size := Nat.lt_of_lt_of_le (by omega) hb6.size; clear HX hb hb6 hsi) | (refine store_old rfl 38 (.tmp 4) (.tmp 41) rfl rfl w3.heap.size _ _ 38 HH.out rfl rfl (by kernel_rfl) ((row_size _ _ _).trans (row_size _ _ _).symm) (row_one _ _ _) ?_; intro w8 hh8 ho8 hs8 hb8; replace HZ := Lib.hid ((ho8 w.heap.size (by omega)).trans HZ.out); replace HG := Lib.hid ((ho8 g (by omega)).trans HG.out); replace HH := Lib.hid hh8; have B8 := hb8 _ _ B6 (by omega); have s8 : w3.heap.size < w8.heap.size := Nat.lt_of_lt_of_le s6 hs8; clear hh8 ho8 hs8 hb8 B6 s6))
          go_roundw
          case rel => exact ⟨k + 1, by have := HAT.out; omega, congrArg (Value.int .i64) (by have := HAT.out; omega), HZ.out, HG.out, by rw [wordsF_succ]; exact HH.out, s8, B8⟩
          case measure => simp [intOf]; omega
    · have hk2 : k = P.length / 64 := by omega
      have HH2 := Lib.hid (show wr.heap[w3.heap.size]? = some (.cells (row .u32 8 (wordsF P (P.length / 64))) 38 (0, 0)) from hk2 ▸ HH.out)
      clear HH HG hk2 hat
      generalize wordsF P (P.length / 64) = HF at HH2 HSUM
      have hd : decide ((at0 : Int) < (P.length : Int)) = false := decide_eq_false (by omega)
      obtain ⟨wo, rfl⟩ : ∃ wo, wo = wr := ⟨_, rfl⟩
      go_wp2
      clear hd
      go_loopw [9] (fun c wi => ∃ i : Nat, i ≤ 32 ∧ c = .int .i64 i ∧ wi.heap[w.heap.size]? = some (.cells (row .u8 32 fun _ => 0#32) 25 (0, 0)) ∧ wi.heap[w3.heap.size]? = some (.cells (row .u32 8 HF) 38 (0, 0)) ∧ wi.heap[wo.heap.size]? = some (.cells (row .u8 32 (upTo (digestF HF) i)) 25 (0, 0)) ∧ wo.heap.size < wi.heap.size ∧ Below w.heap.size w wi) (fun c _ => 32 - (intOf c).toNat)
      case atStart =>
        refine ⟨0, by omega, rfl, ?_, ?_, ?_, by simp, hb.alloc hb.size _⟩
        · rw [heap_at_alloc, if_neg (by omega)]; exact HZ.out
        · rw [heap_at_alloc, if_neg (by omega)]; exact HH2.out
        · rw [upTo_zero]; exact heap_last _ _
      case round =>
        clear HZ HH2 hb
        obtain ⟨i, hi32, rfl, hz, hh, hx, hsi, hb⟩ := hrel
        by_cases hil : i < 32
        · obtain ⟨j, hj⟩ : ∃ j : Nat, j = i / 4 := ⟨_, rfl⟩
          obtain ⟨r, hr⟩ : ∃ r : Nat, r = i % 4 := ⟨_, rfl⟩
          have e4 : (i : Int) / 4 = (j : Int) := by omega
          have er : (i : Int) % 4 = (r : Int) := by omega
          have hj8 : (j : Int) < 8 := by omega
          have hr4 : r < 4 := by omega
          have c0 := (cell_of_row wr _ j _ _ _ hh).trans (row_get .u32 8 HF j (by omega))
          have HE := Lib.hid (show (HF j >>> (8 * (3 - r))) &&& 255#32 = digestF HF i by unfold digestF; rw [hj, hr])
          have c1 := (cell_of_row wr _ i _ _ _ hx).trans (row_get .u8 32 _ i hil)
          have f1 := frozen_of_row wr _ i _ _ hx
          have HZ := Lib.hid hz
          have HH := Lib.hid hh
          have HX := Lib.hid hx
          clear hz hh hx hj hr
          go_wp2
          go_loop [10, 11] (fun x c => ∃ m : Nat, r ≤ m ∧ m ≤ 3 ∧ c = .int .i64 m ∧ x = .int .u32 (Go.Proofs.YtnfklikphkkpoaaDoor.u32 (HF j >>> (8 * (m - r))))) (fun _ c => 4 - (intOf c).toNat)
          case atStart => exact ⟨r, by omega, by omega, congrArg (Value.int .i64) er, by simp⟩
          case round =>
            obtain ⟨m, hm1, hm2, rfl, rfl⟩ := hrel
            by_cases hm3 : m < 3
            · go_wp2
              go_round
              case rel => exact ⟨m + 1, by omega, by omega, by go_num, by rw [u32_tdiv256, digest_step, show 8 * (m - r) + 8 = 8 * (m + 1 - r) from by omega]⟩
              case measure => simp [intOf]; omega
            · obtain rfl : m = 3 := by omega
              go_wp2
              rw [HE.out]
              go_roundw
              case rel =>
                refine ⟨i + 1, by omega, by go_num, ?_, ?_, ?_, by simpa using hsi, hb.setCell (show w.heap.size ≤ wo.heap.size by omega) _⟩
                · rw [heap_setCell_other _ _ _ _ (by simp; omega)]; exact HZ.out
                · rw [heap_setCell_other _ _ _ _ (by simp; omega)]; exact HH.out
                · rw [← upTo_set]; exact heap_setCell_same _ _ _ _ _ _ HX.out
              case measure => simp [intOf]; omega
        · obtain rfl : i = 32 := by omega
          rw [upTo_full, ← HSUM.out] at hx
          go_wp2_with (first | (refine wpList_load_row rfl 25 (.tmp 8) rfl wo.heap.size rfl 25 _ (0, 0) _ hx Tryd.underlying25 rfl (by kernel_rfl) ?_) | (refine wpList_store_row rfl 25 (.tmp 2) (.tmp 63) rfl w.heap.size _ rfl rfl 25 _ hz (by kernel_rfl) ((row_size _ _ _).trans (row_size _ _ _).symm) (row_one _ _ _) ?_))
          exact bodyPost_ret (results_cell_row Tryd.results11 _ _ w.heap.size 25 _ (0, 0) _ rfl (setRow_heap _ _ _ _ _ _ hz) Tryd.underlying25 rfl (by kernel_rfl)) rfl ⟨rfl, below_setRow hb (by omega) _⟩
end Go.Proofs.YtnfklikphkkpoaaDoor
