/-
The walks of the statements of layer 4 on digests' texts, out of the contracts of package hexa.
-/
import Derived.Test.YtikhmhgjaipnaaaDoorHexaFace
import Derived.Test.YtikhmhgjaipnaaaDoorRef04Parse
import Derived.Test.YtikhmhgjaipnaaaDoorHexaMore
namespace Go.Proofs.YtikhmhgjaipnaaaDoor
open Go.RowKit
theorem info32' : (Tryd.prog.info? 23).map (·.size) = some 32 := by kernel_rfl
theorem info32 {f : Nat → BitVec 32} : (Tryd.prog.info? 23).map (·.size) = some (rowL .u8 32 f).length := by rw [rowL_length]; exact info32'
theorem range_keep {g : Nat} {w1 wa wb : World} {cs : List Value} (hg : g < w1.heap.size) (b : Below w1.heap.size w1 wa) (h : wa.rangeAt g 0 cs) (hb : Below wa.heap.size wa wb) : wb.rangeAt g 0 cs := (rangeS_keep hg ⟨h, b⟩ hb).1
set_option maxHeartbeats 4000000 in
theorem hexaTexts_walk (F : HexaFace) (f : Nat → BitVec 32) (hf : ∀ i, u32 (f i) < 256) (s : List UInt8) (hs : s.length < 9223372036854775808) (w : World) (hT0 : PowTab w) :
    Calls Tryd.prog 3 #[.agg (row .u8 32 f), .string (str s)] w fun e w' => e = .returned (.bool true) ∧ Below w.heap.size w w' := by
  have HT := Lib.hid hT0
  clear hT0
  have P1 := Lib.hid (fun w => F.parse w s hs)
  have P2 := Lib.hid (refParse_any s)
  have T1 := Lib.hid (fun w => F.text w f hf)
  have T2 := Lib.hid (refText_any f hf)
  clear hf hs
  generalize parsed s = p at *
  generalize parseErr s = pe at *
  generalize textF f = tx at *
  have H0 := Lib.hid (heap_last w (.cells (row .u8 32 f) 23 (0, 0)))
  have B0 := Lib.hid ((Below.refl w.heap.size w).alloc (Nat.le_refl _) (.cells (row .u8 32 f) 23 (0, 0)))
  go_enter Tryd.func3, Tryd.ntmps3
  go_wp2_with (first
    | (go_at_call 9; refine (awake4_any F _ (by first | exact HT.out | exact powTab_alloc HT.out _ | exact powTab_alloc (powTab_alloc HT.out _) _)).mono ?_; rintro e w1 ⟨rfl, hb⟩; have H1 := Lib.hid ((hb.block w.heap.size (by simp)).trans H0.out); have B1 := Lib.hid (below_next B0.out hb); have hs1 : w.heap.size < w1.heap.size := Nat.lt_of_lt_of_le (by simp) hb.size; clear H0 B0 hb)
    | (go_at_call 10; refine (P1.out _).mono ?_; rintro e w2 ⟨rfl, hb⟩; rw [show rowV .u8 32 p = .agg (row .u8 32 p) from rfl]; have H2 := Lib.hid ((hb.block w.heap.size hs1).trans H1.out); have B2 := Lib.hid (below_next B1.out hb); have hs2 : w.heap.size < w2.heap.size := Nat.lt_of_lt_of_le hs1 hb.size; clear H1 B1 hb)
    | (refine store_new rfl 23 (.tmp 6) (.tmp 14) rfl rfl w2 (row .u8 32 fun _ => 0#32) (row .u8 32 p) 23 rfl rfl rfl (by kernel_rfl) rfl (row_one _ _ _) ?_; intro w3 hh hb hs3; have H3 := Lib.hid ((hb.block w.heap.size hs2).trans H2.out); have X3 := Lib.hid hh; have B3 := Lib.hid (below_next B2.out hb); clear H2 B2 hb hh)
    | (go_at_call 11; refine (P2.out _).mono ?_; rintro e w4 ⟨rfl, hb⟩; rw [show rowV .u8 32 p = .agg (row .u8 32 p) from rfl]; have H4 := Lib.hid ((hb.block w.heap.size (by omega)).trans H3.out); have X4 := Lib.hid ((hb.block w2.heap.size hs3).trans X3.out); have B4 := Lib.hid (below_next B3.out hb); have hs4 : w2.heap.size < w4.heap.size := Nat.lt_of_lt_of_le hs3 hb.size; clear H3 X3 B3 hb)
    | (refine store_new rfl 23 (.tmp 8) (.tmp 19) rfl rfl w4 (row .u8 32 fun _ => 0#32) (row .u8 32 p) 23 rfl rfl rfl (by kernel_rfl) rfl (row_one _ _ _) ?_; intro w5 hh hb hs5; have H5 := Lib.hid ((hb.block w.heap.size (by omega)).trans H4.out); have X5 := Lib.hid ((hb.block w2.heap.size hs4).trans X4.out); have Y5 := Lib.hid hh; have B5 := Lib.hid (below_next B4.out hb); clear H4 X4 B4 hb hh))
  have l0 : w.heap.size < w5.heap.size := by omega
  have l2 : w2.heap.size < w5.heap.size := by omega
  have l4 : w4.heap.size < w5.heap.size := hs5
  refine wp_region_held_drew (S := fun w' => w'.rangeAt w.heap.size 0 (rowL .u8 32 f) ∧ w'.rangeAt w2.heap.size 0 (rowL .u8 32 p) ∧ w'.rangeAt w4.heap.size 0 (rowL .u8 32 p) ∧ Below w5.heap.size w5 w') (by kernel_rfl) ⟨range_of_row H5.out, range_of_row X5.out, range_of_row Y5.out, below_draws (Below.refl _ _) 1⟩ (fun hHeld => ?_)
  refine take_at (i := 0) (v := .bool true) 21 rfl rfl (by kernel_rfl) (by kernel_rfl) (by kernel_rfl) (fun _ _ _ h => h) (sure_yes (by rfl) (fun w => by go_simp; try with_reducible rfl)) (by assumption) ?_
  simp only [List.setIfInBounds_toArray, List.set_cons_zero, List.set_cons_succ]
  refine take_at (i := 1) (v := .bool true) 22 rfl rfl (by kernel_rfl) (by kernel_rfl) (by kernel_rfl) (fun _ _ _ h => h) (sure_yes (by rfl) (fun w => by go_simp; try with_reducible rfl)) (by assumption) ?_
  simp only [List.setIfInBounds_toArray, List.set_cons_zero, List.set_cons_succ]
  refine take_at (i := 2) 23 rfl rfl (by kernel_rfl) (by kernel_rfl) (by kernel_rfl) (fun _ _ _ h => h) (yieldsIf_load_mid (by rfl) 23 (.tmp 2) rfl w.heap.size 0 rfl (rowL .u8 32 f) _ (fun _ h => h.1) Tryd.underlying23 rfl info32) (by assumption) ?_
  simp only [List.setIfInBounds_toArray, List.set_cons_zero, List.set_cons_succ]
  refine take_at (i := 4) 25 rfl rfl (by kernel_rfl) (by kernel_rfl) (by kernel_rfl) (fun _ _ _ h => h) (yieldsIf_load_mid (by rfl) 23 (.tmp 2) rfl w.heap.size 0 rfl (rowL .u8 32 f) _ (fun _ h => h.1) Tryd.underlying23 rfl info32) (by assumption) ?_
  simp only [List.setIfInBounds_toArray, List.set_cons_zero, List.set_cons_succ]
  refine wpAnyH_ready (rs := [3]) (by kernel_rfl) (by simp) ?_
  refine AllReadyH.cons rfl (fun K hK => ?_) AllReadyH.nil
  go_simp
  go_at_call 12
  refine (T1.out _).mono ?_
  rintro e w' ⟨rfl, hb'⟩
  go_wp2_with fail
  refine hK.out _ _ ((have h := hHeld; ⟨range_keep l0 h.2.2.2 h.1 hb', range_keep l2 h.2.2.2 h.2.1 hb', range_keep l4 h.2.2.2 h.2.2.1 hb', below_next h.2.2.2 hb'⟩)) (fun hHeld => ?_)
  clear hK K hb'
  refine wpAnyH_ready (rs := [5]) (by kernel_rfl) (by simp) ?_
  refine AllReadyH.cons rfl (fun K hK => ?_) AllReadyH.nil
  go_simp
  go_at_call 13
  refine (T2.out _).mono ?_
  rintro e w' ⟨rfl, hb'⟩
  go_wp2_with fail
  refine hK.out _ _ ((have h := hHeld; ⟨range_keep l0 h.2.2.2 h.1 hb', range_keep l2 h.2.2.2 h.2.1 hb', range_keep l4 h.2.2.2 h.2.2.1 hb', below_next h.2.2.2 hb'⟩)) (fun hHeld => ?_)
  clear hK K hb'
  refine take_at (i := 6) (v := .bool true) 27 rfl rfl (by kernel_rfl) (by kernel_rfl) (by kernel_rfl) (fun _ _ _ h => h) (sure_yes (by rfl) (fun w => by go_simp; try with_reducible rfl)) (by assumption) ?_
  simp only [List.setIfInBounds_toArray, List.set_cons_zero, List.set_cons_succ]
  refine take_at (i := 7) (v := .bool true) 28 rfl rfl (by kernel_rfl) (by kernel_rfl) (by kernel_rfl) (fun _ _ _ h => h) (sure_yes (by rfl) (fun w => by go_simp; try with_reducible rfl)) (by assumption) ?_
  simp only [List.setIfInBounds_toArray, List.set_cons_zero, List.set_cons_succ]
  refine take_at (i := 8) (v := .bool true) 29 rfl rfl (by kernel_rfl) (by kernel_rfl) (by kernel_rfl) (fun _ _ _ h => h) (sure_yes (by rfl) (fun w => by go_simp; try with_reducible rfl)) (by assumption) ?_
  simp only [List.setIfInBounds_toArray, List.set_cons_zero, List.set_cons_succ]
  refine take_at (i := 9) 30 rfl rfl (by kernel_rfl) (by kernel_rfl) (by kernel_rfl) (fun _ _ _ h => h) (yieldsIf_load_mid (by rfl) 23 (.tmp 6) rfl w2.heap.size 0 rfl (rowL .u8 32 p) _ (fun _ h => h.2.1) Tryd.underlying23 rfl info32) (by assumption) ?_
  simp only [List.setIfInBounds_toArray, List.set_cons_zero, List.set_cons_succ]
  refine take_at (i := 10) 31 rfl rfl (by kernel_rfl) (by kernel_rfl) (by kernel_rfl) (fun _ _ _ h => h) (yieldsIf_load_mid (by rfl) 23 (.tmp 8) rfl w4.heap.size 0 rfl (rowL .u8 32 p) _ (fun _ h => h.2.2.1) Tryd.underlying23 rfl info32) (by assumption) ?_
  simp only [List.setIfInBounds_toArray, List.set_cons_zero, List.set_cons_succ]
  refine take_at (i := 11) (v := .bool true) 32 rfl rfl (by kernel_rfl) (by kernel_rfl) (by kernel_rfl) (fun _ _ _ h => h) (sure_yes (by rfl) (eql_op rfl rfl rfl (guardRows digestGuard (.tmp 30) (.tmp 31) .u8 32 p p) (eqlRows Tryd.underlying23 Tryd.underlying5 cellsByte p p (sameRow_self _ _)))) (by assumption) ?_
  simp only [List.setIfInBounds_toArray, List.set_cons_zero, List.set_cons_succ]
  refine take_at (i := 12) (v := .bool true) 33 rfl rfl (by kernel_rfl) (by kernel_rfl) (by kernel_rfl) (fun _ _ _ h => h) (sure_yes (by rfl) (fun w => by go_simp; try with_reducible rfl)) (by assumption) ?_
  simp only [List.setIfInBounds_toArray, List.set_cons_zero, List.set_cons_succ]
  refine take_at (i := 13) (v := .bool true) 34 rfl rfl (by kernel_rfl) (by kernel_rfl) (by kernel_rfl) (fun _ _ _ h => h) (sure_yes (by rfl) (fun w => by go_simp; try with_reducible rfl)) (by assumption) ?_
  simp only [List.setIfInBounds_toArray, List.set_cons_zero, List.set_cons_succ]
  refine take_at (i := 14) 35 rfl rfl (by kernel_rfl) (by kernel_rfl) (by kernel_rfl) (fun _ _ _ h => h) (sure_yes (by rfl) (fun w => by go_simp; try with_reducible rfl)) (by assumption) ?_
  simp only [List.setIfInBounds_toArray, List.set_cons_zero, List.set_cons_succ]
  refine take_at (i := 15) 36 rfl rfl (by kernel_rfl) (by kernel_rfl) (by kernel_rfl) (fun _ _ _ h => h) (sure_yes (by rfl) (fun w => by go_simp; try with_reducible rfl)) (by assumption) ?_
  simp only [List.setIfInBounds_toArray, List.set_cons_zero, List.set_cons_succ]
  refine take_at (i := 16) (v := .bool true) 37 rfl rfl (by kernel_rfl) (by kernel_rfl) (by kernel_rfl) (fun _ _ _ h => h) (sure_yes (by rfl) (fun w => by go_simp; try with_reducible rfl)) (by assumption) ?_
  simp only [List.setIfInBounds_toArray, List.set_cons_zero, List.set_cons_succ]
  refine take_at (i := 17) (v := .bool true) 38 rfl rfl (by kernel_rfl) (by kernel_rfl) (by kernel_rfl) (fun _ _ _ h => h) (sure_yes (by rfl) (fun w => by go_simp; try with_reducible rfl)) (by assumption) ?_
  simp only [List.setIfInBounds_toArray, List.set_cons_zero, List.set_cons_succ]
  refine take_at (i := 18) (v := .bool true) 4 rfl rfl (by kernel_rfl) (by kernel_rfl) (by kernel_rfl) (fun _ _ _ h => h) (sure_yes (by rfl) (fun w => by go_simp; try with_reducible rfl)) (by assumption) ?_
  simp only [List.setIfInBounds_toArray, List.set_cons_zero, List.set_cons_succ]
  refine wpAnyH_done (by kernel_rfl) ?_ _
  have hF := below_next B5.out hHeld.2.2.2
  clear hHeld H5 X5 Y5 B5
  go_wp2
  go_ret
  exact ⟨rfl, hF⟩
set_option maxHeartbeats 4000000 in
theorem hexaBack_walk (F : HexaFace) (f : Nat → BitVec 32) (hf : ∀ i, u32 (f i) < 256) (s : List UInt8) (hs : s.length < 9223372036854775808) (w : World) (hT0 : PowTab w) :
    Calls Tryd.prog 5 #[.agg (row .u8 32 f), .string (str s)] w fun e w' => e = .returned (.bool true) ∧ Below w.heap.size w w' := by
  have HT := Lib.hid hT0
  clear hT0
  have P1 := Lib.hid (fun w => F.parse w (textF f) (by rw [textF_length]; decide))
  rw [(parsed_text f hf).1, (parsed_text f hf).2] at P1
  have P2 := Lib.hid (fun w => F.parse w s hs)
  have T1 := Lib.hid (fun w => F.text w f hf)
  have hq1 := eql_rowV (P := Tryd.prog) Tryd.underlying23 Tryd.underlying5 cellsByte f f (sameRow_self 32 f)
  have hg1 := guard_rowV (P := Tryd.prog) digestGuard (.tmp 28) (.tmp 29) .u8 32 f f
  have H0 := Lib.hid (heap_last w (.cells (row .u8 32 f) 23 (0, 0)))
  have B0 := Lib.hid ((Below.refl w.heap.size w).alloc (Nat.le_refl _) (.cells (row .u8 32 f) 23 (0, 0)))
  cases ht : isText s with
  | true =>
    obtain ⟨h1, h2⟩ := parsed_good ht
    rw [h1, h2] at P2
    have T2 := Lib.hid (fun w => F.text w (parseF s) (parseF_lt s))
    rw [text_parse s ht] at T2
    clear h1 h2 hf hs ht
    generalize parseF s = p at *
    generalize textF f = tx at *
    go_enter Tryd.func5, Tryd.ntmps5
    go_wp2_with (first
      | (go_at_call 9; refine (awake4_any F _ (by first | exact HT.out | exact powTab_alloc HT.out _ | exact powTab_alloc (powTab_alloc HT.out _) _)).mono ?_; rintro e w1 ⟨rfl, hb⟩; have H1 := Lib.hid ((hb.block w.heap.size (by simp)).trans H0.out); have B1 := Lib.hid (below_next B0.out hb); have hs1 : w.heap.size < w1.heap.size := Nat.lt_of_lt_of_le (by simp) hb.size; clear H0 B0 hb)
      | (go_at_call 12; with_reducible refine (T1.out w1).mono ?_; rintro e w2 ⟨rfl, hb⟩; have H2 := Lib.hid ((hb.block w.heap.size hs1).trans H1.out); have B2 := Lib.hid (below_next B1.out hb); have hs2 : w.heap.size < w2.heap.size := Nat.lt_of_lt_of_le hs1 hb.size; clear H1 B1 hb)
      | (go_at_call 10; with_reducible refine (P1.out w2).mono ?_; rintro e w3 ⟨rfl, hb⟩; rw [show rowV .u8 32 f = .agg (row .u8 32 f) from rfl]; have H3 := Lib.hid ((hb.block w.heap.size hs2).trans H2.out); have B3 := Lib.hid (below_next B2.out hb); have hs3 : w.heap.size < w3.heap.size := Nat.lt_of_lt_of_le hs2 hb.size; clear H2 B2 hb)
      | (refine load_row_on (by rfl) 23 (.tmp 2) rfl w.heap.size rfl 23 _ (0, 0) _ H1.out Tryd.underlying23 rfl (by kernel_rfl) ?_)
      | (refine store_new rfl 23 (.tmp 6) (.tmp 15) rfl rfl w3 (row .u8 32 fun _ => 0#32) (row .u8 32 f) 23 rfl rfl rfl (by kernel_rfl) rfl (row_one _ _ _) ?_; intro w4 hh hb hs4; have H4 := Lib.hid ((hb.block w.heap.size hs3).trans H3.out); have X4 := Lib.hid hh; have B4 := Lib.hid (below_next B3.out hb); clear H3 B3 hb hh)
      | (go_at_call 10; with_reducible refine (P2.out w4).mono ?_; rintro e w5 ⟨rfl, hb⟩; rw [show rowV .u8 32 p = .agg (row .u8 32 p) from rfl]; have H5 := Lib.hid ((hb.block w.heap.size (by omega)).trans H4.out); have X5 := Lib.hid ((hb.block w3.heap.size hs4).trans X4.out); have B5 := Lib.hid (below_next B4.out hb); have hs5 : w3.heap.size < w5.heap.size := Nat.lt_of_lt_of_le hs4 hb.size; clear H4 X4 B4 hb)
      | (refine store_new rfl 23 (.tmp 8) (.tmp 20) rfl rfl w5 (row .u8 32 fun _ => 0#32) (row .u8 32 p) 23 rfl rfl rfl (by kernel_rfl) rfl (row_one _ _ _) ?_; intro w6 hh hb hs6; have H6 := Lib.hid ((hb.block w.heap.size (by omega)).trans H5.out); have X6 := Lib.hid ((hb.block w3.heap.size hs5).trans X5.out); have Y6 := Lib.hid hh; have B6 := Lib.hid (below_next B5.out hb); clear H5 X5 B5 hb hh)
      | (refine load_row_on (by rfl) 23 (.tmp 6) rfl w3.heap.size rfl 23 _ (0, 0) _ X6.out Tryd.underlying23 rfl (by kernel_rfl) ?_)
      | (refine load_row_on (by rfl) 23 (.tmp 2) rfl w.heap.size rfl 23 _ (0, 0) _ H6.out Tryd.underlying23 rfl (by kernel_rfl) ?_; rw [show Value.agg (row .u8 32 f) = rowV .u8 32 f from rfl])
      | (refine load_row_on (by rfl) 23 (.tmp 8) rfl w5.heap.size rfl 23 _ (0, 0) _ Y6.out Tryd.underlying23 rfl (by kernel_rfl) ?_)
      | (go_at_call 12; with_reducible refine (T2.out w6).mono ?_; rintro e w7 ⟨rfl, hb⟩; have B7 := Lib.hid (below_next B6.out hb); clear B6 hb))
    go_ret
    exact ⟨rfl, B7.out⟩
  | false =>
    obtain ⟨h1, h2⟩ := parsed_bad ht
    rw [h1, h2] at P2
    have hq2 := eql_rowV (P := Tryd.prog) Tryd.underlying23 Tryd.underlying5 cellsByte (fun _ => 0#32) (fun _ => 0#32) (sameRow_self 32 _)
    have hg2 := guard_rowV (P := Tryd.prog) digestGuard (.tmp 45) (.tmp 46) .u8 32 (fun _ => 0#32) (fun _ => 0#32)
    clear h1 h2 hf hs ht
    generalize textF f = tx at *
    go_enter Tryd.func5, Tryd.ntmps5
    go_wp2_with (first
      | (go_at_call 9; refine (awake4_any F _ (by first | exact HT.out | exact powTab_alloc HT.out _ | exact powTab_alloc (powTab_alloc HT.out _) _)).mono ?_; rintro e w1 ⟨rfl, hb⟩; have H1 := Lib.hid ((hb.block w.heap.size (by simp)).trans H0.out); have B1 := Lib.hid (below_next B0.out hb); have hs1 : w.heap.size < w1.heap.size := Nat.lt_of_lt_of_le (by simp) hb.size; clear H0 B0 hb)
      | (go_at_call 12; with_reducible refine (T1.out w1).mono ?_; rintro e w2 ⟨rfl, hb⟩; have H2 := Lib.hid ((hb.block w.heap.size hs1).trans H1.out); have B2 := Lib.hid (below_next B1.out hb); have hs2 : w.heap.size < w2.heap.size := Nat.lt_of_lt_of_le hs1 hb.size; clear H1 B1 hb)
      | (go_at_call 10; with_reducible refine (P1.out w2).mono ?_; rintro e w3 ⟨rfl, hb⟩; rw [show rowV .u8 32 f = .agg (row .u8 32 f) from rfl]; have H3 := Lib.hid ((hb.block w.heap.size hs2).trans H2.out); have B3 := Lib.hid (below_next B2.out hb); have hs3 : w.heap.size < w3.heap.size := Nat.lt_of_lt_of_le hs2 hb.size; clear H2 B2 hb)
      | (refine load_row_on (by rfl) 23 (.tmp 2) rfl w.heap.size rfl 23 _ (0, 0) _ H1.out Tryd.underlying23 rfl (by kernel_rfl) ?_)
      | (refine store_new rfl 23 (.tmp 6) (.tmp 15) rfl rfl w3 (row .u8 32 fun _ => 0#32) (row .u8 32 f) 23 rfl rfl rfl (by kernel_rfl) rfl (row_one _ _ _) ?_; intro w4 hh hb hs4; have H4 := Lib.hid ((hb.block w.heap.size hs3).trans H3.out); have X4 := Lib.hid hh; have B4 := Lib.hid (below_next B3.out hb); clear H3 B3 hb hh)
      | (go_at_call 10; with_reducible refine (P2.out w4).mono ?_; rintro e w5 ⟨rfl, hb⟩; rw [show rowV .u8 32 (fun _ => 0#32) = .agg (row .u8 32 fun _ => 0#32) from rfl]; have H5 := Lib.hid ((hb.block w.heap.size (by omega)).trans H4.out); have X5 := Lib.hid ((hb.block w3.heap.size hs4).trans X4.out); have B5 := Lib.hid (below_next B4.out hb); have hs5 : w3.heap.size < w5.heap.size := Nat.lt_of_lt_of_le hs4 hb.size; clear H4 X4 B4 hb)
      | (refine store_new rfl 23 (.tmp 8) (.tmp 20) rfl rfl w5 (row .u8 32 fun _ => 0#32) (row .u8 32 fun _ => 0#32) 23 rfl rfl rfl (by kernel_rfl) rfl (row_one _ _ _) ?_; intro w6 hh hb hs6; have H6 := Lib.hid ((hb.block w.heap.size (by omega)).trans H5.out); have X6 := Lib.hid ((hb.block w3.heap.size hs5).trans X5.out); have Y6 := Lib.hid hh; have B6 := Lib.hid (below_next B5.out hb); clear H5 X5 B5 hb hh)
      | (refine load_row_on (by rfl) 23 (.tmp 6) rfl w3.heap.size rfl 23 _ (0, 0) _ X6.out Tryd.underlying23 rfl (by kernel_rfl) ?_)
      | (refine load_row_on (by rfl) 23 (.tmp 2) rfl w.heap.size rfl 23 _ (0, 0) _ H6.out Tryd.underlying23 rfl (by kernel_rfl) ?_; rw [show Value.agg (row .u8 32 f) = rowV .u8 32 f from rfl])
      | (refine load_row_on (by rfl) 23 (.tmp 8) rfl w5.heap.size rfl 23 _ (0, 0) _ Y6.out Tryd.underlying23 rfl (by kernel_rfl) ?_)
      | (refine build_on (by rfl) 23 #[] rfl _ _ built_zero (by simp) ?_; rw [show Value.agg (row .u8 32 fun _ => 0#32) = rowV .u8 32 (fun _ => 0#32) from rfl]))
    go_ret
    exact ⟨rfl, B6.out⟩
set_option maxHeartbeats 4000000 in
theorem hexaOrder_walk (F : HexaFace) (f g : Nat → BitVec 32) (hf : ∀ i, u32 (f i) < 256) (hg : ∀ i, u32 (g i) < 256) (w : World) (hT0 : PowTab w) :
    Calls Tryd.prog 7 #[.agg (row .u8 32 f), .agg (row .u8 32 g)] w fun e w' => e = .returned (.bool true) ∧ Below w.heap.size w w' := by
  have HT := Lib.hid hT0
  clear hT0
  have T1 := Lib.hid (fun w => F.text w f hf)
  have T2 := Lib.hid (fun w => F.text w g hg)
  have HC1 := Lib.hid (fun (w' : World) (e : w'.heap[w.heap.size]? = some (.cells (row .u8 32 f) 23 (0, 0))) => conv_text (P := Tryd.prog) Tryd.underlying39 Tryd.underlying5 Tryd.underlying9 (hasText_row hf e))
  have HC2 := Lib.hid (fun (w' : World) (e : w'.heap[w.heap.size + 1]? = some (.cells (row .u8 32 g) 23 (0, 0))) => conv_text (P := Tryd.prog) Tryd.underlying39 Tryd.underlying5 Tryd.underlying9 (hasText_row hg e))
  obtain ⟨b1, hb1⟩ : ∃ b, Op.bytesLess (textF f) (textF g) = b := ⟨_, rfl⟩
  obtain ⟨b2, hb2⟩ : ∃ b, (textF f == textF g) = b := ⟨_, rfl⟩
  have hs := same_text f g hf hg
  have ho := order_text f g hf hg
  rw [hb2] at hs
  rw [hb1] at ho
  have hl1 : Op.bytesLess (str (textF f)).toList (str (textF g)).toList = b1 := by rw [str_toList, str_toList]; exact hb1
  have hl2 : Op.bytesLess (str (bytesF f)).toList (str (bytesF g)).toList = b1 := by rw [str_toList, str_toList]; exact ho.symm
  have hl3 : ((str (textF f)).toList == (str (textF g)).toList) = b2 := by rw [str_toList, str_toList]; exact hb2
  have HS := Lib.hid hs.symm
  have H0 := Lib.hid (And.intro (alloc2_0 w (.cells (row .u8 32 f) 23 (0, 0)) (.cells (row .u8 32 g) 23 (0, 0))) (alloc2_1 w (.cells (row .u8 32 f) 23 (0, 0)) (.cells (row .u8 32 g) 23 (0, 0))))
  have B0 := Lib.hid (((Below.refl w.heap.size w).alloc (Nat.le_refl _) (.cells (row .u8 32 f) 23 (0, 0))).alloc (by simp) (.cells (row .u8 32 g) 23 (0, 0)))
  clear hb1 hb2 hs ho hf hg
  generalize textF f = tf at *
  generalize textF g = tg at *
  generalize bytesF f = bf at *
  generalize bytesF g = bg at *
  go_enter Tryd.func7, Tryd.ntmps7
  go_wp2_with (first
    | (go_at_call 9; refine (awake4_any F _ (by first | exact HT.out | exact powTab_alloc HT.out _ | exact powTab_alloc (powTab_alloc HT.out _) _)).mono ?_; rintro e w1 ⟨rfl, hb⟩; have H1 := Lib.hid ((hb.block w.heap.size (by simp; omega)).trans H0.out.1); have G1 := Lib.hid ((hb.block (w.heap.size + 1) (by simp)).trans H0.out.2); have B1 := Lib.hid (below_next B0.out hb); have hs1 : w.heap.size + 2 ≤ w1.heap.size := Nat.le_trans (by simp) hb.size; have hc1 := HC1.out w1 H1.out; have hc2 := HC2.out w1 G1.out; clear H0 B0 hb))
  have l0 : w.heap.size < w1.heap.size := by omega
  have l1 : w.heap.size + 1 < w1.heap.size := by omega
  clear hc1 hc2
  refine wp_region_held_drew (S := fun w' => w'.rangeAt w.heap.size 0 (rowL .u8 32 f) ∧ w'.rangeAt (w.heap.size + 1) 0 (rowL .u8 32 g) ∧ Below w1.heap.size w1 w') (by kernel_rfl) ⟨range_of_row H1.out, range_of_row G1.out, below_draws (Below.refl _ _) 1⟩ (fun hHeld => ?_)
  refine take_at (i := 0) (v := .bool true) 13 rfl rfl (by kernel_rfl) (by kernel_rfl) (by kernel_rfl) (fun _ _ _ h => h) (sure_yes (by rfl) (fun w => by go_simp; try with_reducible rfl)) (by assumption) ?_
  simp only [List.setIfInBounds_toArray, List.set_cons_zero, List.set_cons_succ]
  refine take_at (i := 1) (v := .bool true) 14 rfl rfl (by kernel_rfl) (by kernel_rfl) (by kernel_rfl) (fun _ _ _ h => h) (sure_yes (by rfl) (fun w => by go_simp; try with_reducible rfl)) (by assumption) ?_
  simp only [List.setIfInBounds_toArray, List.set_cons_zero, List.set_cons_succ]
  refine take_at (i := 7) 20 rfl rfl (by kernel_rfl) (by kernel_rfl) (by kernel_rfl) (fun _ _ _ h => h) (sure_yes (by rfl) (fun w => by go_simp; try with_reducible rfl)) (by assumption) ?_
  simp only [List.setIfInBounds_toArray, List.set_cons_zero, List.set_cons_succ]
  refine take_at (i := 8) 21 rfl rfl (by kernel_rfl) (by kernel_rfl) (by kernel_rfl) (fun _ _ _ h => h) (sure_yes (by rfl) (fun w => by go_simp; try with_reducible rfl)) (by assumption) ?_
  simp only [List.setIfInBounds_toArray, List.set_cons_zero, List.set_cons_succ]
  refine take_at (i := 9) (v := .bool b1) 22 rfl rfl (by kernel_rfl) (by kernel_rfl) (by kernel_rfl) (fun _ _ _ h => h) (sure_yes (by rfl) (fun w => by go_simp; try with_reducible rfl)) (by assumption) ?_
  simp only [List.setIfInBounds_toArray, List.set_cons_zero, List.set_cons_succ]
  refine take_at (i := 2) 15 rfl rfl (by kernel_rfl) (by kernel_rfl) (by kernel_rfl) (fun _ _ _ h => h) (yieldsIf_load_mid (by rfl) 23 (.tmp 2) rfl w.heap.size 0 rfl (rowL .u8 32 f) _ (fun _ h => h.1) Tryd.underlying23 rfl info32) (by assumption) ?_
  simp only [List.setIfInBounds_toArray, List.set_cons_zero, List.set_cons_succ]
  refine take_at (i := 4) 17 rfl rfl (by kernel_rfl) (by kernel_rfl) (by kernel_rfl) (fun _ _ _ h => h) (yieldsIf_load_mid (by rfl) 23 (.tmp 3) rfl (w.heap.size + 1) 0 rfl (rowL .u8 32 g) _ (fun _ h => h.2.1) Tryd.underlying23 rfl info32) (by assumption) ?_
  simp only [List.setIfInBounds_toArray, List.set_cons_zero, List.set_cons_succ]
  refine wpAnyH_ready (rs := [3]) (by kernel_rfl) (by simp) ?_
  refine AllReadyH.cons rfl (fun K hK => ?_) AllReadyH.nil
  go_simp
  go_at_call 12
  refine (T1.out _).mono ?_
  rintro e w' ⟨rfl, hb'⟩
  go_wp2_with fail
  refine hK.out _ _ ((have h := hHeld; ⟨range_keep l0 h.2.2 h.1 hb', range_keep l1 h.2.2 h.2.1 hb', below_next h.2.2 hb'⟩)) (fun hHeld => ?_)
  clear hK K hb'
  refine wpAnyH_ready (rs := [5]) (by kernel_rfl) (by simp) ?_
  refine AllReadyH.cons rfl (fun K hK => ?_) AllReadyH.nil
  go_simp
  go_at_call 12
  refine (T2.out _).mono ?_
  rintro e w' ⟨rfl, hb'⟩
  go_wp2_with fail
  refine hK.out _ _ ((have h := hHeld; ⟨range_keep l0 h.2.2 h.1 hb', range_keep l1 h.2.2 h.2.1 hb', below_next h.2.2 hb'⟩)) (fun hHeld => ?_)
  clear hK K hb'
  refine take_at (i := 6) (v := .bool b1) 19 rfl rfl (by kernel_rfl) (by kernel_rfl) (by kernel_rfl) (fun _ _ _ h => h) (sure_yes (by rfl) (fun w => by go_simp; try with_reducible rfl)) (by assumption) ?_
  simp only [List.setIfInBounds_toArray, List.set_cons_zero, List.set_cons_succ]
  refine take_at (i := 10) (v := .bool true) 23 rfl rfl (by kernel_rfl) (by kernel_rfl) (by kernel_rfl) (fun _ _ _ h => h) (sure_yes (by rfl) (fun w => by go_simp; try with_reducible rfl)) (by assumption) ?_
  simp only [List.setIfInBounds_toArray, List.set_cons_zero, List.set_cons_succ]
  refine take_at (i := 11) (v := .bool true) 24 rfl rfl (by kernel_rfl) (by kernel_rfl) (by kernel_rfl) (fun _ _ _ h => h) (sure_yes (by rfl) (fun w => by go_simp; try with_reducible rfl)) (by assumption) ?_
  simp only [List.setIfInBounds_toArray, List.set_cons_zero, List.set_cons_succ]
  refine take_at (i := 12) (v := .bool true) 25 rfl rfl (by kernel_rfl) (by kernel_rfl) (by kernel_rfl) (fun _ _ _ h => h) (sure_yes (by rfl) (fun w => by go_simp; try with_reducible rfl)) (by assumption) ?_
  simp only [List.setIfInBounds_toArray, List.set_cons_zero, List.set_cons_succ]
  refine take_at (i := 13) 26 rfl rfl (by kernel_rfl) (by kernel_rfl) (by kernel_rfl) (fun _ _ _ h => h) (yieldsIf_load_mid (by rfl) 23 (.tmp 2) rfl w.heap.size 0 rfl (rowL .u8 32 f) _ (fun _ h => h.1) Tryd.underlying23 rfl info32) (by assumption) ?_
  simp only [List.setIfInBounds_toArray, List.set_cons_zero, List.set_cons_succ]
  refine take_at (i := 15) 28 rfl rfl (by kernel_rfl) (by kernel_rfl) (by kernel_rfl) (fun _ _ _ h => h) (yieldsIf_load_mid (by rfl) 23 (.tmp 3) rfl (w.heap.size + 1) 0 rfl (rowL .u8 32 g) _ (fun _ h => h.2.1) Tryd.underlying23 rfl info32) (by assumption) ?_
  simp only [List.setIfInBounds_toArray, List.set_cons_zero, List.set_cons_succ]
  refine take_at (i := 18) 31 rfl rfl (by kernel_rfl) (by kernel_rfl) (by kernel_rfl) (fun _ _ _ h => h) (yieldsIf_load_mid (by rfl) 23 (.tmp 2) rfl w.heap.size 0 rfl (rowL .u8 32 f) _ (fun _ h => h.1) Tryd.underlying23 rfl info32) (by assumption) ?_
  simp only [List.setIfInBounds_toArray, List.set_cons_zero, List.set_cons_succ]
  refine take_at (i := 19) 32 rfl rfl (by kernel_rfl) (by kernel_rfl) (by kernel_rfl) (fun _ _ _ h => h) (yieldsIf_load_mid (by rfl) 23 (.tmp 3) rfl (w.heap.size + 1) 0 rfl (rowL .u8 32 g) _ (fun _ h => h.2.1) Tryd.underlying23 rfl info32) (by assumption) ?_
  simp only [List.setIfInBounds_toArray, List.set_cons_zero, List.set_cons_succ]
  refine take_at (i := 20) (v := .bool b2) 33 rfl rfl (by kernel_rfl) (by kernel_rfl) (by kernel_rfl) (fun _ _ _ h => h) (sure_yes (by rfl) (eql_op rfl rfl rfl (guardRows digestGuard (.tmp 31) (.tmp 32) .u8 32 f g) (eqlRows Tryd.underlying23 Tryd.underlying5 cellsByte f g HS.out))) (by assumption) ?_
  simp only [List.setIfInBounds_toArray, List.set_cons_zero, List.set_cons_succ]
  refine wpAnyH_ready (rs := [14]) (by kernel_rfl) (by simp) ?_
  refine AllReadyH.cons rfl (fun K hK => ?_) AllReadyH.nil
  go_simp
  go_at_call 12
  refine (T1.out _).mono ?_
  rintro e w' ⟨rfl, hb'⟩
  go_wp2_with fail
  refine hK.out _ _ ((have h := hHeld; ⟨range_keep l0 h.2.2 h.1 hb', range_keep l1 h.2.2 h.2.1 hb', below_next h.2.2 hb'⟩)) (fun hHeld => ?_)
  clear hK K hb'
  refine wpAnyH_ready (rs := [16]) (by kernel_rfl) (by simp) ?_
  refine AllReadyH.cons rfl (fun K hK => ?_) AllReadyH.nil
  go_simp
  go_at_call 12
  refine (T2.out _).mono ?_
  rintro e w' ⟨rfl, hb'⟩
  go_wp2_with fail
  refine hK.out _ _ ((have h := hHeld; ⟨range_keep l0 h.2.2 h.1 hb', range_keep l1 h.2.2 h.2.1 hb', below_next h.2.2 hb'⟩)) (fun hHeld => ?_)
  clear hK K hb'
  refine take_at (i := 17) (v := .bool b2) 30 rfl rfl (by kernel_rfl) (by kernel_rfl) (by kernel_rfl) (fun _ _ _ h => h) (sure_yes (by rfl) (fun w => by go_simp; try with_reducible rfl)) (by assumption) ?_
  simp only [List.setIfInBounds_toArray, List.set_cons_zero, List.set_cons_succ]
  refine take_at (i := 21) (v := .bool true) 34 rfl rfl (by kernel_rfl) (by kernel_rfl) (by kernel_rfl) (fun _ _ _ h => h) (sure_yes (by rfl) (fun w => by go_simp; try with_reducible rfl)) (by assumption) ?_
  simp only [List.setIfInBounds_toArray, List.set_cons_zero, List.set_cons_succ]
  refine take_at (i := 22) (v := .bool true) 35 rfl rfl (by kernel_rfl) (by kernel_rfl) (by kernel_rfl) (fun _ _ _ h => h) (sure_yes (by rfl) (fun w => by go_simp; try with_reducible rfl)) (by assumption) ?_
  simp only [List.setIfInBounds_toArray, List.set_cons_zero, List.set_cons_succ]
  refine take_at (i := 23) (v := .bool true) 4 rfl rfl (by kernel_rfl) (by kernel_rfl) (by kernel_rfl) (fun _ _ _ h => h) (sure_yes (by rfl) (fun w => by go_simp; try with_reducible rfl)) (by assumption) ?_
  simp only [List.setIfInBounds_toArray, List.set_cons_zero, List.set_cons_succ]
  refine wpAnyH_done (by kernel_rfl) ?_ _
  have hF := below_next B1.out hHeld.2.2
  clear hHeld H1 G1 B1
  go_wp2
  go_ret
  exact ⟨rfl, hF⟩
end Go.Proofs.YtikhmhgjaipnaaaDoor
