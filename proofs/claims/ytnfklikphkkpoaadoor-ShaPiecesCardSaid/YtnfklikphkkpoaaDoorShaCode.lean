/-
What package sha owes, as the landed code gives it: Told and Sum, and all contracts together.
-/
import Derived.Test.YtnfklikphkkpoaaDoorShaSmall
import Derived.Test.YtnfklikphkkpoaaDoorShaWrite
namespace Go.Proofs.YtnfklikphkkpoaaDoor
open Go.RowKit
theorem infoHash : (Tryd.prog.info? 45).map (·.size) = some 73 := by kernel_rfl
theorem digestStep (h : Nat → BitVec 32) (k t : Nat) (ht : t < 4) : digestF h (4 * k + t) = (h k >>> (8 * (3 - t))) &&& 255#32 := by
  unfold digestF; rw [show (4 * k + t) / 4 = k from by omega, show (4 * k + t) % 4 = t from by omega]
theorem zeroDigest : (Tryd.prog.info? 25).map (fun i => i.zero) = some (some (.agg (row .u8 32 fun _ => 0#32))) := by kernel_rfl
theorem zeroHash : (Tryd.prog.info? 45).map (fun i => i.zero) = some (some (.agg (stC (fun _ => 0#32) (fun _ => 0#32) 0).toArray)) := by kernel_rfl
theorem digest_row (H : Nat → BitVec 32) (k : Nat) :
    ((((row .u8 32 (upTo (digestF H) (4 * k))).setIfInBounds (4 * k) (.int .u8 (u32 (H k) / 16777216 % 256))).setIfInBounds (4 * k + 1) (.int .u8 (u32 (H k) / 65536 % 256))).setIfInBounds (4 * k + 2) (.int .u8 (u32 (H k >>> 8) % 256))).setIfInBounds (4 * k + 3) (.int .u8 (u32 (H k) % 256)) = row .u8 32 (upTo (digestF H) (4 * (k + 1))) := by
  have v0 : u32 (H k) / 16777216 % 256 = u32 (digestF H (4 * k)) := by
    rw [show (16777216 : Int) = 2 ^ 24 from by decide, u32_shr, u32_mod256, ← Nat.add_zero (4 * k), digestStep _ _ _ (by omega)]
  have v1 : u32 (H k) / 65536 % 256 = u32 (digestF H (4 * k + 1)) := by
    rw [show (65536 : Int) = 2 ^ 16 from by decide, u32_shr, u32_mod256, digestStep _ _ _ (by omega)]
  have v2 : u32 (H k >>> 8) % 256 = u32 (digestF H (4 * k + 2)) := by
    rw [u32_mod256, digestStep _ _ _ (by omega)]
  have v3 : u32 (H k) % 256 = u32 (digestF H (4 * k + 3)) := by
    rw [u32_mod256, digestStep _ _ _ (by omega)]; simp
  rw [v0, v1, v2, v3, upTo_set, upTo_set, upTo_set, upTo_set, show 4 * k + 1 + 1 + 1 + 1 = 4 * (k + 1) from by omega]
set_option maxHeartbeats 2000000 in
theorem told_any (w : World) (g : Nat) (bs : List (BitVec 32)) (tab : Tab w) (hi : Holds 45 w g bs) (hlen : bs.length ≤ 1099511627776) :
    Calls Tryd.prog 16 #[.pointer (some ⟨g, 0, none⟩)] w fun e w' => e = .returned (rowV .u8 32 (sumF bs)) ∧ Below w.heap.size w w' := by
  have hpl : (padB bs.length).length ≤ 72 := by rw [padB_length]; have := padZeros_lt bs.length; omega
  have HT := Lib.hid tab
  have HI := Lib.hid hi
  have hg : g < w.heap.size := by obtain ⟨p, hp, -⟩ := hi; exact (Array.getElem?_eq_some_iff.1 hp).1
  clear tab hi
  go_enter Tryd.func16, Tryd.ntmps16
  go_wp2_with (first
    | (refine alloc_as rfl 25 rfl _ zeroDigest ?_; (have H0 := heap_last w (.cells (row .u8 32 fun _ => 0#32) 25 (0, 0)); have B0 := (Below.refl w.heap.size w).alloc (Nat.le_refl _) (.cells (row .u8 32 fun _ => 0#32) 25 (0, 0)); have hs0 : w.heap.size < (w.alloc (.cells (row .u8 32 fun _ => 0#32) 25 (0, 0))).heap.size := (by simp); generalize w.alloc (.cells (row .u8 32 fun _ => 0#32) 25 (0, 0)) = w0 at *; obtain ⟨p, hh, hp⟩ := HI.out; have HH0 := Lib.hid ((B0.block g hg).trans hh); have HP := Lib.hid hp; have HZ0 := Lib.hid H0; have HB0 := Lib.hid B0; clear H0 B0 hh hp HI))
    | (refine wpList_load_row rfl 45 (.tmp 11) rfl g rfl 45 _ (0, 0) _ HH0.out Tryd.underlying45 rfl (by rw [List.size_toArray, stC_length]; exact infoHash) ?_)
    | (refine alloc_as rfl 45 rfl _ zeroHash ?_)
    | (refine store_new rfl 45 (.tmp 3) (.tmp 12) rfl rfl w0 _ _ 45 rfl rfl rfl (by rw [List.size_toArray, stC_length]; exact infoHash) (by rw [List.size_toArray, List.size_toArray, stC_length, stC_length]) (all_oneCell_toArray (stC_one _ _ _)) ?_; intro w1 hh1 hb1 hs1; have c1 := cell_len ((hb1.block g (by omega)).trans HH0.out); have HH1 := Lib.hid hh1; have HB1 := Lib.hid hb1; clear hh1 hb1)
    | (go_at_call 12; refine (pad_any bs.length hlen _).mono ?_; rintro e w2 ⟨v2, rfl, hv2, hb2, ha2⟩; have HI2 := Lib.hid (show Holds 45 w2 w0.heap.size bs from ⟨p, (hb2.block _ hs1).trans HH1.out, HP.out⟩); have HZ2 := Lib.hid ((hb2.block _ (by omega)).trans ((HB1.out.block _ hs0).trans HZ0.out)); have HB2 := Lib.hid (HB0.out.trans ((HB1.out.mono (Nat.le_of_lt hs0)).trans (hb2.mono (by omega)))); have HV2 := Lib.hid hv2; have HA2 := Lib.hid (ha2 w0.heap.size hs1); have hs2 : w0.heap.size < w2.heap.size := Nat.lt_of_lt_of_le hs1 hb2.size; clear HH0 HP HH1 HB1 HB0 HZ0 hb2 hv2 ha2 c1 hs1)
    | (go_at_call 15; refine (write_any w2 w0.heap.size bs (padB bs.length) v2 (tab_keep HT.out HB2.out (Nat.le_refl _)) HI2.out HV2.out (fun _ => HA2.out) (by omega)).mono ?_; rintro e w3 ⟨rfl, hi3, ho3⟩; have HI3 := Lib.hid (show Holds 45 w3 w0.heap.size (paddedB bs) from hi3); have HZ3 := Lib.hid ((ho3.block _ (by omega) (by omega)).trans HZ2.out); have HB3 := Lib.hid (ho3.below HB2.out (Nat.le_of_lt hs0) (by omega)); have hs3 : w0.heap.size < w3.heap.size := Nat.lt_of_lt_of_le hs2 ho3.size; clear HI2 HV2 HA2 HZ2 HB2 hs2 hi3 ho3)
    | (refine alloc_as rfl 25 rfl _ zeroDigest ?_; obtain ⟨q, hh, -⟩ := HI3.out; obtain ⟨H, hH⟩ : ∃ H, H = wordsF (paddedB bs) ((paddedB bs).length / 64) := ⟨_, rfl⟩; rw [← hH] at hh; have HSUM := Lib.hid (show sumF bs = digestF H from (by rw [hH]; rfl)); have h4 := heap_last w3 (.cells (row .u8 32 fun _ => 0#32) 25 (0, 0)); have b4 := (Below.refl w3.heap.size w3).alloc (Nat.le_refl _) (.cells (row .u8 32 fun _ => 0#32) 25 (0, 0)); generalize w3.alloc (.cells (row .u8 32 fun _ => 0#32) 25 (0, 0)) = w4 at *; have HR4 := Lib.hid (range_words ((b4.block _ hs3).trans hh)); have HZ4 := Lib.hid ((b4.block _ (by omega)).trans HZ3.out); have HB4 := Lib.hid (HB3.out.trans (b4.mono (by omega))); have HD4 := Lib.hid h4; clear HI3 HZ3 HB3 hH hh b4 h4)
    | (refine wpList_load_mid rfl 38 (.tmp 19) rfl w0.heap.size 0 rfl (rowL .u32 8 H) _ HR4.out Tryd.underlying38 rfl (by rw [rowL_length]; exact infoWords) ?_; rw [rowL_toArray]))
  go_loopw [5, 6, 21] (fun _ _ c wr => ∃ k : Nat, k ≤ 8 ∧ c = .int .i64 k ∧ wr.heap[w.heap.size]? = some (.cells (row .u8 32 fun _ => 0#32) 25 (0, 0)) ∧ wr.heap[w3.heap.size]? = some (.cells (row .u8 32 (upTo (digestF H) (4 * k))) 25 (0, 0)) ∧ Below w.heap.size w wr) (fun _ _ c _ => 8 - (intOf c).toNat)
  case atStart => exact ⟨0, by omega, rfl, HZ4.out, by rw [upTo_zero]; exact HD4.out, HB4.out⟩
  case round =>
    clear HR4 HZ4 HB4 HD4
    obtain ⟨k, hk, rfl, hz, hd, hb⟩ := hrel
    have HZ := Lib.hid hz
    have HB := Lib.hid hb
    by_cases hlt : k < 8
    · have hix : ∀ w, (Instr.index 38 (.agg (row .u32 8 H)) (.int .i64 k)).run Tryd.prog w = .ok (.int .u32 (Go.Proofs.YtnfklikphkkpoaaDoor.u32 (H k))) w := fun w => index_row w H k hlt Tryd.underlying38 Tryd.underlying37 cellsU32'
      obtain ⟨j0, hj0⟩ : ∃ j0 : Nat, j0 = 4 * k := ⟨_, rfl⟩
      obtain ⟨j1, hj1⟩ : ∃ j1 : Nat, j1 = j0 + 1 := ⟨_, rfl⟩
      obtain ⟨j2, hj2⟩ : ∃ j2 : Nat, j2 = j0 + 2 := ⟨_, rfl⟩
      obtain ⟨j3, hj3⟩ : ∃ j3 : Nat, j3 = j0 + 3 := ⟨_, rfl⟩
      have e0 : (4 : Int) * (k : Int) = (j0 : Int) := by omega
      have e1 : (j0 : Int) + 1 = (j1 : Int) := by omega
      have e2 : (j0 : Int) + 2 = (j2 : Int) := by omega
      have e3 : (j0 : Int) + 3 = (j3 : Int) := by omega
      have q0 : (j0 : Int) < 32 := by omega
      have q1 : (j1 : Int) < 32 := by omega
      have q2 : (j2 : Int) < 32 := by omega
      have q3 : (j3 : Int) < 32 := by omega
      have HA := Lib.hid hd
      have SHA := Lib.hid (show Solo w3.heap.size wr wr from ⟨rfl, rfl, rfl, rfl, fun _ _ => rfl⟩)
      have HJ := Lib.hid (And.intro hj0 (And.intro hj1 (And.intro hj2 hj3)))
      clear hd hz hb hj0 hj1 hj2 hj3
      go_wp2_with (first
        | (refine store_cell rfl 5 (.tmp 47) (.tmp 38) rfl rfl .u8 w3.heap.size j0 _ _ _ HA.out rfl rfl (by simp only [row_size]; omega) (by kernel_rfl) ?_; intro wHX hgHX hsHX; have HX := Lib.hid hgHX; have SHX := Lib.hid (SHA.out.trans hsHX); clear HA SHA hgHX hsHX)
        | (refine store_cell rfl 5 (.tmp 48) (.tmp 41) rfl rfl .u8 w3.heap.size j1 _ _ _ HX.out rfl rfl (by simp only [Array.size_setIfInBounds, row_size]; omega) (by kernel_rfl) ?_; intro wHY hgHY hsHY; have HY := Lib.hid hgHY; have SHY := Lib.hid (SHX.out.trans hsHY); clear HX SHX hgHY hsHY)
        | (refine store_cell rfl 5 (.tmp 49) (.tmp 44) rfl rfl .u8 w3.heap.size j2 _ _ _ HY.out rfl rfl (by simp only [Array.size_setIfInBounds, row_size]; omega) (by kernel_rfl) ?_; intro wHV hgHV hsHV; have HV := Lib.hid hgHV; have SHV := Lib.hid (SHY.out.trans hsHV); clear HY SHY hgHV hsHV)
        | (refine store_cell rfl 5 (.tmp 50) (.tmp 46) rfl rfl .u8 w3.heap.size j3 _ _ _ HV.out rfl rfl (by simp only [Array.size_setIfInBounds, row_size]; omega) (by kernel_rfl) ?_; intro wHU hgHU hsHU; have HU := Lib.hid hgHU; have SHU := Lib.hid (SHV.out.trans hsHU); clear HV SHV hgHU hsHU))
      have hU := HU.out
      obtain ⟨hj0, hj1, hj2, hj3⟩ := HJ.out
      rw [hj1, hj2, hj3, hj0, digest_row] at hU
      refine ⟨⟨k + 1, by omega, by go_num, (SHU.out.block _ (by omega)).trans HZ.out, hU, HB.out.trans ⟨SHU.out.os, SHU.out.tape, SHU.out.output, Nat.le_of_eq SHU.out.size.symm, fun j hj => SHU.out.block j (by omega)⟩⟩, by simp [intOf]; omega⟩
    · obtain rfl : k = 8 := by omega
      rw [upTo_full, ← HSUM.out] at hd
      clear HZ HB
      go_wp2_with (first | (refine wpList_load_row rfl 25 (.tmp 4) rfl w3.heap.size rfl 25 _ (0, 0) _ hd Tryd.underlying25 rfl (by kernel_rfl) ?_) | (refine wpList_store_row rfl 25 (.tmp 2) (.tmp 52) rfl w.heap.size _ rfl rfl 25 _ hz (by kernel_rfl) ((row_size _ _ _).trans (row_size _ _ _).symm) (row_one _ _ _) ?_))
      exact bodyPost_ret (results_cell_row Tryd.results16 _ _ w.heap.size 25 _ (0, 0) _ rfl (setRow_heap _ _ _ _ _ _ hz) Tryd.underlying25 rfl (by kernel_rfl)) rfl ⟨rfl, below_setRow hb (by omega) _⟩
set_option maxHeartbeats 2000000 in
theorem sum_any (w : World) (v : Value) (bs : List (BitVec 32)) (tab : Tab w) (hv : HasBytes w v bs) (hlen : bs.length ≤ 1099511627776) :
    Calls Tryd.prog 10 #[v] w fun e w' => e = .returned (rowV .u8 32 (sumF bs)) ∧ Below w.heap.size w w' := by
  have HT := Lib.hid tab
  have HV := Lib.hid hv
  clear tab hv
  go_enter Tryd.func10, Tryd.ntmps10
  go_wp2_with (first
    | (refine alloc_as rfl 25 rfl _ zeroDigest ?_; have H0 := heap_last w (.cells (row .u8 32 fun _ => 0#32) 25 (0, 0)); have B0 := (Below.refl w.heap.size w).alloc (Nat.le_refl _) (.cells (row .u8 32 fun _ => 0#32) 25 (0, 0)); have hs0 : w.heap.size < (w.alloc (.cells (row .u8 32 fun _ => 0#32) 25 (0, 0))).heap.size := (by simp); generalize w.alloc (.cells (row .u8 32 fun _ => 0#32) 25 (0, 0)) = w0 at *; have HZ0 := Lib.hid H0; have HB0 := Lib.hid B0; clear H0 B0)
    | (go_at_call 14; refine (new_any w0).mono ?_; rintro e w1 ⟨g, rfl, hg, hi, hb⟩; have HI1 := Lib.hid hi; have HZ1 := Lib.hid ((hb.block _ hs0).trans HZ0.out); have HB1 := Lib.hid (HB0.out.trans (hb.mono (Nat.le_of_lt hs0))); have hs1 : w.heap.size < w1.heap.size := Nat.lt_of_lt_of_le hs0 hb.size; clear hi hb HZ0 HB0)
    | (go_at_call 15; refine (write_any w1 g [] bs v (tab_keep HT.out HB1.out (Nat.le_refl _)) HI1.out (has_below HV.out HB1.out) (fun hne => apart_of_has HV.out (by omega) hne) (by simp; omega)).mono ?_; rintro e w2 ⟨rfl, hi, ho⟩; have HI2 := Lib.hid (show Holds 45 w2 g bs from hi); have HZ2 := Lib.hid ((ho.block _ hs1 (by omega)).trans HZ1.out); have HB2 := Lib.hid (ho.below HB1.out (by omega) (by omega)); have hs2 : w.heap.size < w2.heap.size := Nat.lt_of_lt_of_le hs1 ho.size; clear HI1 HZ1 HB1 hi ho)
    | (go_at_call 16; refine (told_any w2 g bs (tab_keep HT.out HB2.out (Nat.le_refl _)) HI2.out hlen).mono ?_; rintro e w3 ⟨rfl, hb⟩; have hz3 := (hb.block _ hs2).trans HZ2.out; have hb3 := HB2.out.trans (hb.mono (Nat.le_of_lt hs2)); clear HI2 HZ2 HB2 hb)
    | (refine wpList_store_row rfl 25 (.tmp 2) (.tmp 9) rfl w.heap.size _ rfl rfl 25 _ hz3 (by kernel_rfl) ((row_size _ _ _).trans (row_size _ _ _).symm) (row_one _ _ _) ?_))
  exact bodyPost_ret (results_cell_row Tryd.results10 _ _ w.heap.size 25 _ (0, 0) _ rfl (setRow_heap _ _ _ _ _ _ hz3) Tryd.underlying25 rfl (by kernel_rfl)) rfl ⟨rfl, below_setRow hb3 (by omega) _⟩
/-- All that package sha owes. -/
theorem shaFace : HashFace (Holds 45) where
  lt := fun w g bs h => by obtain ⟨p, hp, -⟩ := h; exact (Array.getElem?_eq_some_iff.1 hp).1
  keep := fun w w' g bs h e => by obtain ⟨p, hp, hq⟩ := h; exact ⟨p, e.trans hp, hq⟩
  new := fun w _ => new_any w
  write := fun w g bs v cs tab hi hv hap _ _ hlen => write_any w g bs cs v tab hi hv hap (by omega)
  told := fun w g bs tab hi _ hlen => told_any w g bs tab hi hlen
  len := fun w g bs hi _ => len_any w g bs hi
  sum := fun w v bs tab hv _ hlen => sum_any w v bs tab hv hlen
  pad := fun w n hn => (pad_any n hn w).mono fun e w' ⟨v, h1, h2, h3, _⟩ => ⟨v, h1, h2, h3⟩
  padOut := fun w n hn => pad_out n hn w
  writeNil := fun w v _ _ => writeNil_any w v
  toldNil := fun w => toldNil_any w
  lenNil := fun w => lenNil_any w
end Go.Proofs.YtnfklikphkkpoaaDoor
