/-
The walk of the statement of layer 3 on what stays, out of the contracts of package sha.
-/
import Derived.Test.YtnfklikphkkpoaaDoorLaw03Sums
namespace Go.Proofs.YtnfklikphkkpoaaDoor
open Go.RowKit
/-- A row of which the first n cells are bytes. -/
def ByteRow (cells : Array Value) (n : Nat) : Prop := n ≤ cells.size ∧ ∀ j, j < n → ∃ x : BitVec 32, u32 x < 256 ∧ cells[j]? = some (.int .u8 (u32 x))
theorem ByteRow.set {cells : Array Value} {n : Nat} (h : ByteRow cells n) (i : Nat) (z : Int) (h0 : 0 ≤ z) (h1 : z < 256) : ByteRow (cells.setIfInBounds i (.int .u8 z)) n := by
  refine ⟨by rw [Array.size_setIfInBounds]; exact h.1, fun j hj => ?_⟩
  rw [Array.getElem?_setIfInBounds]
  by_cases e : i = j
  · subst e
    rw [if_pos rfl, if_pos (Nat.lt_of_lt_of_le hj h.1)]
    exact ⟨BitVec.ofInt 32 z, by rw [u32_of z h0 (by omega)]; exact h1, by rw [u32_of z h0 (by omega)]⟩
  · rw [if_neg e]; exact h.2 j hj
theorem range3S_keep {g1 g2 g3 : Nat} {w1 wa wb : World} {c1 c2 c3 : List Value} (h1 : g1 < w1.heap.size) (h2 : g2 < w1.heap.size) (h3 : g3 < w1.heap.size) (h : wa.rangeAt g1 0 c1 ∧ wa.rangeAt g2 0 c2 ∧ wa.rangeAt g3 0 c3 ∧ Below w1.heap.size w1 wa) (hb : Below w1.heap.size wa wb) :
    wb.rangeAt g1 0 c1 ∧ wb.rangeAt g2 0 c2 ∧ wb.rangeAt g3 0 c3 ∧ Below w1.heap.size w1 wb :=
  ⟨fun j v hv => by rw [cell_same (hb.block g1 h1)]; exact h.1 j v hv, fun j v hv => by rw [cell_same (hb.block g2 h2)]; exact h.2.1 j v hv, fun j v hv => by rw [cell_same (hb.block g3 h3)]; exact h.2.2.1 j v hv, h.2.2.2.trans hb⟩
theorem eqlLV {P : Program} {t e : TypeId} {k : IntKind} {n : Nat} (ht : P.underlying t = some (.array n e)) (he : P.underlying e = some (.int k)) (hc : P.cellsOf e = 1) (f : Nat → BitVec 32) :
    ∀ w, (binOp .eql t (.agg (rowL k n f).toArray) (rowV k n f)).run P w = .ok (.bool true) w := eql_rowV ht he hc f f (sameRow_self n f)
theorem eqlLL {P : Program} {t e : TypeId} {k : IntKind} {n : Nat} (ht : P.underlying t = some (.array n e)) (he : P.underlying e = some (.int k)) (hc : P.cellsOf e = 1) (f : Nat → BitVec 32) :
    ∀ w, (binOp .eql t (.agg (rowL k n f).toArray) (.agg (rowL k n f).toArray)).run P w = .ok (.bool true) w := eql_rowV ht he hc f f (sameRow_self n f)
theorem guardLV {P : Program} {t : TypeId} (hm : P.eqGuardType P.depth t = false) (x y : Operand) (k : IntKind) (n : Nat) (f : Nat → BitVec 32) : ∀ w, (eqGuard .eql t x y (.agg (rowL k n f).toArray) (rowV k n f)).run P w = .ok () w := guard_rowV hm x y k n f f
theorem guardLL {P : Program} {t : TypeId} (hm : P.eqGuardType P.depth t = false) (x y : Operand) (k : IntKind) (n : Nat) (f : Nat → BitVec 32) : ∀ w, (eqGuard .eql t x y (.agg (rowL k n f).toArray) (.agg (rowL k n f).toArray)).run P w = .ok () w := guard_rowV hm x y k n f f
theorem info_d32 : (Tryd.prog.info? 25).map (·.size) = some 32 := by kernel_rfl
set_option maxHeartbeats 4000000 in
theorem shaStays_walk {Inv : World → Nat → List (BitVec 32) → Prop} (F : HashFace Inv) (bs cs : List (BitVec 32)) (hbs : ∀ x ∈ bs, u32 x < 256) (hcs : ∀ x ∈ cs, u32 x < 256) (v u : Value) (w : World) (tab : Tab w) (hv : HasBytes w v bs) (hu : HasBytes w u cs) (hmax : bs.length ≤ 140737488351232) (hmax2 : cs.length ≤ 140737488351232) :
    Calls Tryd.prog 7 #[v, u] w fun e w' => e = .returned (.bool true) ∧ Below w.heap.size w w' := by
  obtain ⟨i0, hi, hz0, hz1, hz2⟩ := info_parts infoByte
  have HT := Lib.hid tab
  have HV := Lib.hid hv
  have HU := Lib.hid hu
  have HBS := Lib.hid hbs
  have HCS := Lib.hid hcs
  have HBC := Lib.hid (show ∀ x ∈ bs ++ cs, u32 x < 256 from fun x hx => (List.mem_append.1 hx).elim (hbs x) (hcs x))
  clear tab hbs hcs
  obtain ⟨ao, cap, rfl, -⟩ := hv
  obtain ⟨uo, ucap, rfl, -⟩ := hu
  by_cases h4 : 4000 < bs.length + cs.length
  · have h5 : 4000 < (bs.length : Int) + (cs.length : Int) := by omega
    go_enter Tryd.func7, Tryd.ntmps7
    go_wp2_with (first | (go_at_call 9; refine (awake3_any F _ HT.out).mono ?_; rintro e w1 ⟨rfl, hb1⟩))
    go_ret
    exact ⟨rfl, hb1⟩
  clear hmax hmax2
  have hb4 : bs.length ≤ 4000 := by omega
  have hc4 : cs.length ≤ 4000 := by omega
  go_enter Tryd.func7, Tryd.ntmps7
  go_wp2_with (first | (go_at_call 9; refine (awake3_any F _ HT.out).mono ?_; rintro e w0 ⟨rfl, hb0⟩) | (go_at_call 14; refine (F.new _ (tab_keep HT.out hb0 (Nat.le_refl _))).mono ?_; rintro e w1 ⟨g, rfl, hg1, hi1, hb1⟩; have B1 := below_next hb0 hb1; have HI1 := Lib.hid hi1; have lt1 := F.lt _ _ _ hi1; have hgl : w.heap.size ≤ g := Nat.le_trans hb0.size hg1; clear hi1 hb1 hg1 hb0) | (at_builtin; refine append_has rfl (.tmp 23) (.tmp 24) 22 rfl w1.heap.size 5 i0 Tryd.underlying22 hi hz0 hz1 hz2 _ [] bs rfl ⟨rfl, .inr ⟨w1.heap.size, 0, #[], rfl, Nat.le_refl _, heap_last _ _, Nat.le_refl _, by decide, rfl, rfl⟩⟩ _ rfl (has_below HV.out (B1.alloc B1.size _)) (by simp; omega) (by simp) ?_; intro v2 w2 ho2 hg2 hn2; have B2 := below_grown (B1.alloc B1.size _) hg2 (by simp; exact Nat.le_succ_of_le B1.size) (fun k hk => by cases hk; exact B1.size); have HI2 := Lib.hid (F.keep _ _ _ _ HI1.out ((hg2.block g (by simp; omega) (by show some g ≠ some w1.heap.size; simp; omega)).trans (by rw [heap_at_alloc, if_neg (by omega)]))); have HH2 := Lib.hid (has_of_own ho2); obtain ⟨go, capo, curo, rfl, hgo, hgh, hgn, -, hgs, htk⟩ := own_block ho2 (hn2 (fun h => by cases h)); have HO2 := Lib.hid hgh; have lto : go < w2.heap.size := (Array.getElem?_eq_some_iff.1 hgh).1; have lt2 := F.lt _ _ _ HI2.out; have HTK := Lib.hid (And.intro hgs htk); clear ho2 hg2 hn2 hgh B1 HI1 hgs htk) | (go_at_call 15; refine (F.write _ g [] _ bs (tab_keep HT.out B2 (Nat.le_refl _)) HI2.out HH2.out (fun _ => apart_new (by omega)) (by simp) HBS.out (by simp; omega)).mono ?_; rintro e w3 ⟨rfl, hi3, ho3⟩; have HI3 := Lib.hid (show Inv w3 g bs from hi3); have HO3 := Lib.hid ((ho3.block go lto (by omega)).trans HO2.out); have B3 := ho3.below B2 hgl B2.size; have lt3 := F.lt _ _ _ hi3; have lto3 : go < w3.heap.size := Nat.lt_of_lt_of_le lto ho3.size; clear hi3 ho3 HO2 B2 HI2 HH2 lto lt2))
  have HR := Lib.hid (show ByteRow curo bs.length from by
    obtain ⟨hgs, htk⟩ := HTK.out
    rw [List.nil_append] at htk
    refine ⟨by rw [hgs]; simpa using hgn, fun j hj => ⟨bs.getD j 0#32, ?_, ?_⟩⟩
    · rw [show bs.getD j 0#32 = bs[j] from by simp [hj]]; exact HBS.out _ (List.getElem_mem hj)
    · rw [← bytesL_get bs j hj, ← htk, List.getElem?_take, if_pos (by simpa using hj)]; simp)
  go_loopw [8] (fun c wr => ∃ i : Nat, i ≤ bs.length ∧ c = .int .i64 i ∧ (∃ cells, wr.heap[go]? = some (.cells cells 5 (0, 0)) ∧ ByteRow cells bs.length) ∧ Inv wr g bs ∧ go < wr.heap.size ∧ Below w.heap.size w wr) (fun c _ => bs.length - (intOf c).toNat)
  case atStart => exact ⟨0, by omega, rfl, ⟨_, HO3.out, HR.out⟩, HI3.out, lto3, B3⟩
  case round =>
    clear HO3 HR HI3 lto3 B3 HTK lt3
    obtain ⟨i, hile, rfl, ⟨cells, ho, hrow⟩, hinv, hlo, hb⟩ := hrel
    have HI := Lib.hid hinv
    clear hinv
    by_cases hlt : i < bs.length
    · obtain ⟨x, hx, hcx⟩ := hrow.2 i hlt
      have hx0 := u32_lo x
      have c0 := (cell_of_row wr _ i _ _ _ ho).trans hcx
      have f0 := frozen_of_row wr _ i _ _ ho
      have q0 : (i : Int) < (bs.length : Int) := by omega
      have HO := Lib.hid ho
      have HR := Lib.hid hrow
      clear ho hrow hcx
      go_wp2
      go_roundw
      case rel => exact ⟨i + 1, by omega, by go_num, ⟨_, heap_setCell_same _ _ _ _ _ _ HO.out, HR.out.set i _ (by omega) (by omega)⟩, F.keep _ _ _ _ HI.out (heap_setCell_other _ _ _ _ (by simp; omega)), by simpa using hlo, hb.setCell (show w.heap.size ≤ go by omega) _⟩
      case measure => simp [intOf]; omega
    · clear ho hrow
      have hd : decide ((i : Int) < (bs.length : Int)) = false := decide_eq_false (by omega)
      obtain ⟨d0, hd0⟩ : ∃ d, sumF bs = d := ⟨_, rfl⟩
      have HD := Lib.hid hd0
      clear hd0
      have hgw := F.lt _ _ _ HI.out
      go_wp2_with (first | (go_at_call 16; refine (F.told _ g bs (tab_keep HT.out hb (Nat.le_refl _)) HI.out HBS.out (by omega)).mono ?_; rintro e w4 ⟨rfl, hb4⟩; rw [HD.out]; have HI4 := Lib.hid (F.keep _ _ _ _ HI.out (hb4.block g (F.lt _ _ _ HI.out))); have B4 := below_next hb hb4; have g4 := F.lt _ _ _ HI4.out; have z4 := hb4.size; clear HI hb4 ) | (refine store_new rfl 25 (.tmp 9) (.tmp 44) rfl rfl w4 _ (row .u8 32 d0) 25 rfl rfl rfl (by kernel_rfl) rfl (row_one _ _ _) ?_; intro w5 hh5 hb5 s5; have HI5 := Lib.hid (F.keep _ _ _ _ HI4.out (hb5.block g (F.lt _ _ _ HI4.out))); have HX5 := Lib.hid hh5; have B5 := below_next B4 hb5; have g5 := F.lt _ _ _ HI5.out; clear HI4 hh5 hb5 ) | (go_at_call 16; refine (F.told _ g bs (tab_keep HT.out B5 (Nat.le_refl _)) HI5.out HBS.out (by omega)).mono ?_; rintro e w6 ⟨rfl, hb6⟩; rw [HD.out]; have HI6 := Lib.hid (F.keep _ _ _ _ HI5.out (hb6.block g (F.lt _ _ _ HI5.out))); have HX6 := Lib.hid ((hb6.block w4.heap.size (by omega)).trans HX5.out); have B6 := below_next B5 hb6; have g6 := F.lt _ _ _ HI6.out; have z6 := hb6.size; clear HI5 hb6 HX5) | (refine store_new rfl 25 (.tmp 10) (.tmp 46) rfl rfl w6 _ (row .u8 32 d0) 25 rfl rfl rfl (by kernel_rfl) rfl (row_one _ _ _) ?_; intro w7 hh7 hb7 s7; have HI7 := Lib.hid (F.keep _ _ _ _ HI6.out (hb7.block g (F.lt _ _ _ HI6.out))); have HX7 := Lib.hid ((hb7.block w4.heap.size (by omega)).trans HX6.out); have HY7 := Lib.hid hh7; have B7 := below_next B6 hb7; have g7 := F.lt _ _ _ HI7.out; clear HI6 hh7 hb7 HX6) | (go_at_call 15; refine (F.write _ g bs _ [] (tab_keep HT.out B7 (Nat.le_refl _)) HI7.out (has_nil _) (fun _ => apart_nil _) HBS.out (by simp) (by first | omega | (simp; omega))).mono ?_; rintro e w8 ⟨rfl, hi8, ho8⟩; have HI8 := Lib.hid (show Inv w8 g (bs) from by simpa using hi8); have HX8 := Lib.hid ((ho8.block w4.heap.size (by omega) (by omega)).trans HX7.out); have HY8 := Lib.hid ((ho8.block w6.heap.size (by omega) (by omega)).trans HY7.out); have B8 := ho8.below B7 hgl B7.size; have g8 := F.lt _ _ _ HI8.out; have z8 := ho8.size; clear HI7 hi8 ho8 HX7 HY7) | (go_at_call 16; refine (F.told _ g bs (tab_keep HT.out B8 (Nat.le_refl _)) HI8.out HBS.out (by omega)).mono ?_; rintro e w9 ⟨rfl, hb9⟩; rw [HD.out]; have HI9 := Lib.hid (F.keep _ _ _ _ HI8.out (hb9.block g (F.lt _ _ _ HI8.out))); have HX9 := Lib.hid ((hb9.block w4.heap.size (by omega)).trans HX8.out); have HY9 := Lib.hid ((hb9.block w6.heap.size (by omega)).trans HY8.out); have B9 := below_next B8 hb9; have g9 := F.lt _ _ _ HI9.out; have z9 := hb9.size; clear HI8 hb9 HX8 HY8) | (refine store_new rfl 25 (.tmp 11) (.tmp 50) rfl rfl w9 _ (row .u8 32 d0) 25 rfl rfl rfl (by kernel_rfl) rfl (row_one _ _ _) ?_; intro w10 hh10 hb10 s10; have HI10 := Lib.hid (F.keep _ _ _ _ HI9.out (hb10.block g (F.lt _ _ _ HI9.out))); have HX10 := Lib.hid ((hb10.block w4.heap.size (by omega)).trans HX9.out); have HY10 := Lib.hid ((hb10.block w6.heap.size (by omega)).trans HY9.out); have HZ10 := Lib.hid hh10; have B10 := below_next B9 hb10; have g10 := F.lt _ _ _ HI10.out; clear HI9 hh10 hb10 HX9 HY9) | (go_at_call 15; refine (F.write _ g bs _ cs (tab_keep HT.out B10 (Nat.le_refl _)) HI10.out (has_below HU.out B10) (fun hc => apart_of_has HU.out hgl hc) HBS.out HCS.out (by first | omega | (simp; omega))).mono ?_; rintro e w11 ⟨rfl, hi11, ho11⟩; have HI11 := Lib.hid (show Inv w11 g (bs ++ cs) from by simpa using hi11); have HX11 := Lib.hid ((ho11.block w4.heap.size (by omega) (by omega)).trans HX10.out); have HY11 := Lib.hid ((ho11.block w6.heap.size (by omega) (by omega)).trans HY10.out); have HZ11 := Lib.hid ((ho11.block w9.heap.size (by omega) (by omega)).trans HZ10.out); have B11 := ho11.below B10 hgl B10.size; have g11 := F.lt _ _ _ HI11.out; have z11 := ho11.size; clear HI10 hi11 ho11 HX10 HY10 HZ10))
      have huD := Tryd.underlying25
      have hiD : (Tryd.prog.info? 25).map (·.size) = some (rowL .u8 32 d0).length := by rw [rowL_length]; exact info_d32
      have l4 : w4.heap.size < w11.heap.size := by omega
      have l6 : w6.heap.size < w11.heap.size := by omega
      have l9 : w9.heap.size < w11.heap.size := by omega
      have HS := Lib.hid (show w11.rangeAt w4.heap.size 0 (rowL .u8 32 d0) ∧ w11.rangeAt w6.heap.size 0 (rowL .u8 32 d0) ∧ w11.rangeAt w9.heap.size 0 (rowL .u8 32 d0) ∧ Below w11.heap.size w11 w11 from ⟨range_of_row HX11.out, range_of_row HY11.out, range_of_row HZ11.out, Below.refl _ _⟩)
      obtain ⟨e0, he0⟩ : ∃ d, sumF (bs ++ cs) = d := ⟨_, rfl⟩
      have HE0 := Lib.hid he0
      have hlbc : (bs ++ cs).length ≤ 8000 := by rw [List.length_append]; omega
      clear he0
      refine wp_region_held_drew (S := fun w' => w'.rangeAt w4.heap.size 0 (rowL .u8 32 d0) ∧ w'.rangeAt w6.heap.size 0 (rowL .u8 32 d0) ∧ w'.rangeAt w9.heap.size 0 (rowL .u8 32 d0) ∧ Below w11.heap.size w11 w') (by kernel_rfl) ⟨HS.out.1, HS.out.2.1, HS.out.2.2.1, below_draws HS.out.2.2.2 1⟩ (fun hHeld => ?_)
      refine take_at (i := 0) (v := .bool true) 54 rfl rfl (by kernel_rfl) (by kernel_rfl) (by kernel_rfl) (fun _ _ _ h => h) (sure_yes (by rfl) (fun w => by go_simp)) (by assumption) ?_
      simp only [List.setIfInBounds_toArray, List.set_cons_zero, List.set_cons_succ]
      refine take_at (i := 1) (v := .bool true) 55 rfl rfl (by kernel_rfl) (by kernel_rfl) (by kernel_rfl) (fun _ _ _ h => h) (sure_yes (by rfl) (fun w => by go_simp)) (by assumption) ?_
      simp only [List.setIfInBounds_toArray, List.set_cons_zero, List.set_cons_succ]
      refine take_at (i := 2) 56 rfl rfl (by kernel_rfl) (by kernel_rfl) (by kernel_rfl) (fun _ _ _ h => h) (yieldsIf_load_mid (by rfl) 25 (.tmp 9) rfl (w4.heap.size) 0 rfl (rowL .u8 32 d0) _ (fun _ h => h.1) huD rfl hiD) (by assumption) ?_
      simp only [List.setIfInBounds_toArray, List.set_cons_zero, List.set_cons_succ]
      refine take_at (i := 3) 57 rfl rfl (by kernel_rfl) (by kernel_rfl) (by kernel_rfl) (fun _ _ _ h => h) (yieldsIf_load_mid (by rfl) 25 (.tmp 10) rfl (w6.heap.size) 0 rfl (rowL .u8 32 d0) _ (fun _ h => h.2.1) huD rfl hiD) (by assumption) ?_
      simp only [List.setIfInBounds_toArray, List.set_cons_zero, List.set_cons_succ]
      refine take_at (i := 4) (v := .bool true) 58 rfl rfl (by kernel_rfl) (by kernel_rfl) (by kernel_rfl) (fun _ _ _ h => h) (sure_yes (by rfl) (eql_op rfl rfl rfl (guardLL digestGuard (.tmp 56) (.tmp 57) .u8 32 d0) (eqlLL Tryd.underlying25 Tryd.underlying5 (by kernel_rfl) d0))) (by assumption) ?_
      simp only [List.setIfInBounds_toArray, List.set_cons_zero, List.set_cons_succ]
      refine take_at (i := 5) (v := .bool true) 59 rfl rfl (by kernel_rfl) (by kernel_rfl) (by kernel_rfl) (fun _ _ _ h => h) (sure_yes (by rfl) (fun w => by go_simp)) (by assumption) ?_
      simp only [List.setIfInBounds_toArray, List.set_cons_zero, List.set_cons_succ]
      refine take_at (i := 6) (v := .bool true) 60 rfl rfl (by kernel_rfl) (by kernel_rfl) (by kernel_rfl) (fun _ _ _ h => h) (sure_yes (by rfl) (fun w => by go_simp)) (by assumption) ?_
      simp only [List.setIfInBounds_toArray, List.set_cons_zero, List.set_cons_succ]
      refine take_at (i := 7) 61 rfl rfl (by kernel_rfl) (by kernel_rfl) (by kernel_rfl) (fun _ _ _ h => h) (yieldsIf_load_mid (by rfl) 25 (.tmp 10) rfl (w6.heap.size) 0 rfl (rowL .u8 32 d0) _ (fun _ h => h.2.1) huD rfl hiD) (by assumption) ?_
      simp only [List.setIfInBounds_toArray, List.set_cons_zero, List.set_cons_succ]
      refine take_at (i := 8) 62 rfl rfl (by kernel_rfl) (by kernel_rfl) (by kernel_rfl) (fun _ _ _ h => h) (yieldsIf_load_mid (by rfl) 25 (.tmp 11) rfl (w9.heap.size) 0 rfl (rowL .u8 32 d0) _ (fun _ h => h.2.2.1) huD rfl hiD) (by assumption) ?_
      simp only [List.setIfInBounds_toArray, List.set_cons_zero, List.set_cons_succ]
      refine take_at (i := 9) (v := .bool true) 63 rfl rfl (by kernel_rfl) (by kernel_rfl) (by kernel_rfl) (fun _ _ _ h => h) (sure_yes (by rfl) (eql_op rfl rfl rfl (guardLL digestGuard (.tmp 61) (.tmp 62) .u8 32 d0) (eqlLL Tryd.underlying25 Tryd.underlying5 (by kernel_rfl) d0))) (by assumption) ?_
      simp only [List.setIfInBounds_toArray, List.set_cons_zero, List.set_cons_succ]
      refine take_at (i := 10) (v := .bool true) 64 rfl rfl (by kernel_rfl) (by kernel_rfl) (by kernel_rfl) (fun _ _ _ h => h) (sure_yes (by rfl) (fun w => by go_simp)) (by assumption) ?_
      simp only [List.setIfInBounds_toArray, List.set_cons_zero, List.set_cons_succ]
      refine take_at (i := 11) (v := .bool true) 65 rfl rfl (by kernel_rfl) (by kernel_rfl) (by kernel_rfl) (fun _ _ _ h => h) (sure_yes (by rfl) (fun w => by go_simp)) (by assumption) ?_
      simp only [List.setIfInBounds_toArray, List.set_cons_zero, List.set_cons_succ]
      refine take_at (i := 12) 66 rfl rfl (by kernel_rfl) (by kernel_rfl) (by kernel_rfl) (fun _ _ _ h => h) (yieldsIf_load_mid (by rfl) 25 (.tmp 9) rfl (w4.heap.size) 0 rfl (rowL .u8 32 d0) _ (fun _ h => h.1) huD rfl hiD) (by assumption) ?_
      simp only [List.setIfInBounds_toArray, List.set_cons_zero, List.set_cons_succ]
      refine take_at (i := 13) (v := .slice ao bs.length cap) 67 rfl rfl (by kernel_rfl) (by kernel_rfl) (by kernel_rfl) (fun _ _ _ h => h) (sure_yes (by rfl) (fun w => by go_simp)) (by assumption) ?_
      simp only [List.setIfInBounds_toArray, List.set_cons_zero, List.set_cons_succ]
      refine wpAnyH_ready (rs := [14]) (by kernel_rfl) (by simp) ?_
      refine AllReadyH.cons rfl (fun K hK => ?_) AllReadyH.nil
      go_simp
      go_at_call 10
      refine (F.sum _ _ bs (tab_keep HT.out (below_next B11 hHeld.2.2.2) (Nat.le_refl _)) (has_below HV.out (below_next B11 hHeld.2.2.2)) HBS.out (by omega)).mono ?_
      rintro e w12 ⟨rfl, hb12⟩
      rw [HD.out]
      go_wp2_with fail
      refine hK.out _ _ (range3S_keep l4 l6 l9 hHeld (hb12.mono hHeld.2.2.2.size)) (fun hHeld => ?_)
      clear hK K
      refine take_at (i := 15) (v := .bool true) 69 rfl rfl (by kernel_rfl) (by kernel_rfl) (by kernel_rfl) (fun _ _ _ h => h) (sure_yes (by rfl) (eql_op rfl rfl rfl (guardLV digestGuard (.tmp 66) (.tmp 68) .u8 32 d0) (eqlLV Tryd.underlying25 Tryd.underlying5 (by kernel_rfl) d0))) (by assumption) ?_
      simp only [List.setIfInBounds_toArray, List.set_cons_zero, List.set_cons_succ]
      refine take_at (i := 16) (v := .bool true) 70 rfl rfl (by kernel_rfl) (by kernel_rfl) (by kernel_rfl) (fun _ _ _ h => h) (sure_yes (by rfl) (fun w => by go_simp)) (by assumption) ?_
      simp only [List.setIfInBounds_toArray, List.set_cons_zero, List.set_cons_succ]
      refine take_at (i := 17) (v := .bool true) 71 rfl rfl (by kernel_rfl) (by kernel_rfl) (by kernel_rfl) (fun _ _ _ h => h) (sure_yes (by rfl) (fun w => by go_simp)) (by assumption) ?_
      simp only [List.setIfInBounds_toArray, List.set_cons_zero, List.set_cons_succ]
      refine take_at (i := 18) (v := .pointer (some ⟨g, 0, none⟩)) 72 rfl rfl (by kernel_rfl) (by kernel_rfl) (by kernel_rfl) (fun _ _ _ h => h) (sure_yes (by rfl) (fun w => by go_simp)) (by assumption) ?_
      simp only [List.setIfInBounds_toArray, List.set_cons_zero, List.set_cons_succ]
      refine take_at (i := 21) (v := .slice ao bs.length cap) 75 rfl rfl (by kernel_rfl) (by kernel_rfl) (by kernel_rfl) (fun _ _ _ h => h) (sure_yes (by rfl) (fun w => by go_simp)) (by assumption) ?_
      simp only [List.setIfInBounds_toArray, List.set_cons_zero, List.set_cons_succ]
      refine take_at (i := 23) (v := .slice uo cs.length ucap) 77 rfl rfl (by kernel_rfl) (by kernel_rfl) (by kernel_rfl) (fun _ _ _ h => h) (sure_yes (by rfl) (fun w => by go_simp)) (by assumption) ?_
      simp only [List.setIfInBounds_toArray, List.set_cons_zero, List.set_cons_succ]
      refine wpAnyH_ready (rs := [19, 20]) (by kernel_rfl) (by simp) ?_
      refine AllReadyH.cons rfl (fun K hK => ?_) (AllReadyH.cons rfl (fun K hK => ?_) AllReadyH.nil)
      · skip
        go_simp
        go_at_call 16
        refine (F.told _ g (bs ++ cs) (tab_keep HT.out (below_next B11 hHeld.2.2.2) (Nat.le_refl _)) (F.keep _ _ _ _ HI11.out (hHeld.2.2.2.block g g11)) HBC.out (by omega)).mono ?_
        rintro e w13 ⟨rfl, hb13⟩
        rw [HE0.out]
        go_wp2_with fail
        refine hK.out _ _ (range3S_keep l4 l6 l9 hHeld (hb13.mono hHeld.2.2.2.size)) (fun hHeld => ?_)
        clear hK K
        have hz13 := hHeld.2.2.2.size
        refine wpAnyH_ready (rs := [20]) (by kernel_rfl) (by simp) ?_
        refine AllReadyH.cons rfl (fun K hK => ?_) AllReadyH.nil
        go_simp
        refine hK.out _ _ (range3S_keep l4 l6 l9 hHeld ((Below.refl _ _).alloc hHeld.2.2.2.size _)) (fun hHeld => ?_)
        clear hK K
        have hN := heap_last w13 (.cells #[] 5 (0, 0))
        have hnl : w13.heap.size ≤ (w13.alloc (.cells #[] 5 (0, 0))).heap.size := by simp
        have hnb : w11.heap.size ≤ w13.heap.size := hz13
        refine wpAnyH_ready (rs := [22]) (by kernel_rfl) (by simp) ?_
        refine AllReadyH.cons rfl (fun K hK => ?_) AllReadyH.nil
        refine append_has_wp 76 rfl (by rfl) (.tmp 74) (.tmp 75) 22 rfl (w13.heap.size) 5 i0 Tryd.underlying22 hi hz0 hz1 hz2 _ [] bs rfl ⟨rfl, .inr ⟨_, 0, #[], rfl, Nat.le_refl _, hN, Nat.le_refl _, by decide, rfl, rfl⟩⟩ _ rfl (has_below HV.out (below_next B11 hHeld.2.2.2)) (by simp; omega) hnl ?_
        intro v14 w14 ho14 hg14 hn14
        rw [List.nil_append] at ho14
        refine hK.out _ _ (range3S_keep l4 l6 l9 hHeld (below_grown (Below.refl _ _) hg14 hHeld.2.2.2.size (fun k hk => by cases hk; exact hnb))) (fun hHeld => ?_)
        clear hK K
        simp only [List.setIfInBounds_toArray, List.set_cons_zero, List.set_cons_succ]
        refine wpAnyH_ready (rs := [24]) (by kernel_rfl) (by simp) ?_
        refine AllReadyH.cons rfl (fun K hK => ?_) AllReadyH.nil
        refine append_has_wp 78 rfl (by rfl) (.tmp 76) (.tmp 77) 22 rfl (w13.heap.size) 5 i0 Tryd.underlying22 hi hz0 hz1 hz2 v14 bs cs rfl ho14 _ rfl (has_below HU.out (below_next B11 hHeld.2.2.2)) (by omega) (Nat.le_trans hnl hg14.size) ?_
        intro v15 w15 ho15 hg15 hn15
        refine hK.out _ _ (range3S_keep l4 l6 l9 hHeld (below_grown (Below.refl _ _) hg15 hHeld.2.2.2.size (fun k hk => Nat.le_trans hnb (ho14.lt k hk).1))) (fun hHeld => ?_)
        clear hK K
        simp only [List.setIfInBounds_toArray, List.set_cons_zero, List.set_cons_succ]
        refine wpAnyH_ready (rs := [25]) (by kernel_rfl) (by simp) ?_
        refine AllReadyH.cons rfl (fun K hK => ?_) AllReadyH.nil
        go_simp
        go_at_call 10
        refine (F.sum _ _ (bs ++ cs) (tab_keep HT.out (below_next B11 hHeld.2.2.2) (Nat.le_refl _)) (has_of_own ho15) HBC.out (by omega)).mono ?_
        rintro e w16 ⟨rfl, hb16⟩
        rw [HE0.out]
        go_wp2_with fail
        refine hK.out _ _ (range3S_keep l4 l6 l9 hHeld (hb16.mono hHeld.2.2.2.size)) (fun hHeld => ?_)
        clear hK K
        refine take_at (i := 26) (v := .bool true) 80 rfl rfl (by kernel_rfl) (by kernel_rfl) (by kernel_rfl) (fun _ _ _ h => h) (sure_yes (by rfl) (eql_op rfl rfl rfl (guard_rowV digestGuard (.tmp 73) (.tmp 79) .u8 32 e0 e0) (digestEq e0))) (by assumption) ?_
        simp only [List.setIfInBounds_toArray, List.set_cons_zero, List.set_cons_succ]
        refine take_at (i := 27) (v := .bool true) 81 rfl rfl (by kernel_rfl) (by kernel_rfl) (by kernel_rfl) (fun _ _ _ h => h) (sure_yes (by rfl) (fun w => by go_simp)) (by assumption) ?_
        simp only [List.setIfInBounds_toArray, List.set_cons_zero, List.set_cons_succ]
        refine take_at (i := 28) (v := .bool true) 4 rfl rfl (by kernel_rfl) (by kernel_rfl) (by kernel_rfl) (fun _ _ _ h => h) (sure_yes (by rfl) (fun w => by go_simp)) (by assumption) ?_
        simp only [List.setIfInBounds_toArray, List.set_cons_zero, List.set_cons_succ]
        refine wpAnyH_done (by kernel_rfl) ?_ _
        have BF := below_next B11 hHeld.2.2.2
        go_wp2
        go_ret
        exact ⟨rfl, BF⟩
      · skip
        have hz12 := hHeld.2.2.2.size
        go_simp
        refine hK.out _ _ (range3S_keep l4 l6 l9 hHeld ((Below.refl _ _).alloc hHeld.2.2.2.size _)) (fun hHeld => ?_)
        clear hK K
        refine wpAnyH_ready (rs := [19]) (by kernel_rfl) (by simp) ?_
        refine AllReadyH.cons rfl (fun K hK => ?_) AllReadyH.nil
        go_simp
        go_at_call 16
        refine (F.told _ g (bs ++ cs) (tab_keep HT.out (below_next B11 hHeld.2.2.2) (Nat.le_refl _)) (F.keep _ _ _ _ HI11.out (hHeld.2.2.2.block g g11)) HBC.out (by omega)).mono ?_
        rintro e w13 ⟨rfl, hb13⟩
        rw [HE0.out]
        go_wp2_with fail
        refine hK.out _ _ (range3S_keep l4 l6 l9 hHeld (hb13.mono hHeld.2.2.2.size)) (fun hHeld => ?_)
        clear hK K
        have hN := (hb13.block w12.heap.size (by simp)).trans (heap_last w12 (.cells #[] 5 (0, 0)))
        have hnl : w12.heap.size ≤ w13.heap.size := Nat.le_trans (by simp) hb13.size
        have hnb : w11.heap.size ≤ w12.heap.size := hz12
        refine wpAnyH_ready (rs := [22]) (by kernel_rfl) (by simp) ?_
        refine AllReadyH.cons rfl (fun K hK => ?_) AllReadyH.nil
        refine append_has_wp 76 rfl (by rfl) (.tmp 74) (.tmp 75) 22 rfl (w12.heap.size) 5 i0 Tryd.underlying22 hi hz0 hz1 hz2 _ [] bs rfl ⟨rfl, .inr ⟨_, 0, #[], rfl, Nat.le_refl _, hN, Nat.le_refl _, by decide, rfl, rfl⟩⟩ _ rfl (has_below HV.out (below_next B11 hHeld.2.2.2)) (by simp; omega) hnl ?_
        intro v14 w14 ho14 hg14 hn14
        rw [List.nil_append] at ho14
        refine hK.out _ _ (range3S_keep l4 l6 l9 hHeld (below_grown (Below.refl _ _) hg14 hHeld.2.2.2.size (fun k hk => by cases hk; exact hnb))) (fun hHeld => ?_)
        clear hK K
        simp only [List.setIfInBounds_toArray, List.set_cons_zero, List.set_cons_succ]
        refine wpAnyH_ready (rs := [24]) (by kernel_rfl) (by simp) ?_
        refine AllReadyH.cons rfl (fun K hK => ?_) AllReadyH.nil
        refine append_has_wp 78 rfl (by rfl) (.tmp 76) (.tmp 77) 22 rfl (w12.heap.size) 5 i0 Tryd.underlying22 hi hz0 hz1 hz2 v14 bs cs rfl ho14 _ rfl (has_below HU.out (below_next B11 hHeld.2.2.2)) (by omega) (Nat.le_trans hnl hg14.size) ?_
        intro v15 w15 ho15 hg15 hn15
        refine hK.out _ _ (range3S_keep l4 l6 l9 hHeld (below_grown (Below.refl _ _) hg15 hHeld.2.2.2.size (fun k hk => Nat.le_trans hnb (ho14.lt k hk).1))) (fun hHeld => ?_)
        clear hK K
        simp only [List.setIfInBounds_toArray, List.set_cons_zero, List.set_cons_succ]
        refine wpAnyH_ready (rs := [25]) (by kernel_rfl) (by simp) ?_
        refine AllReadyH.cons rfl (fun K hK => ?_) AllReadyH.nil
        go_simp
        go_at_call 10
        refine (F.sum _ _ (bs ++ cs) (tab_keep HT.out (below_next B11 hHeld.2.2.2) (Nat.le_refl _)) (has_of_own ho15) HBC.out (by omega)).mono ?_
        rintro e w16 ⟨rfl, hb16⟩
        rw [HE0.out]
        go_wp2_with fail
        refine hK.out _ _ (range3S_keep l4 l6 l9 hHeld (hb16.mono hHeld.2.2.2.size)) (fun hHeld => ?_)
        clear hK K
        refine take_at (i := 26) (v := .bool true) 80 rfl rfl (by kernel_rfl) (by kernel_rfl) (by kernel_rfl) (fun _ _ _ h => h) (sure_yes (by rfl) (eql_op rfl rfl rfl (guard_rowV digestGuard (.tmp 73) (.tmp 79) .u8 32 e0 e0) (digestEq e0))) (by assumption) ?_
        simp only [List.setIfInBounds_toArray, List.set_cons_zero, List.set_cons_succ]
        refine take_at (i := 27) (v := .bool true) 81 rfl rfl (by kernel_rfl) (by kernel_rfl) (by kernel_rfl) (fun _ _ _ h => h) (sure_yes (by rfl) (fun w => by go_simp)) (by assumption) ?_
        simp only [List.setIfInBounds_toArray, List.set_cons_zero, List.set_cons_succ]
        refine take_at (i := 28) (v := .bool true) 4 rfl rfl (by kernel_rfl) (by kernel_rfl) (by kernel_rfl) (fun _ _ _ h => h) (sure_yes (by rfl) (fun w => by go_simp)) (by assumption) ?_
        simp only [List.setIfInBounds_toArray, List.set_cons_zero, List.set_cons_succ]
        refine wpAnyH_done (by kernel_rfl) ?_ _
        have BF := below_next B11 hHeld.2.2.2
        go_wp2
        go_ret
        exact ⟨rfl, BF⟩
end Go.Proofs.YtnfklikphkkpoaaDoor
