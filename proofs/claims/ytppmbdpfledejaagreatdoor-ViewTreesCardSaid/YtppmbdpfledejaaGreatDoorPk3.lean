/-
Texts that all claims of this seat share, part 3: ShaFace, Ref03Pad, ShaSmall, ShaWrite, ShaCode, Ref02Walks, Ref02Compress, Ref03Sum.
-/
import Derived.Test.YtppmbdpfledejaaGreatDoorProg
import Derived.WalkKit
import Derived.Lib.Hide
import Derived.WalkSpells
import Derived.WalkLawsBesides
import Derived.Deep.OwnRows
import Derived.StillTailTactics
import Derived.Laws.CopyOwn
import Derived.Deep.QuietTactic
import Derived.BigQuiet
import Derived.Test.YtppmbdpfledejaaGreatDoorPk2
namespace Go.Proofs.YtppmbdpfledejaaGreatDoor
open Go.RowKit
/-- A slice of bytes that does not lie in block g. -/
def Apart (v : Value) (g : Nat) : Prop := ∀ ad len cap, v = .slice (some ad) len cap → ad.block ≠ g
/-- Bytes in older memory lie apart from a newer block. -/
theorem apart_of_has {w : World} {v : Value} {cs : List (BitVec 32)} {g : Nat} (h : HasBytes w v cs) (hg : w.heap.size ≤ g) (hc : cs ≠ []) : Apart v g := by
  intro ad len cap hv
  obtain ⟨ao, cap', rfl, -, hcell⟩ := h
  cases hv
  have hpos : 0 < cs.length := List.length_pos_iff.2 hc
  have h0 := (hcell ad rfl).2 0 _ (bytesL_get cs 0 hpos)
  have h1 := World.block_lt_of_cell? w _ h0
  rw [show (ad.add 0).block = ad.block from by unfold Addr.add; split <;> rfl] at h1
  omega
/-- Of old memory nothing but block g has changed. -/
structure OnlyAt (g : Nat) (w w' : World) : Prop where
  os : w'.os = w.os
  tape : w'.tape = w.tape
  output : w'.output = w.output
  size : w.heap.size ≤ w'.heap.size
  block : ∀ k, k < w.heap.size → k ≠ g → w'.heap[k]? = w.heap[k]?
theorem OnlyAt.below {g B : Nat} {w0 w w' : World} (h : OnlyAt g w w') (hb : Below B w0 w) (hg : B ≤ g) (hB : B ≤ w.heap.size) : Below B w0 w' :=
  ⟨h.os.trans hb.os, h.tape.trans hb.tape, h.output.trans hb.output, Nat.le_trans hb.size h.size, fun k hk => (h.block k (Nat.lt_of_lt_of_le hk hB) (by omega)).trans (hb.block k hk)⟩
end Go.Proofs.YtppmbdpfledejaaGreatDoor
namespace Go.Proofs.YtppmbdpfledejaaGreatDoor
open Go.RowKit
theorem infoByte03 : (Tryz.prog.info? 5).map (fun i => (i.zero, i.size, i.bytes)) = some (some (.int .u8 0), 1, 1) := by kernel_rfl
set_option maxRecDepth 100000 in
set_option maxHeartbeats 2000000 in
theorem refPad_any (n : Nat) (hn : n ≤ 1099511627776) (w : World) :
    Calls Tryz.prog 64 #[.int .i64 n] w fun e w' => ∃ v, e = .returned v ∧ w'.ownsRow w.heap.size 5 1 v (padB n).length (bytesL (padB n)) ∧ Below w.heap.size w w' := by
  obtain ⟨i0, hi, hz0, hz1, hz2⟩ := info_parts infoByte03
  have hz := padZeros_lt n
  go_enter Tryz.func64, Tryz.ntmps64
  go_wp2
  go_loopw [3] (fun v wr => ∃ j : Nat, j ≤ padZeros n ∧ (∃ g cap, v = .slice (some ⟨g, 0, none⟩) (j + 1) cap) ∧ wr.ownsRow w.heap.size 5 1 v (j + 1) (bytesL (padHead j)) ∧ Below w.heap.size w wr) (fun v _ => match v with | .slice _ l _ => 100 - l | _ => 0)
  case atStart =>
    refine ⟨0, by omega, ⟨_, _, rfl⟩, ⟨rfl, .inr ⟨_, 1, _, rfl, Nat.le_refl _, heap_last w _, Nat.le_refl _, by decide, rfl, rfl⟩⟩, (Below.refl _ _).alloc (Nat.le_refl _) _⟩
  case round =>
    obtain ⟨j, hj, ⟨g, cap, rfl⟩, hown, hb⟩ := hrel
    have hbs := hb.size
    by_cases hlt : j < padZeros n
    · have ht := padZeros_not n j hlt
      have ht2 : ((n : Int) + ((j : Int) + 1) + 8) % 64 ≠ 0 := by omega
      have HO := Lib.hid hown
      clear ht hown
      go_wp2_with (first | (at_builtin; refine wpList_append_own _ rfl (.tmp 22) (.tmp 23) 43 rfl w.heap.size 5 i0 (.int .u8 0) 1 1 Tryz.underlying43 hi hz0 hz1 hz2 rfl (by decide) _ _ _ rfl (HO.out.alloc _) ⟨wr.heap.size, 0, none⟩ 1 1 [.int .u8 0] rfl rfl (new_one _ _ _) (one_int _ _) (by unfold maxLen; omega) (by omega) (by simp; omega) ?_; intro v' w1 hown' hgrow hnil; clear hnil))
      obtain ⟨g', cap', cur, rfl, -⟩ := own_shape hown' (by omega)
      go_roundw
      case rel => exact ⟨j + 1, by omega, ⟨_, _, rfl⟩, by rw [padHead_succ, bytesL_append]; exact hown', below_grown (hb.alloc hb.size _) hgrow (by simp; omega) fun k hk => (HO.out.lt k hk).1⟩
      case measure => simp; omega
    · obtain rfl : j = padZeros n := by omega
      have ht2 : ((n : Int) + ((padZeros n : Int) + 1) + 8) % 64 = 0 := by have := padZeros_end n; omega
      have HT := Lib.hid (show decide (((n : Int) + ((padZeros n : Int) + 1) + 8) % 64 = 0) = true from decide_eq_true ht2)
      have HO := Lib.hid hown
      have HB := Lib.hid hb
      clear hown hb
      go_wp2
      go_loopw [3, 5] (fun v c wr => ∃ i : Nat, i ≤ 8 ∧ c = .int .i64 i ∧ (∃ g cap, v = .slice (some ⟨g, 0, none⟩) (padZeros n + 1 + i) cap) ∧ wr.ownsRow w.heap.size 5 1 v (padZeros n + 1 + i) (bytesL (padUpTo n i)) ∧ Below w.heap.size w wr) (fun _ c _ => 8 - (intOf c).toNat)
      case atStart => exact ⟨0, by omega, rfl, ⟨_, _, rfl⟩, by rw [padUpTo_zero]; exact HO.out, HB.out⟩
      case round =>
        clear HO HB HT ht2 hbs hlt hj
        obtain ⟨i, hi8, rfl, ⟨g, cap, rfl⟩, hown, hb⟩ := hrel
        have hbs := hb.size
        have HO := Lib.hid hown
        clear hown
        by_cases hlt : i < 8
        · go_wp2
          go_loop [6, 7] (fun x c => ∃ k : Nat, i ≤ k ∧ k ≤ 7 ∧ c = .int .i64 k ∧ x = .int .i64 ((8 * n / 256 ^ (k - i) : Nat) : Int)) (fun _ c => 8 - (intOf c).toNat)
          case atStart => exact ⟨i, by omega, by omega, rfl, by simp⟩
          case round =>
            obtain ⟨k, hk1, hk2, rfl, rfl⟩ := hrel
            have hy : 8 * n / 256 ^ (k - i) ≤ 8796093022208 := Nat.le_trans (Nat.div_le_self _ _) (by omega)
            by_cases hk7 : k < 7
            · obtain ⟨y, hy2⟩ : ∃ y, y = 8 * n / 256 ^ (k - i) := ⟨_, rfl⟩
              rw [← hy2] at hy ⊢
              have HY := Lib.hid hy2
              clear hy2
              go_wp2
              go_round
              case rel =>
                refine ⟨k + 1, by omega, by omega, by go_num, ?_⟩
                rw [show k + 1 - i = (k - i) + 1 from by omega, Nat.pow_succ, ← Nat.div_div_eq_div_mul, ← HY.out]; simp
              case measure => simp [intOf]; omega
            · obtain rfl : k = 7 := by omega
              obtain ⟨y, hy2⟩ : ∃ y, y = 8 * n / 256 ^ (7 - i) := ⟨_, rfl⟩
              rw [← hy2] at hy ⊢
              have HY := Lib.hid hy2
              clear hy2
              go_wp2_with (first | (at_builtin; refine wpList_append_own _ rfl (.tmp 39) (.tmp 43) 43 rfl w.heap.size 5 i0 (.int .u8 0) 1 1 Tryz.underlying43 hi hz0 hz1 hz2 rfl (by decide) _ _ _ rfl (HO.out.alloc _) ⟨wr.heap.size, 0, none⟩ 1 1 [.int .u8 ((y : Int) % 256)] rfl rfl (new_one _ _ _) (one_int _ _) (by unfold maxLen; omega) (by omega) (by simp; omega) ?_; intro v' w1 hown' hgrow hnil; clear hnil))
              obtain ⟨g', cap', cur, rfl, -⟩ := own_shape hown' (by omega)
              go_roundw
              case rel =>
                refine ⟨i + 1, by omega, by go_num, ⟨_, _, rfl⟩, ?_, below_grown (hb.alloc hb.size _) hgrow (by simp; omega) fun k hk => (HO.out.lt k hk).1⟩
                rw [padUpTo_succ, bytesL_append, show bytesL [lenByte n i] = [.int .u8 ((y : Int) % 256)] from by simp [bytesL, u32_lenByte, HY.out]]; exact hown'
              case measure => simp [intOf]; omega
        · obtain rfl : i = 8 := by omega
          go_wp2
          go_ret
          exact ⟨_, rfl, by rw [padB_length]; exact HO.out, hb⟩
end Go.Proofs.YtppmbdpfledejaaGreatDoor
namespace Go.Proofs.YtppmbdpfledejaaGreatDoor
open Go.RowKit
set_option maxRecDepth 100000 in
theorem made_row (m : Nat) : madeCells #[.int .u8 0] m = row .u8 m fun _ => 0#32 := by
  apply Array.ext_getElem?
  intro i
  by_cases h : i < m <;> simp [madeCells, row, Nat.mod_one, h, u32]
set_option maxRecDepth 100000 in
theorem pow8 (k : Nat) : (2 : Int) ^ (8 * k) = ((256 ^ k : Nat) : Int) := by
  rw [show (256 : Nat) ^ k = 2 ^ (8 * k) from by rw [Nat.pow_mul]]; simp
/-- What stands behind n bytes, with k of its last eight bytes. -/
def padF (n z k i : Nat) : BitVec 32 := if i = 0 then 128#32 else if z + 9 - k ≤ i then lenByte n (i - (z + 1)) else 0#32
set_option maxRecDepth 100000 in
theorem padF_zero (n z : Nat) : (row .u8 (z + 9) fun _ => 0#32).setIfInBounds 0 (.int .u8 128) = row .u8 (z + 9) (padF n z 0) :=
  row_set_to .u8 (z + 9) _ _ 0 128#32 fun j hj => by unfold padF; by_cases h : j = 0 <;> simp [h]; omega
set_option maxRecDepth 100000 in
theorem padF_set (n z k : Nat) (hk : k < 8) : (row .u8 (z + 9) (padF n z k)).setIfInBounds (z + 8 - k) (.int .u8 (u32 (lenByte n (7 - k)))) = row .u8 (z + 9) (padF n z (k + 1)) :=
  row_set_to .u8 (z + 9) _ _ _ _ fun j hj => by
    unfold padF
    by_cases h : j = z + 8 - k
    · rw [if_pos h, if_neg (by omega), if_pos (by omega)]; congr 1; omega
    · rw [if_neg h]
      by_cases h0 : j = 0
      · rw [if_pos h0, if_pos h0]
      · rw [if_neg h0, if_neg h0]
        by_cases h1 : z + 9 - k ≤ j
        · rw [if_pos h1, if_pos (by omega)]
        · rw [if_neg h1, if_neg (by omega)]
set_option maxRecDepth 100000 in
theorem padF_full (n j : Nat) (hj : j < padZeros n + 9) : padF n (padZeros n) 8 j = (padB n).getD j 0#32 := by
  unfold padF padB padUpTo padHead
  rw [List.getD_eq_getElem?_getD]
  by_cases h0 : j = 0
  · subst h0; simp
  · rw [if_neg h0]
    by_cases h1 : padZeros n + 9 - 8 ≤ j
    · rw [if_pos h1, List.getElem?_append_right (by simp; omega)]
      have : j - (padZeros n + 1) < 8 := by omega
      simp [this]
    · rw [if_neg h1, List.getElem?_append_left (by simp; omega)]
      obtain ⟨i, rfl⟩ : ∃ i, j = i + 1 := ⟨j - 1, by omega⟩
      have : i < padZeros n := by omega
      simp [this]
set_option maxRecDepth 100000 in
theorem has_row {w : World} {g : Nat} {t : TypeId} {m : Nat} {f : Nat → BitVec 32} (e : w.heap[g]? = some (.cells (row .u8 m f) t (0, 0))) (bs : List (BitVec 32)) (hl : bs.length = m) (h : ∀ j, j < m → f j = bs.getD j 0#32) : HasBytes w (.slice (some ⟨g, 0, none⟩) m m) bs := by
  subst hl
  refine ⟨some ⟨g, 0, none⟩, bs.length, rfl, (fun h => by cases h), fun ad had => ⟨Nat.le_refl _, fun j u hu => ?_⟩⟩
  cases had
  have hj : j < bs.length := by have := (List.getElem?_eq_some_iff.1 hu).1; rwa [bytesL_length] at this
  rw [Addr.add_lit, Nat.zero_add, cell_of_row _ _ _ _ _ _ e, row_get _ _ _ _ hj, h j hj, ← hu, bytesL_get _ _ hj]
set_option maxRecDepth 100000 in
/-- Pad, within the bounds: the bytes behind n bytes, in a row of its own. -/
theorem pad_any (n : Nat) (hn : n ≤ 1099511627776) (w : World) :
    Calls Tryz.prog 108 #[.int .i64 n] w fun e w' => ∃ v, e = .returned v ∧ HasBytes w' v (padB n) ∧ Below w.heap.size w w' ∧ ∀ g, g < w.heap.size → Apart v g := by
  obtain ⟨i0, hi, hz0, hz1, hz2⟩ := info_parts infoByte03
  obtain ⟨o, ho⟩ : ∃ o : Nat, o = (n + 9) % 64 := ⟨_, rfl⟩
  have e1 : ((n : Int) + 9).tmod 64 = (o : Int) := by rw [Int.tmod_eq_emod_of_nonneg (by omega)]; omega
  have ho64 : (o : Int) < 64 := by omega
  obtain ⟨z, hz⟩ : ∃ z : Nat, z = padZeros n := ⟨_, rfl⟩
  have hz' : z = (64 - o) % 64 := by rw [hz]; unfold padZeros; omega
  have e2 : ((64 : Int) - (o : Int)).tmod 64 = (z : Int) := by rw [Int.tmod_eq_emod_of_nonneg (by omega)]; omega
  have hz64 : (z : Int) < 64 := by omega
  obtain ⟨m, hm⟩ : ∃ m : Nat, m = z + 9 := ⟨_, rfl⟩
  have e3 : (9 : Int) + (z : Int) = (m : Int) := by omega
  have hm9 : (9 : Int) ≤ (m : Int) := by omega
  have hm73 : (m : Int) < 73 := by omega
  have HZ := Lib.hid (And.intro hz hm)
  clear hz hz' ho hm
  go_enter Tryz.func108, Tryz.ntmps108
  go_wp2_with (first | (at_make; refine wpList_make_row _ rfl (.tmp 20) (.tmp 20) 43 rfl 5 i0 (.int .u8 0) Tryz.underlying43 hi hz0 hz1 rfl .i64 .i64 m rfl rfl (by rw [hz2]; omega) (by omega) ?_; have H1 := heap_last w (.cells (madeCells #[.int .u8 0] m) 5 (0, 0)); have B1 := (Below.refl w.heap.size w).alloc (Nat.le_refl _) (.cells (madeCells #[.int .u8 0] m) 5 (0, 0)); generalize w.alloc (.cells (madeCells #[.int .u8 0] m) 5 (0, 0)) = w1 at *; rw [made_row] at H1; have HH1 := Lib.hid H1; have HB1 := Lib.hid B1; clear H1 B1) | (refine store_cell rfl 5 (.tmp 23) (.const (.int .u8 128)) rfl rfl .u8 w.heap.size 0 _ _ _ HH1.out rfl rfl (by rw [row_size]; omega) (by kernel_rfl) ?_; intro w2 hg2 hs2; have HH2 := Lib.hid hg2; have HS2 := Lib.hid hs2; clear HH1 hg2 hs2))
  have hg2 : w2.heap[w.heap.size]? = some (.cells (row .u8 m (padF n z 0)) 5 (0, 0)) := by
    rw [HH2.out, HZ.out.2, padF_zero]
  have hb2 : Below w.heap.size w w2 := HB1.out.trans ⟨HS2.out.os, HS2.out.tape, HS2.out.output, Nat.le_of_eq HS2.out.size.symm, fun k hk => HS2.out.block k (by omega)⟩
  have HG2 := Lib.hid hg2
  have HB2 := Lib.hid hb2
  clear HH2 HS2 HB1 hg2 hb2
  go_loopw [6, 24] (fun _ c wr => ∃ k : Nat, k ≤ 8 ∧ c = .int .i64 k ∧ wr.heap[w.heap.size]? = some (.cells (row .u8 m (padF n z k)) 5 (0, 0)) ∧ Below w.heap.size w wr) (fun _ c _ => 8 - (intOf c).toNat)
  case atStart => exact ⟨0, by omega, rfl, HG2.out, HB2.out⟩
  case round =>
    clear HG2 HB2
    obtain ⟨k, hk, rfl, hg, hb⟩ := hrel
    by_cases hlt : k < 8
    · have HG := Lib.hid hg
      have HB := Lib.hid hb
      have q8 : (k : Int) < 8 := by omega
      obtain ⟨N, hN⟩ : ∃ N : Nat, N = 8 * n := ⟨_, rfl⟩
      obtain ⟨s, hs⟩ : ∃ s : Nat, s = 8 * k := ⟨_, rfl⟩
      obtain ⟨j, hj⟩ : ∃ j : Nat, j = z + 8 - k := ⟨_, rfl⟩
      have hm := HZ.out.2
      have e4 : (8 : Int) * (n : Int) = (N : Int) := by omega
      have e5 : (m : Int) - 1 - (k : Int) = (j : Int) := by omega
      have e6 : (8 : Int) * (k : Int) = (s : Int) := by omega
      have hN' : (N : Int) ≤ 8796093022208 := by omega
      have hs' : (s : Int) < 64 := by omega
      have hj' : (j : Int) < (m : Int) := by omega
      have HN := Lib.hid (And.intro hm hj)
      have HV := Lib.hid (show (N : Int) / 2 ^ s % 256 = Go.Proofs.YtppmbdpfledejaaGreatDoor.u32 (lenByte n (7 - k)) by
        rw [u32_lenByte, show 7 - (7 - k) = k from by omega, hN, hs, pow8 k]; generalize 256 ^ k = q; simp)
      clear hg hb hN hs hj hm
      go_wp2_with (first | (refine store_cell rfl 5 (.tmp 39) (.tmp 38) rfl rfl .u8 w.heap.size j _ _ _ HG.out rfl rfl (by rw [row_size]; omega) (by kernel_rfl) ?_; intro w3 hg3 hs3; have HG3 := Lib.hid hg3; have HS3 := Lib.hid hs3; clear hg3 hs3))
      go_roundw
      case rel =>
        have hs := HS3.out
        refine ⟨k + 1, by omega, by go_num, ?_, HB.out.trans ⟨hs.os, hs.tape, hs.output, Nat.le_of_eq hs.size.symm, fun k hk => hs.block k (by omega)⟩⟩
        rw [HG3.out, HV.out, HN.out.1, HN.out.2, padF_set n z k hlt]
      case measure => simp [intOf]; omega
    · obtain rfl : k = 8 := by omega
      have hv := has_row hg (padB n) (by rw [padB_length, HZ.out.2, HZ.out.1]) (fun j hj => by rw [HZ.out.1]; exact padF_full n j (by rw [← HZ.out.1, ← HZ.out.2]; exact hj))
      clear hg
      go_wp2
      go_ret
      exact ⟨_, rfl, hv, hb, fun g hg ad l c e => by cases e; exact Nat.ne_of_gt hg⟩
set_option maxRecDepth 100000 in
theorem firstV_row : firstV = .agg (row .u32 8 firstF) := rfl
set_option maxRecDepth 100000 in
theorem built_new : Tryz.prog.built 168 [(0, .agg (row .u32 8 firstF))] = some (stC firstF (fun _ => 0#32) 0).toArray := by kernel_rfl
set_option maxRecDepth 100000 in
theorem new_any (w : World) : Calls Tryz.prog 76 #[] w fun e w' => ∃ g, e = .returned (.pointer (some ⟨g, 0, none⟩)) ∧ w.heap.size ≤ g ∧ Holds 168 w' g [] ∧ Below w.heap.size w w' := by
  go_enter Tryz.func76, Tryz.ntmps76
  go_wp2_with (first | (go_at_call 106; refine (first_any w).mono ?_; rintro e w1 ⟨rfl, rfl⟩; rw [firstV_row]) | (refine build_as rfl 168 #[(0, .tmp 1)] rfl _ _ built_new (by simp [Act.eval]) ?_))
  go_ret
  have B0 := (Below.refl w.heap.size w).alloc (Nat.le_refl _) firstO
  exact ⟨w.heap.size + 1, rfl, Nat.le_succ _, ⟨fun _ => 0#32, by rw [show wordsF [] (([] : List (BitVec 32)).length / 64) = firstF from wordsF_zero []]; exact alloc2_1 w _ _, fun i hi => absurd hi (Nat.not_lt_zero _)⟩, B0.alloc B0.size _⟩
end Go.Proofs.YtppmbdpfledejaaGreatDoor
namespace Go.Proofs.YtppmbdpfledejaaGreatDoor
open Go.RowKit
theorem infoU8 : (Tryz.prog.info? 5).map (·.size) = some 1 := by kernel_rfl
theorem slice64 (g r : Nat) (hr : (r : Int) < 64) : ∀ w, (Instr.sliceAt 121 (.pointer (some ⟨g, 8, none⟩)) (some (.int .i64 r)) none none).run Tryz.prog w = .ok (.slice (some ⟨g, 8 + r, none⟩) (64 - r) (64 - r)) w := by
  intro w
  have hl : Tryz.prog.arrayLen 121 = 64 := by kernel_rfl
  have he : Tryz.prog.elem 121 = 5 := by kernel_rfl
  have hc : Tryz.prog.cellsOf 5 = 1 := by kernel_rfl
  obtain ⟨inf, hinf⟩ : ∃ inf, Tryz.prog.info? 5 = some inf := info_of Tryz.underlying5
  rw [run_sliceAt_array_l w 121 _ (by kernel_rfl) .i64 r (by omega) (by rw [hl]; omega), he, hl, run_sizeOf w hinf, hc]
  have e : ¬ 64 = r := by omega
  have ha : (⟨g, 8, none⟩ : Addr).add r = ⟨g, 8 + r, none⟩ := by unfold Addr.add; split <;> simp_all
  simp [slicedAt, e, ha]
theorem OnlyAt.solo {g : Nat} {w w1 w2 : World} (h : OnlyAt g w w1) (k : Solo g w1 w2) : OnlyAt g w w2 :=
  ⟨k.os.trans h.os, k.tape.trans h.tape, k.output.trans h.output, by rw [k.size]; exact h.size, fun j hj hne => (k.block j hne).trans (h.block j hj hne)⟩
theorem OnlyAt.drew {g : Nat} {w w1 : World} (h : OnlyAt g w w1) : OnlyAt g w w1.drew := ⟨h.os, h.tape, h.output, h.size, h.block⟩
theorem OnlyAt.more {g : Nat} {w w1 w2 : World} (h : OnlyAt g w w1) (k : Below w1.heap.size w1 w2) : OnlyAt g w w2 :=
  ⟨k.os.trans h.os, k.tape.trans h.tape, k.output.trans h.output, Nat.le_trans h.size k.size, fun j hj hne => (k.block j (Nat.lt_of_lt_of_le hj h.size)).trans (h.block j hj hne)⟩
theorem Solo.trans {g : Nat} {w w1 w2 : World} (h : Solo g w w1) (k : Solo g w1 w2) : Solo g w w2 :=
  ⟨k.os.trans h.os, k.tape.trans h.tape, k.output.trans h.output, k.size.trans h.size, fun j hne => (k.block j hne).trans (h.block j hne)⟩
/-- The bytes behind the first n of a slice, at an address named by the cut. -/
theorem cut_slice {P : Program} {t e : TypeId} (ht : P.underlying t = some (.slice e)) (he : (P.info? e).map (·.size) = some 1) (ad : Addr) (len cap n : Nat) (hn : n ≤ len) (hc : len ≤ cap) :
    ∃ ad', (n < len → ad' = ad.add n) ∧ ∀ w, (Instr.sliceAt t (.slice (some ad) len cap) (some (.int .i64 n)) none none).run P w = .ok (.slice (some ad') (len - n) (cap - n)) w := by
  have hel : P.elem t = e := by simp [Program.elem, ht]
  obtain ⟨inf, hinf, hs⟩ : ∃ inf, P.info? e = some inf ∧ inf.size = 1 := by
    cases h : P.info? e with
    | none => simp [h] at he
    | some i => exact ⟨i, rfl, by simpa [h] using he⟩
  have hce : P.cellsOf e = 1 := by simp [Program.cellsOf, hinf, hs]
  refine ⟨if cap = n then ad else ad.add n, fun h => if_neg (by omega), fun w => ?_⟩
  have hsl : P.underlying t = some (.slice (P.elem t)) := by rw [hel]; exact ht
  rw [run_sliceAt_slice _ _ _ _ _ _ hsl, run_slice_l _ _ _ _ _ hsl _ _ (by omega) (by omega), hel, run_sizeOf w hinf, hce]
  by_cases h : cap = n <;> simp [sliced, h]
theorem add_add (ad : Addr) (n j : Nat) : (ad.add n).add j = ad.add (n + j) := by
  unfold Addr.add
  by_cases h : n = 0
  · subst h; simp
  · by_cases h2 : j = 0
    · subst h2; simp [h]
    · simp [h, h2, Nat.add_assoc]
theorem drop_cells {w : World} {ad : Addr} {D : List (BitVec 32)} {n : Nat} (h : ∀ j u, (bytesL D)[j]? = some u → w.cell? (ad.add j) = some u) : ∀ j u, (bytesL (D.drop n))[j]? = some u → w.cell? ((ad.add n).add j) = some u := by
  intro j u hu
  rw [add_add]
  refine h (n + j) u ?_
  rw [← hu]
  simp [bytesL, List.getElem?_drop]
/-- What is left of the bytes, behind whatever has changed in block g alone. -/
theorem rest_has {wr w2 : World} {g n cap : Nat} {ad ad' : Addr} {D : List (BitVec 32)} (hc : ∀ j u, (bytesL D)[j]? = some u → wr.cell? (ad.add j) = some u) (hap : D ≠ [] → Apart (.slice (some ad) D.length cap) g) (hn : n ≤ D.length) (hcap : D.length ≤ cap)
    (had : n < D.length → ad' = ad.add n) (hk : ∀ k, k < wr.heap.size → k ≠ g → w2.heap[k]? = wr.heap[k]?) :
    HasBytes w2 (.slice (some ad') (D.length - n) (cap - n)) (D.drop n) ∧ (D.drop n ≠ [] → Apart (.slice (some ad') (D.length - n) (cap - n)) g) := by
  have hblk : ∀ m, (ad.add m).block = ad.block := fun m => by unfold Addr.add; split <;> rfl
  refine ⟨⟨some ad', cap - n, by rw [List.length_drop], (fun h => by cases h), fun a ha => ⟨by rw [List.length_drop]; omega, fun j u hu => ?_⟩⟩, fun hne a l c e => ?_⟩
  · cases ha
    have hj : j < D.length - n := by have := (List.getElem?_eq_some_iff.1 hu).1; rwa [bytesL_length, List.length_drop] at this
    rw [had (by omega)]
    have h1 := drop_cells hc j u hu
    rw [add_add] at h1 ⊢
    have h2 := World.block_lt_of_cell? wr _ h1
    have h3 : (ad.add (n + j)).block ≠ g := by
      rw [hblk]; exact hap (fun h => by rw [h] at hj; simp at hj) ad _ _ rfl
    exact (World.cell?_of_block (hk _ h2 h3)).trans h1
  · cases e
    have hn2 : n < D.length := by
      rcases Nat.lt_or_ge n D.length with h | h
      · exact h
      · exact absurd (List.drop_eq_nil_of_le h) hne
    rw [had hn2, hblk]
    exact hap (fun h => by rw [h] at hn2; simp at hn2) ad _ _ rfl
theorem infoWords : (Tryz.prog.info? 120).map (·.size) = some 8 := by kernel_rfl
theorem infoBlock : (Tryz.prog.info? 121).map (·.size) = some 64 := by kernel_rfl
/-- The table of the constants is no Hash. -/
theorem tab_apart {w : World} {g : Nat} {t : TypeId} {h p : Nat → BitVec 32} {n : Nat} (tab : Tab w) (e : w.heap[g]? = some (.cells (stC h p n).toArray t (0, 0))) : 0 ≠ g := by
  intro he
  have h1 := tab 8 (by omega)
  rw [he, cell_of_row w g 8 _ _ _ e, List.getElem?_toArray, stC_byte h p n 0 (by omega)] at h1
  cases h1
theorem tab_only {w w' : World} {g : Nat} (tab : Tab w) (ho : OnlyAt g w w') (hne : 0 ≠ g) : Tab w' := fun i hi => by
  rw [cell_same (ho.block 0 (tab_lt tab) hne)]; exact tab i hi
set_option maxRecDepth 100000 in
set_option maxHeartbeats 2000000 in
theorem write_any (w : World) (g : Nat) (bs cs : List (BitVec 32)) (v : Value) (tab : Tab w) (hi : Holds 168 w g bs) (hv : HasBytes w v cs) (hap : cs ≠ [] → Apart v g) (hlen : bs.length + cs.length ≤ 2199023255552) :
    Calls Tryz.prog 77 #[.pointer (some ⟨g, 0, none⟩), v] w fun e w' => e = .returned (.tuple #[]) ∧ Holds 168 w' g (bs ++ cs) ∧ OnlyAt g w w' := by
  have HT := Lib.hid tab
  have HI := Lib.hid hi
  have HV := Lib.hid hv
  have HNE := Lib.hid (show 0 ≠ g from by obtain ⟨p, hp, -⟩ := hi; exact tab_apart tab hp)
  clear tab hi hv
  go_enter Tryz.func77, Tryz.ntmps77
  go_wp2
  go_loopw [1, 4] (fun u _ wr => ∃ A D, A ++ D = bs ++ cs ∧ Holds 168 wr g A ∧ HasBytes wr u D ∧ (D ≠ [] → Apart u g) ∧ OnlyAt g w wr) (fun u _ _ => match u with | .slice _ l _ => l | _ => 0)
  case atStart => exact ⟨bs, cs, rfl, HI.out, HV.out, hap, ⟨rfl, rfl, rfl, Nat.le_refl _, fun _ _ _ => rfl⟩⟩
  case round =>
    clear HI HV hap
    obtain ⟨A, D, hAD, hi, hv, hap, ho⟩ := hrel
    obtain ⟨ao, cap, rfl, hnil, hc⟩ := hv
    have hAl : A.length + D.length ≤ 2199023255552 := by rw [← List.length_append, hAD, List.length_append]; exact hlen
    cases ao with
    | none =>
      obtain ⟨rfl, rfl⟩ := hnil rfl
      have HI := Lib.hid hi
      clear hi hc
      go_wp2
      refine bodyPost_end (results_none rfl _ _ _) rfl ⟨rfl, ?_, ho⟩
      rw [← hAD, List.append_nil]; exact HI.out
    | some ad =>
      obtain ⟨hcap, hcell⟩ := hc ad rfl
      by_cases hm : D.length = 0
      · have HI := Lib.hid hi
        clear hi hc hcell
        go_wp2
        refine bodyPost_end (results_none rfl _ _ _) rfl ⟨rfl, ?_, ho⟩
        rw [← hAD, List.eq_nil_of_length_eq_zero hm, List.append_nil]; exact HI.out
      · obtain ⟨p, hh, hp⟩ := hi
        obtain ⟨r, hr⟩ : ∃ r : Nat, r = A.length % 64 := ⟨_, rfl⟩
        have er : (A.length : Int).tmod 64 = (r : Int) := by rw [Int.tmod_eq_emod_of_nonneg (by omega)]; omega
        have hr64 : (r : Int) < 64 := by omega
        have hm0 : (0 : Int) < (D.length : Int) := by omega
        have cl := cell_len hh
        have hsl := slice64 g r hr64
        have HH := Lib.hid hh
        have HP := Lib.hid hp
        have HC := Lib.hid hcell
        have HR := Lib.hid hr
        clear hh hp hcell hc hm hr
        go_wp2
        go_still_tail 10, (by kernel_rfl)
        change wpList _ _ _ _ _ wr.drew
        obtain ⟨n, hn⟩ : ∃ n : Nat, n = Nat.min D.length (64 - r) := ⟨_, rfl⟩
        have hn' : n ≤ D.length ∧ n ≤ 64 - r ∧ 0 < n := by rw [show Nat.min D.length (64 - r) = min D.length (64 - r) from rfl] at hn; omega
        obtain ⟨ad', had', hcut⟩ := cut_slice Tryz.underlying43 infoU8 ad D.length cap n hn'.1 hcap
        have hXl : (D.take n).length = n := by rw [List.length_take]; omega
        have hD : A ++ D.take n ++ D.drop n = bs ++ cs := by rw [List.append_assoc, List.take_append_drop]; exact hAD
        have HH' := Lib.hid (show wr.drew.heap[g]? = _ from HH.out)
        have HS := Lib.hid (show ∀ j u, (bytesL (D.take n))[j]? = some u → wr.drew.cell? (ad.add j) = some u from fun j u hu => HC.out j u (by
          have : j < n := by have := (List.getElem?_eq_some_iff.1 hu).1; rwa [bytesL_length, hXl] at this
          rw [← hu]; simp [bytesL, this]))
        clear cl hsl
        refine copy_in rfl (.tmp 18) (.tmp 19) 43 43 rfl 5 Tryz.underlying43 infoU8 g (8 + r) _ _ _ _ _ rfl rfl _ _ HH'.out (bytesL (D.take n)) n (by rw [bytesL_length, hXl]) hn HS.out (by rw [bytesL_length, hXl, stC_length]; omega) (bytesL_one _) ?_
        intro w1 hg1 hs1
        rw [stC_copy _ _ _ _ _ (by rw [hXl]; omega)] at hg1
        obtain ⟨L1, hL1⟩ : ∃ L1 : Nat, L1 = A.length + n := ⟨_, rfl⟩
        obtain ⟨r1, hr1⟩ : ∃ r1 : Nat, r1 = L1 % 64 := ⟨_, rfl⟩
        have e0 := wrap_at ((A.length : Int) + (n : Int)) L1 (by omega) (by omega)
        have er1 : (L1 : Int).tmod 64 = (r1 : Int) := by rw [Int.tmod_eq_emod_of_nonneg (by omega)]; omega
        have c1 := cell_len hg1
        have HG1 := Lib.hid hg1
        have HL := Lib.hid (And.intro hn' (And.intro hL1 hr1))
        have ho1 := ho.drew.solo hs1
        have HW := Lib.hid (And.intro hs1 ho1)
        have HD := Lib.hid (And.intro hD (And.intro hXl had'))
        clear hg1 hs1 ho1 hn hL1 hr1 hn' hXl HH' HS hAD hD had'
        go_wp2_with (first | (refine store_cell rfl 2 (.tmp 31) (.tmp 29) rfl rfl .i64 g 72 _ _ _ HG1.out rfl rfl (by simp [stC_length]) (by kernel_rfl) ?_; intro w2 hg2 hs2; rw [stC_set] at hg2; have c2 := cell_len hg2; have HG2 := Lib.hid hg2; have HW2 := Lib.hid (And.intro (HW.out.1.trans hs2) (HW.out.2.solo hs2)); clear HG1 c1 hg2 hs2 HW))
        · rename_i h0
          have h0 : r1 = 0 := by simpa using h0
          have HR0 := Lib.hid (range_words (w := w2.drew) HG2.out)
          have HR1 := Lib.hid (range_bytes (w := w2.drew) HG2.out)
          have HT2 := Lib.hid (tab_only HT.out HW2.out.2.drew HNE.out)
          have hgw : g < w2.heap.size := (Array.getElem?_eq_some_iff.1 HG2.out).1
          clear c2 hcut e0 er1
          refine wp_region_any (by kernel_rfl) ?_
          change wpAny _ _ _ _ _ _ _ w2.drew
          refine any_at (i := 0) 38 rfl rfl (by kernel_rfl) (by kernel_rfl) (by kernel_rfl) (fun _ _ _ h => h) (by rfl) (fun w => by go_simp; with_reducible rfl) ?_
          simp only [List.setIfInBounds_toArray, List.set_cons_zero, List.set_cons_succ]
          refine any_at (i := 1) 39 rfl rfl (by kernel_rfl) (by kernel_rfl) (by kernel_rfl) (fun _ _ _ h => h) (by rfl) (fun w => by go_simp; with_reducible rfl) ?_
          simp only [List.setIfInBounds_toArray, List.set_cons_zero, List.set_cons_succ]
          refine any_at (i := 2) 40 rfl rfl (by kernel_rfl) (by kernel_rfl) (by kernel_rfl) (fun _ _ _ h => h) (by rfl) (fun w => by go_simp; with_reducible rfl) ?_
          simp only [List.setIfInBounds_toArray, List.set_cons_zero, List.set_cons_succ]
          refine any_at (i := 3) 41 rfl rfl (by kernel_rfl) (by kernel_rfl) (by kernel_rfl) (fun _ _ _ h => h) (by rfl) (fun w => by go_simp; with_reducible rfl) ?_
          simp only [List.setIfInBounds_toArray, List.set_cons_zero, List.set_cons_succ]
          refine any_at (i := 5) 43 rfl rfl (by kernel_rfl) (by kernel_rfl) (by kernel_rfl) (fun _ _ _ h => h) (by rfl) (fun w => by go_simp; with_reducible rfl) ?_
          simp only [List.setIfInBounds_toArray, List.set_cons_zero, List.set_cons_succ]
          refine any_at (i := 6) 44 rfl rfl (by kernel_rfl) (by kernel_rfl) (by kernel_rfl) (fun _ _ _ h => h) (by rfl) (fun w => by go_simp; with_reducible rfl) ?_
          simp only [List.setIfInBounds_toArray, List.set_cons_zero, List.set_cons_succ]
          refine any_at (i := 7) 45 rfl rfl (by kernel_rfl) (by kernel_rfl) (by kernel_rfl) (fun _ _ _ h => h) (by rfl) (fun w => by go_simp; with_reducible rfl) ?_
          simp only [List.setIfInBounds_toArray, List.set_cons_zero, List.set_cons_succ]
          refine wpAny_ready (rs := [4, 8]) (by kernel_rfl) (by simp) ?_
          refine AllReady.cons rfl (fun K hK => ?_) (AllReady.cons rfl (fun K hK => ?_) AllReady.nil)
          · refine load_at 42 rfl (by rfl) 120 (.tmp 41) rfl g 0 rfl _ _ HR0.out Tryz.underlying120 rfl (by rw [rowL_length]; exact infoWords) ?_
            refine hK _ _ ?_
            clear hK K
            simp only [List.setIfInBounds_toArray, List.set_cons_zero, List.set_cons_succ]
            refine wpAny_ready (rs := [8]) (by kernel_rfl) (by simp) ?_
            refine AllReady.cons rfl (fun K hK => ?_) AllReady.nil
            refine load_at 46 rfl (by rfl) 121 (.tmp 45) rfl g 8 rfl _ _ HR1.out Tryz.underlying121 rfl (by rw [rowL_length]; exact infoBlock) ?_
            refine hK _ _ ?_
            clear hK K
            simp only [List.setIfInBounds_toArray, List.set_cons_zero, List.set_cons_succ]
            refine wpAny_ready (rs := [9]) (by kernel_rfl) (by simp) ?_
            refine AllReady.cons rfl (fun K hK => ?_) AllReady.nil
            go_simp
            go_at_call 107
            refine (compress_any (wordsF A (A.length / 64)) (over p r (D.take n)) _ HT2.out).mono ?_
            rintro e w3 ⟨rfl, hb3⟩
            have HG3 := Lib.hid ((hb3.block g hgw).trans HG2.out)
            have HB3 := Lib.hid hb3
            clear hb3
            go_wp2_with fail
            refine any_at (i := 10) 48 rfl rfl (by kernel_rfl) (by kernel_rfl) (by kernel_rfl) (fun _ _ _ h => h) (by rfl) (fun w => by go_simp; with_reducible rfl) ?_
            simp only [List.setIfInBounds_toArray, List.set_cons_zero, List.set_cons_succ]
            refine any_at (i := 11) 49 rfl rfl (by kernel_rfl) (by kernel_rfl) (by kernel_rfl) (fun _ _ _ h => h) (by rfl) (fun w => by go_simp; with_reducible rfl) ?_
            simp only [List.setIfInBounds_toArray, List.set_cons_zero, List.set_cons_succ]
            refine wpAny_ready (rs := [12]) (by kernel_rfl) (by simp) ?_
            refine AllReady.cons rfl (fun K hK => ?_) AllReady.nil
            rw [if_pos (by rfl)]
            refine wp_store_in 120 (.tmp 49) (.tmp 47) rfl rfl g 0 _ (rowL .u32 8 (compressed (wordsF A (A.length / 64)) (over p r (D.take n)))) _ HG3.out rfl rfl (by rw [rowL_length]; exact infoWords) (by rw [rowL_length, stC_length]; omega) (rowL_one _ _ _) ?_
            intro w4 hg4 hs4
            refine hK _ _ ?_
            clear hK K
            refine wpAny_done (by kernel_rfl) ?_ _
            rw [stC_words] at hg4
            have HG4 := Lib.hid hg4
            have HS4 := Lib.hid hs4
            clear hg4 hs4
            go_wp2
            obtain ⟨hn', hL1, hr1⟩ := HL.out
            obtain ⟨hD, hXl, had'⟩ := HD.out
            have hr := HR.out
            have hB : Below w2.heap.size w2 w3 := ⟨HB3.out.os, HB3.out.tape, HB3.out.output, HB3.out.size, HB3.out.block⟩
            obtain ⟨q1, q2⟩ := rest_has (w2 := w4) HC.out hap hn'.1 hcap had' (fun k hk hne => (HS4.out.block k hne).trans ((hB.block k (by rw [HW2.out.1.size]; exact hk)).trans (HW2.out.1.block k hne)))
            refine ⟨⟨A ++ D.take n, D.drop n, hD, ?_, q1, q2, (HW2.out.2.more hB).solo HS4.out⟩, by simp; omega⟩
            subst hr
            refine holds_full (q := over p (A.length % 64) (D.take n)) HP.out (by omega) ?_
            rw [List.length_append, hXl, ← hL1]
            exact HG4.out
          · refine load_at 46 rfl (by rfl) 121 (.tmp 45) rfl g 8 rfl _ _ HR1.out Tryz.underlying121 rfl (by rw [rowL_length]; exact infoBlock) ?_
            refine hK _ _ ?_
            clear hK K
            simp only [List.setIfInBounds_toArray, List.set_cons_zero, List.set_cons_succ]
            refine wpAny_ready (rs := [4]) (by kernel_rfl) (by simp) ?_
            refine AllReady.cons rfl (fun K hK => ?_) AllReady.nil
            refine load_at 42 rfl (by rfl) 120 (.tmp 41) rfl g 0 rfl _ _ HR0.out Tryz.underlying120 rfl (by rw [rowL_length]; exact infoWords) ?_
            refine hK _ _ ?_
            clear hK K
            simp only [List.setIfInBounds_toArray, List.set_cons_zero, List.set_cons_succ]
            refine wpAny_ready (rs := [9]) (by kernel_rfl) (by simp) ?_
            refine AllReady.cons rfl (fun K hK => ?_) AllReady.nil
            go_simp
            go_at_call 107
            refine (compress_any (wordsF A (A.length / 64)) (over p r (D.take n)) _ HT2.out).mono ?_
            rintro e w3 ⟨rfl, hb3⟩
            have HG3 := Lib.hid ((hb3.block g hgw).trans HG2.out)
            have HB3 := Lib.hid hb3
            clear hb3
            go_wp2_with fail
            refine any_at (i := 10) 48 rfl rfl (by kernel_rfl) (by kernel_rfl) (by kernel_rfl) (fun _ _ _ h => h) (by rfl) (fun w => by go_simp; with_reducible rfl) ?_
            simp only [List.setIfInBounds_toArray, List.set_cons_zero, List.set_cons_succ]
            refine any_at (i := 11) 49 rfl rfl (by kernel_rfl) (by kernel_rfl) (by kernel_rfl) (fun _ _ _ h => h) (by rfl) (fun w => by go_simp; with_reducible rfl) ?_
            simp only [List.setIfInBounds_toArray, List.set_cons_zero, List.set_cons_succ]
            refine wpAny_ready (rs := [12]) (by kernel_rfl) (by simp) ?_
            refine AllReady.cons rfl (fun K hK => ?_) AllReady.nil
            rw [if_pos (by rfl)]
            refine wp_store_in 120 (.tmp 49) (.tmp 47) rfl rfl g 0 _ (rowL .u32 8 (compressed (wordsF A (A.length / 64)) (over p r (D.take n)))) _ HG3.out rfl rfl (by rw [rowL_length]; exact infoWords) (by rw [rowL_length, stC_length]; omega) (rowL_one _ _ _) ?_
            intro w4 hg4 hs4
            refine hK _ _ ?_
            clear hK K
            refine wpAny_done (by kernel_rfl) ?_ _
            rw [stC_words] at hg4
            have HG4 := Lib.hid hg4
            have HS4 := Lib.hid hs4
            clear hg4 hs4
            go_wp2
            obtain ⟨hn', hL1, hr1⟩ := HL.out
            obtain ⟨hD, hXl, had'⟩ := HD.out
            have hr := HR.out
            have hB : Below w2.heap.size w2 w3 := ⟨HB3.out.os, HB3.out.tape, HB3.out.output, HB3.out.size, HB3.out.block⟩
            obtain ⟨q1, q2⟩ := rest_has (w2 := w4) HC.out hap hn'.1 hcap had' (fun k hk hne => (HS4.out.block k hne).trans ((hB.block k (by rw [HW2.out.1.size]; exact hk)).trans (HW2.out.1.block k hne)))
            refine ⟨⟨A ++ D.take n, D.drop n, hD, ?_, q1, q2, (HW2.out.2.more hB).solo HS4.out⟩, by simp; omega⟩
            subst hr
            refine holds_full (q := over p (A.length % 64) (D.take n)) HP.out (by omega) ?_
            rw [List.length_append, hXl, ← hL1]
            exact HG4.out
        · rename_i h0
          have h0 : r1 ≠ 0 := by simpa using h0
          obtain ⟨hn', hL1, hr1⟩ := HL.out
          obtain ⟨hD, hXl, had'⟩ := HD.out
          have hr := HR.out
          obtain ⟨q1, q2⟩ := rest_has (w2 := w2) HC.out hap hn'.1 hcap had' (fun k _ hne => HW2.out.1.block k hne)
          refine ⟨⟨A ++ D.take n, D.drop n, hD, ?_, q1, q2, HW2.out.2⟩, by simp; omega⟩
          subst hr
          refine holds_part HP.out (by omega) ?_
          rw [List.length_append, hXl, ← hL1]
          exact HG2.out
end Go.Proofs.YtppmbdpfledejaaGreatDoor
namespace Go.Proofs.YtppmbdpfledejaaGreatDoor
open Go.RowKit
theorem infoHash : (Tryz.prog.info? 168).map (·.size) = some 73 := by kernel_rfl
theorem digestStep (h : Nat → BitVec 32) (k t : Nat) (ht : t < 4) : digestF h (4 * k + t) = (h k >>> (8 * (3 - t))) &&& 255#32 := by
  unfold digestF; rw [show (4 * k + t) / 4 = k from by omega, show (4 * k + t) % 4 = t from by omega]
theorem zeroDigest : (Tryz.prog.info? 31).map (fun i => i.zero) = some (some (.agg (row .u8 32 fun _ => 0#32))) := by kernel_rfl
theorem zeroHash : (Tryz.prog.info? 168).map (fun i => i.zero) = some (some (.agg (stC (fun _ => 0#32) (fun _ => 0#32) 0).toArray)) := by kernel_rfl
theorem digest_row (H : Nat → BitVec 32) (k : Nat) :
    ((((row .u8 32 (upTo (digestF H) (4 * k))).setIfInBounds (4 * k) (.int .u8 (u32 (H k) / 16777216 % 256))).setIfInBounds (4 * k + 1) (.int .u8 (u32 (H k) / 65536 % 256))).setIfInBounds (4 * k + 2) (.int .u8 (u32 (H k >>> 8) % 256))).setIfInBounds (4 * k + 3) (.int .u8 (u32 (H k) % 256)) = row .u8 32 (upTo (digestF H) (4 * (k + 1))) := by
  have v0 : u32 (H k) / 16777216 % 256 = u32 (digestF H (4 * k)) := by
    rw [show (16777216 : Int) = 2 ^ 24 from by decide, u32_shr, u32_mod256, ← Nat.add_zero (4 * k), digestStep _ _ _ (by omega)]
  have v1 : u32 (H k) / 65536 % 256 = u32 (digestF H (4 * k + 1)) := by
    rw [show (65536 : Int) = 2 ^ 16 from by decide, u32_shr, u32_mod256, digestStep _ _ _ (by omega)]
  have v2 : u32 (H k >>> 8) % 256 = u32 (digestF H (4 * k + 2)) := by
    rw [u32_mod256, digestStep _ _ _ (by omega)]
  have v3 : u32 (H k) % 256 = u32 (digestF H (4 * k + 3)) := by
    rw [u32_mod256, digestStep _ _ _ (by omega)]; simp
  rw [v0, v1, v2, v3, upTo_set, upTo_set, upTo_set, upTo_set, show 4 * k + 1 + 1 + 1 + 1 = 4 * (k + 1) from by omega]
set_option maxRecDepth 100000 in
set_option maxHeartbeats 2000000 in
theorem told_any (w : World) (g : Nat) (bs : List (BitVec 32)) (tab : Tab w) (hi : Holds 168 w g bs) (hlen : bs.length ≤ 1099511627776) :
    Calls Tryz.prog 78 #[.pointer (some ⟨g, 0, none⟩)] w fun e w' => e = .returned (rowV .u8 32 (sumF bs)) ∧ Below w.heap.size w w' := by
  have hpl : (padB bs.length).length ≤ 72 := by rw [padB_length]; have := padZeros_lt bs.length; omega
  have HT := Lib.hid tab
  have HI := Lib.hid hi
  have hg : g < w.heap.size := by obtain ⟨p, hp, -⟩ := hi; exact (Array.getElem?_eq_some_iff.1 hp).1
  clear tab hi
  go_enter Tryz.func78, Tryz.ntmps78
  go_wp2_with (first
    | (refine alloc_as rfl 31 rfl _ zeroDigest ?_; (have H0 := heap_last w (.cells (row .u8 32 fun _ => 0#32) 31 (0, 0)); have B0 := (Below.refl w.heap.size w).alloc (Nat.le_refl _) (.cells (row .u8 32 fun _ => 0#32) 31 (0, 0)); have hs0 : w.heap.size < (w.alloc (.cells (row .u8 32 fun _ => 0#32) 31 (0, 0))).heap.size := (by simp); generalize w.alloc (.cells (row .u8 32 fun _ => 0#32) 31 (0, 0)) = w0 at *; obtain ⟨p, hh, hp⟩ := HI.out; have HH0 := Lib.hid ((B0.block g hg).trans hh); have HP := Lib.hid hp; have HZ0 := Lib.hid H0; have HB0 := Lib.hid B0; clear H0 B0 hh hp HI))
    | (refine wpList_load_row rfl 168 (.tmp 11) rfl g rfl 168 _ (0, 0) _ HH0.out Tryz.underlying168 rfl (by rw [List.size_toArray, stC_length]; exact infoHash) ?_)
    | (refine alloc_as rfl 168 rfl _ zeroHash ?_)
    | (refine store_new rfl 168 (.tmp 3) (.tmp 12) rfl rfl w0 _ _ 168 rfl rfl rfl (by rw [List.size_toArray, stC_length]; exact infoHash) (by rw [List.size_toArray, List.size_toArray, stC_length, stC_length]) (all_oneCell_toArray (stC_one _ _ _)) ?_; intro w1 hh1 hb1 hs1; have c1 := cell_len ((hb1.block g (by omega)).trans HH0.out); have HH1 := Lib.hid hh1; have HB1 := Lib.hid hb1; clear hh1 hb1)
    | (go_at_call 108; refine (pad_any bs.length hlen _).mono ?_; rintro e w2 ⟨v2, rfl, hv2, hb2, ha2⟩; have HI2 := Lib.hid (show Holds 168 w2 w0.heap.size bs from ⟨p, (hb2.block _ hs1).trans HH1.out, HP.out⟩); have HZ2 := Lib.hid ((hb2.block _ (by omega)).trans ((HB1.out.block _ hs0).trans HZ0.out)); have HB2 := Lib.hid (HB0.out.trans ((HB1.out.mono (Nat.le_of_lt hs0)).trans (hb2.mono (by omega)))); have HV2 := Lib.hid hv2; have HA2 := Lib.hid (ha2 w0.heap.size hs1); have hs2 : w0.heap.size < w2.heap.size := Nat.lt_of_lt_of_le hs1 hb2.size; clear HH0 HP HH1 HB1 HB0 HZ0 hb2 hv2 ha2 c1 hs1)
    | (go_at_call 77; refine (write_any w2 w0.heap.size bs (padB bs.length) v2 (tab_keep HT.out HB2.out (Nat.le_refl _)) HI2.out HV2.out (fun _ => HA2.out) (by omega)).mono ?_; rintro e w3 ⟨rfl, hi3, ho3⟩; have HI3 := Lib.hid (show Holds 168 w3 w0.heap.size (paddedB bs) from hi3); have HZ3 := Lib.hid ((ho3.block _ (by omega) (by omega)).trans HZ2.out); have HB3 := Lib.hid (ho3.below HB2.out (Nat.le_of_lt hs0) (by omega)); have hs3 : w0.heap.size < w3.heap.size := Nat.lt_of_lt_of_le hs2 ho3.size; clear HI2 HV2 HA2 HZ2 HB2 hs2 hi3 ho3)
    | (refine alloc_as rfl 31 rfl _ zeroDigest ?_; obtain ⟨q, hh, -⟩ := HI3.out; obtain ⟨H, hH⟩ : ∃ H, H = wordsF (paddedB bs) ((paddedB bs).length / 64) := ⟨_, rfl⟩; rw [← hH] at hh; have HSUM := Lib.hid (show sumF bs = digestF H from (by rw [hH]; rfl)); have h4 := heap_last w3 (.cells (row .u8 32 fun _ => 0#32) 31 (0, 0)); have b4 := (Below.refl w3.heap.size w3).alloc (Nat.le_refl _) (.cells (row .u8 32 fun _ => 0#32) 31 (0, 0)); generalize w3.alloc (.cells (row .u8 32 fun _ => 0#32) 31 (0, 0)) = w4 at *; have HR4 := Lib.hid (range_words ((b4.block _ hs3).trans hh)); have HZ4 := Lib.hid ((b4.block _ (by omega)).trans HZ3.out); have HB4 := Lib.hid (HB3.out.trans (b4.mono (by omega))); have HD4 := Lib.hid h4; clear HI3 HZ3 HB3 hH hh b4 h4)
    | (refine wpList_load_mid rfl 120 (.tmp 19) rfl w0.heap.size 0 rfl (rowL .u32 8 H) _ HR4.out Tryz.underlying120 rfl (by rw [rowL_length]; exact infoWords) ?_; rw [rowL_toArray]))
  go_loopw [5, 6, 21] (fun _ _ c wr => ∃ k : Nat, k ≤ 8 ∧ c = .int .i64 k ∧ wr.heap[w.heap.size]? = some (.cells (row .u8 32 fun _ => 0#32) 31 (0, 0)) ∧ wr.heap[w3.heap.size]? = some (.cells (row .u8 32 (upTo (digestF H) (4 * k))) 31 (0, 0)) ∧ Below w.heap.size w wr) (fun _ _ c _ => 8 - (intOf c).toNat)
  case atStart => exact ⟨0, by omega, rfl, HZ4.out, by rw [upTo_zero]; exact HD4.out, HB4.out⟩
  case round =>
    clear HR4 HZ4 HB4 HD4
    obtain ⟨k, hk, rfl, hz, hd, hb⟩ := hrel
    have HZ := Lib.hid hz
    have HB := Lib.hid hb
    by_cases hlt : k < 8
    · have hix : ∀ w, (Instr.index 120 (.agg (row .u32 8 H)) (.int .i64 k)).run Tryz.prog w = .ok (.int .u32 (Go.Proofs.YtppmbdpfledejaaGreatDoor.u32 (H k))) w := fun w => index_row w H k hlt Tryz.underlying120 Tryz.underlying119 cellsU32'
      obtain ⟨j0, hj0⟩ : ∃ j0 : Nat, j0 = 4 * k := ⟨_, rfl⟩
      obtain ⟨j1, hj1⟩ : ∃ j1 : Nat, j1 = j0 + 1 := ⟨_, rfl⟩
      obtain ⟨j2, hj2⟩ : ∃ j2 : Nat, j2 = j0 + 2 := ⟨_, rfl⟩
      obtain ⟨j3, hj3⟩ : ∃ j3 : Nat, j3 = j0 + 3 := ⟨_, rfl⟩
      have e0 : (4 : Int) * (k : Int) = (j0 : Int) := by omega
      have e1 : (j0 : Int) + 1 = (j1 : Int) := by omega
      have e2 : (j0 : Int) + 2 = (j2 : Int) := by omega
      have e3 : (j0 : Int) + 3 = (j3 : Int) := by omega
      have q0 : (j0 : Int) < 32 := by omega
      have q1 : (j1 : Int) < 32 := by omega
      have q2 : (j2 : Int) < 32 := by omega
      have q3 : (j3 : Int) < 32 := by omega
      have HA := Lib.hid hd
      have SHA := Lib.hid (show Solo w3.heap.size wr wr from ⟨rfl, rfl, rfl, rfl, fun _ _ => rfl⟩)
      have HJ := Lib.hid (And.intro hj0 (And.intro hj1 (And.intro hj2 hj3)))
      clear hd hz hb hj0 hj1 hj2 hj3
      go_wp2_with (first
        | (refine store_cell rfl 5 (.tmp 47) (.tmp 38) rfl rfl .u8 w3.heap.size j0 _ _ _ HA.out rfl rfl (by simp only [row_size]; omega) (by kernel_rfl) ?_; intro wHX hgHX hsHX; have HX := Lib.hid hgHX; have SHX := Lib.hid (SHA.out.trans hsHX); clear HA SHA hgHX hsHX)
        | (refine store_cell rfl 5 (.tmp 48) (.tmp 41) rfl rfl .u8 w3.heap.size j1 _ _ _ HX.out rfl rfl (by simp only [Array.size_setIfInBounds, row_size]; omega) (by kernel_rfl) ?_; intro wHY hgHY hsHY; have HY := Lib.hid hgHY; have SHY := Lib.hid (SHX.out.trans hsHY); clear HX SHX hgHY hsHY)
        | (refine store_cell rfl 5 (.tmp 49) (.tmp 44) rfl rfl .u8 w3.heap.size j2 _ _ _ HY.out rfl rfl (by simp only [Array.size_setIfInBounds, row_size]; omega) (by kernel_rfl) ?_; intro wHV hgHV hsHV; have HV := Lib.hid hgHV; have SHV := Lib.hid (SHY.out.trans hsHV); clear HY SHY hgHV hsHV)
        | (refine store_cell rfl 5 (.tmp 50) (.tmp 46) rfl rfl .u8 w3.heap.size j3 _ _ _ HV.out rfl rfl (by simp only [Array.size_setIfInBounds, row_size]; omega) (by kernel_rfl) ?_; intro wHU hgHU hsHU; have HU := Lib.hid hgHU; have SHU := Lib.hid (SHV.out.trans hsHU); clear HV SHV hgHU hsHU))
      have hU := HU.out
      obtain ⟨hj0, hj1, hj2, hj3⟩ := HJ.out
      rw [hj1, hj2, hj3, hj0, digest_row] at hU
      refine ⟨⟨k + 1, by omega, by go_num, (SHU.out.block _ (by omega)).trans HZ.out, hU, HB.out.trans ⟨SHU.out.os, SHU.out.tape, SHU.out.output, Nat.le_of_eq SHU.out.size.symm, fun j hj => SHU.out.block j (by omega)⟩⟩, by simp [intOf]; omega⟩
    · obtain rfl : k = 8 := by omega
      rw [upTo_full, ← HSUM.out] at hd
      clear HZ HB
      go_wp2_with (first | (refine wpList_load_row rfl 31 (.tmp 4) rfl w3.heap.size rfl 31 _ (0, 0) _ hd Tryz.underlying31 rfl (by kernel_rfl) ?_) | (refine wpList_store_row rfl 31 (.tmp 2) (.tmp 52) rfl w.heap.size _ rfl rfl 31 _ hz (by kernel_rfl) ((row_size _ _ _).trans (row_size _ _ _).symm) (row_one _ _ _) ?_))
      exact bodyPost_ret (results_cell_row Tryz.results78 _ _ w.heap.size 31 _ (0, 0) _ rfl (setRow_heap _ _ _ _ _ _ hz) Tryz.underlying31 rfl (by kernel_rfl)) rfl ⟨rfl, below_setRow hb (by omega) _⟩
set_option maxRecDepth 100000 in
set_option maxHeartbeats 2000000 in
theorem sum_any (w : World) (v : Value) (bs : List (BitVec 32)) (tab : Tab w) (hv : HasBytes w v bs) (hlen : bs.length ≤ 1099511627776) :
    Calls Tryz.prog 48 #[v] w fun e w' => e = .returned (rowV .u8 32 (sumF bs)) ∧ Below w.heap.size w w' := by
  have HT := Lib.hid tab
  have HV := Lib.hid hv
  clear tab hv
  go_enter Tryz.func48, Tryz.ntmps48
  go_wp2_with (first
    | (refine alloc_as rfl 31 rfl _ zeroDigest ?_; have H0 := heap_last w (.cells (row .u8 32 fun _ => 0#32) 31 (0, 0)); have B0 := (Below.refl w.heap.size w).alloc (Nat.le_refl _) (.cells (row .u8 32 fun _ => 0#32) 31 (0, 0)); have hs0 : w.heap.size < (w.alloc (.cells (row .u8 32 fun _ => 0#32) 31 (0, 0))).heap.size := (by simp); generalize w.alloc (.cells (row .u8 32 fun _ => 0#32) 31 (0, 0)) = w0 at *; have HZ0 := Lib.hid H0; have HB0 := Lib.hid B0; clear H0 B0)
    | (go_at_call 76; refine (new_any w0).mono ?_; rintro e w1 ⟨g, rfl, hg, hi, hb⟩; have HI1 := Lib.hid hi; have HZ1 := Lib.hid ((hb.block _ hs0).trans HZ0.out); have HB1 := Lib.hid (HB0.out.trans (hb.mono (Nat.le_of_lt hs0))); have hs1 : w.heap.size < w1.heap.size := Nat.lt_of_lt_of_le hs0 hb.size; clear hi hb HZ0 HB0)
    | (go_at_call 77; refine (write_any w1 g [] bs v (tab_keep HT.out HB1.out (Nat.le_refl _)) HI1.out (has_below HV.out HB1.out) (fun hne => apart_of_has HV.out (by omega) hne) (by simp; omega)).mono ?_; rintro e w2 ⟨rfl, hi, ho⟩; have HI2 := Lib.hid (show Holds 168 w2 g bs from hi); have HZ2 := Lib.hid ((ho.block _ hs1 (by omega)).trans HZ1.out); have HB2 := Lib.hid (ho.below HB1.out (by omega) (by omega)); have hs2 : w.heap.size < w2.heap.size := Nat.lt_of_lt_of_le hs1 ho.size; clear HI1 HZ1 HB1 hi ho)
    | (go_at_call 78; refine (told_any w2 g bs (tab_keep HT.out HB2.out (Nat.le_refl _)) HI2.out hlen).mono ?_; rintro e w3 ⟨rfl, hb⟩; have hz3 := (hb.block _ hs2).trans HZ2.out; have hb3 := HB2.out.trans (hb.mono (Nat.le_of_lt hs2)); clear HI2 HZ2 HB2 hb)
    | (refine wpList_store_row rfl 31 (.tmp 2) (.tmp 9) rfl w.heap.size _ rfl rfl 31 _ hz3 (by kernel_rfl) ((row_size _ _ _).trans (row_size _ _ _).symm) (row_one _ _ _) ?_))
  exact bodyPost_ret (results_cell_row Tryz.results48 _ _ w.heap.size 31 _ (0, 0) _ rfl (setRow_heap _ _ _ _ _ _ hz3) Tryz.underlying31 rfl (by kernel_rfl)) rfl ⟨rfl, below_setRow hb3 (by omega) _⟩
end Go.Proofs.YtppmbdpfledejaaGreatDoor
namespace Go.Proofs.YtppmbdpfledejaaGreatDoor
open Go.RowKit
theorem ch_or (x y z : BitVec 32) : x &&& y ||| ~~~x &&& z = ch x y z := by
  ext i hi; simp [ch]; cases x[i] <;> cases y[i] <;> cases z[i] <;> rfl
theorem maj_or (x y z : BitVec 32) : x &&& y ||| x &&& z ||| y &&& z = maj x y z := by
  ext i hi; simp [maj]; cases x[i] <;> cases y[i] <;> cases z[i] <;> rfl
theorem rot_lit (x : BitVec 32) (n : Int) (h0 : 0 < n) (h1 : n < 32) : x >>> n.toNat ||| x <<< (32 - n).toNat = rot x n := by
  unfold rot; rw [Int.emod_eq_of_lt (by omega) h1]
set_option maxRecDepth 100000 in
set_option maxHeartbeats 400000 in
theorem ref2Rot_any (x : BitVec 32) (n : Int) (h0 : 0 < n) (h1 : n < 32) (w : World) :
    Calls Tryz.prog 138 #[.int .u32 (u32 x), .int .u64 n] w fun e w' => e = .returned (.int .u32 (u32 (rot x n))) ∧ w = w' := by
  have e := rot_lit x n h0 h1
  go_enter Tryz.func138, Tryz.ntmps138
  go_wp2
  go_ret
  exact ⟨rfl, rfl⟩
set_option maxRecDepth 100000 in
set_option maxHeartbeats 400000 in
theorem ref2Ch_any (x y z : BitVec 32) (w : World) :
    Calls Tryz.prog 115 #[.int .u32 (u32 x), .int .u32 (u32 y), .int .u32 (u32 z)] w fun e w' => e = .returned (.int .u32 (u32 (ch x y z))) ∧ w = w' := by
  go_enter Tryz.func115, Tryz.ntmps115
  go_wp2
  go_ret
  exact ⟨by rw [ch_or]; rfl, rfl⟩
set_option maxRecDepth 100000 in
set_option maxHeartbeats 400000 in
theorem ref2Maj_any (x y z : BitVec 32) (w : World) :
    Calls Tryz.prog 117 #[.int .u32 (u32 x), .int .u32 (u32 y), .int .u32 (u32 z)] w fun e w' => e = .returned (.int .u32 (u32 (maj x y z))) ∧ w = w' := by
  go_enter Tryz.func117, Tryz.ntmps117
  go_wp2
  go_ret
  exact ⟨by rw [maj_or]; rfl, rfl⟩
set_option maxRecDepth 100000 in
set_option maxHeartbeats 400000 in
theorem ref2Big0_any (x : BitVec 32) (w : World) :
    Calls Tryz.prog 116 #[.int .u32 (u32 x)] w fun e w' => e = .returned (.int .u32 (u32 (big0 x))) ∧ w = w' := by
  go_enter Tryz.func116, Tryz.ntmps116
  go_wp2_with (go_at_call 138; refine (ref2Rot_any _ _ (by decide) (by decide) _).mono ?_; rintro e w' ⟨rfl, rfl⟩)
  go_ret
  exact ⟨rfl, rfl⟩
set_option maxRecDepth 100000 in
set_option maxHeartbeats 400000 in
theorem ref2Big1_any (x : BitVec 32) (w : World) :
    Calls Tryz.prog 114 #[.int .u32 (u32 x)] w fun e w' => e = .returned (.int .u32 (u32 (big1 x))) ∧ w = w' := by
  go_enter Tryz.func114, Tryz.ntmps114
  go_wp2_with (go_at_call 138; refine (ref2Rot_any _ _ (by decide) (by decide) _).mono ?_; rintro e w' ⟨rfl, rfl⟩)
  go_ret
  exact ⟨rfl, rfl⟩
set_option maxRecDepth 100000 in
set_option maxHeartbeats 400000 in
theorem ref2Small0_any (x : BitVec 32) (w : World) :
    Calls Tryz.prog 113 #[.int .u32 (u32 x)] w fun e w' => e = .returned (.int .u32 (u32 (small0 x))) ∧ w = w' := by
  go_enter Tryz.func113, Tryz.ntmps113
  go_wp2_with (go_at_call 138; refine (ref2Rot_any _ _ (by decide) (by decide) _).mono ?_; rintro e w' ⟨rfl, rfl⟩)
  go_ret
  exact ⟨rfl, rfl⟩
set_option maxRecDepth 100000 in
set_option maxHeartbeats 400000 in
theorem ref2Small1_any (x : BitVec 32) (w : World) :
    Calls Tryz.prog 112 #[.int .u32 (u32 x)] w fun e w' => e = .returned (.int .u32 (u32 (small1 x))) ∧ w = w' := by
  go_enter Tryz.func112, Tryz.ntmps112
  go_wp2_with (go_at_call 138; refine (ref2Rot_any _ _ (by decide) (by decide) _).mono ?_; rintro e w' ⟨rfl, rfl⟩)
  go_ret
  exact ⟨rfl, rfl⟩
set_option maxRecDepth 100000 in
set_option maxHeartbeats 1000000 in
theorem ref2Round_any (h : Nat → BitVec 32) (k x : BitVec 32) (w : World) :
    Calls Tryz.prog 93 #[.agg (row .u32 8 h), .int .u32 (u32 k), .int .u32 (u32 x)] w fun e w' => e = .returned (.agg (row .u32 8 (roundF h k x))) ∧ Below w.heap.size w w' := by
  rw [row8]
  go_enter Tryz.func93, Tryz.ntmps93
  go_wp2
  have H0 := alloc2_0 w (.cells (row .u32 8 h) 120) (.cells (row .u32 8 fun _ => 0#32) 120)
  have Z0 := alloc2_1 w (.cells (row .u32 8 h) 120) (.cells (row .u32 8 fun _ => 0#32) 120)
  have B0 : Below w.heap.size w ((w.alloc (.cells (row .u32 8 h) 120)).alloc (.cells (row .u32 8 fun _ => 0#32) 120)) := ((Below.refl _ _).alloc (Nat.le_refl _) _).alloc (by simp) _
  simp only [row8, show u32 0#32 = 0 from rfl] at H0 Z0 B0
  generalize World.alloc (World.alloc w _) _ = w1 at *
  obtain ⟨c0, c1, c2, c3, c4, c5, c6, c7⟩ := cells8_of (h := h) H0
  go_quiet (first | (go_at_call 114; refine quiet_same (ref2Big1_any _ _)) | (go_at_call 115; refine quiet_same (ref2Ch_any _ _ _ _)))
  have H1 : (w1.drewN nq).heap[w.heap.size]? = _ := H0
  have Z1 : (w1.drewN nq).heap[w.heap.size + 1]? = _ := Z0
  have B1 := below_draws B0 nq
  clear H0 Z0 B0 c0 c1 c2 c3 c4 c5 c6 c7
  generalize w1.drewN nq = w2 at *
  obtain ⟨c0, c1, c2, c3, c4, c5, c6, c7⟩ := cells8_of (h := h) H1
  go_wp2
  go_quiet (first | (go_at_call 116; refine quiet_same (ref2Big0_any _ _)) | (go_at_call 117; refine quiet_same (ref2Maj_any _ _ _ _)))
  have H2 : (w2.drewN nq).heap[w.heap.size]? = _ := H1
  have Z2 : (w2.drewN nq).heap[w.heap.size + 1]? = _ := Z1
  have B2 := below_draws B1 nq
  clear H1 Z1 B1 c0 c1 c2 c3 c4 c5 c6 c7
  generalize w2.drewN nq = w3 at *
  obtain ⟨c0, c1, c2, c3, c4, c5, c6, c7⟩ := cells8_of (h := h) H2
  go_wp2_with (first | (refine wpList_store_row rfl 120 (.tmp 6) (.tmp 57) rfl (w.heap.size + 1) _ rfl rfl 120 _ Z2 (by kernel_rfl) rfl (by simp [Value.oneCell']) ?_))
  exact bodyPost_ret (results_cell_row Tryz.results93 _ _ (w.heap.size + 1) 120 _ (0, 0) _ rfl (setRow_heap _ _ _ _ _ _ Z2) Tryz.underlying120 rfl (by kernel_rfl)) rfl ⟨rfl, below_setRow B2 (by omega) _⟩
set_option maxRecDepth 100000 in
set_option maxHeartbeats 4000000 in
theorem ref2Schedule_any (f : Nat → BitVec 32) (hf : ∀ i, u32 (f i) < 256) (w : World) :
    Calls Tryz.prog 91 #[.agg (row .u8 64 f)] w fun e w' => e = .returned (.agg (row .u32 64 (sched f))) ∧ Below w.heap.size w w' := by
  go_enter Tryz.func91, Tryz.ntmps91
  go_wp2
  go_loopw [4] (fun c wr => ∃ k : Nat, k ≤ 16 ∧ c = .int .i64 k ∧ wr.heap[w.heap.size]? = some (.cells (row .u8 64 f) 121 (0, 0)) ∧ wr.heap[w.heap.size + 1]? = some (.cells (row .u32 64 fun _ => 0#32) 147 (0, 0)) ∧
      wr.heap[w.heap.size + 2]? = some (.cells (row .u32 64 (upTo (sched f) k)) 147 (0, 0)) ∧ w.heap.size + 3 ≤ wr.heap.size ∧ Below w.heap.size w wr) (fun c _ => 16 - (intOf c).toNat)
  case atStart =>
    refine ⟨0, by omega, rfl, alloc3_0 _ _ _ _, alloc3_1 _ _ _ _, ?_, by simp, (((Below.refl _ _).alloc (Nat.le_refl _) _).alloc (by simp) _).alloc (by simp; omega) _⟩
    rw [upTo_zero]; exact alloc3_2 _ _ _ _
  case round =>
    obtain ⟨k, hk, rfl, hb8, hz, ho, hs, hb⟩ := hrel
    by_cases hlt : k < 16
    · go_wp2
      go_loopw [5] (fun c wr => ∃ j : Nat, j ≤ 4 ∧ c = .int .i64 j ∧ wr.heap[w.heap.size]? = some (.cells (row .u8 64 f) 121 (0, 0)) ∧ wr.heap[w.heap.size + 1]? = some (.cells (row .u32 64 fun _ => 0#32) 147 (0, 0)) ∧
          wr.heap[w.heap.size + 2]? = some (.cells (row .u32 64 (growTo f k j)) 147 (0, 0)) ∧ w.heap.size + 3 ≤ wr.heap.size ∧ Below w.heap.size w wr) (fun c _ => 4 - (intOf c).toNat)
      case atStart => exact ⟨0, by omega, rfl, hb8, hz, by rw [growTo_zero]; exact ho, hs, hb⟩
      case round =>
        clear hb8 hz ho hs hb
        obtain ⟨j, hj, rfl, hb8, hz, ho, hs, hb⟩ := hrel
        by_cases hjt : j < 4
        · obtain ⟨p0, hp0⟩ : ∃ p : Nat, p = 4 * k := ⟨_, rfl⟩
          obtain ⟨p1, hp1⟩ : ∃ p : Nat, p = 4 * k + j := ⟨_, rfl⟩
          have e0 := wrap_at (4 * (k : Int)) p0 (by omega) (by omega)
          have e1 := wrap_at ((p0 : Int) + (j : Int)) p1 (by omega) (by omega)
          have q1 : (p1 : Int) < 64 := by omega
          have q4 : (k : Int) < 64 := by omega
          have b1 := (cell_of_row wr _ p1 _ _ _ hb8).trans (row_get .u8 64 f p1 (by omega))
          have c0 := (cell_of_row wr _ k _ _ _ ho).trans (row_get .u32 64 _ k (by omega))
          rw [growTo_at] at c0
          have H8 := Lib.hid hb8
          have HZ := Lib.hid hz
          have HO := Lib.hid ho
          have HP := Lib.hid hp1
          clear hb8 hz ho hp0 hp1
          go_wp2
          go_still_tail 14, (by kernel_rfl)
          change wpList _ _ _ _ _ wr.drew
          have hb8 : wr.drew.heap[w.heap.size]? = _ := H8.out
          have hz : wr.drew.heap[w.heap.size + 1]? = _ := HZ.out
          have ho : wr.drew.heap[w.heap.size + 2]? = _ := HO.out
          have hs : w.heap.size + 3 ≤ wr.drew.heap.size := hs
          have hb := below_draws hb 1
          change Below _ _ wr.drew at hb
          clear H8 HZ HO b1 c0
          generalize wr.drew = w2 at *
          have c0 := (cell_of_row w2 _ k _ _ _ ho).trans (row_get .u32 64 _ k (by omega))
          have f0 := frozen_of_row w2 _ k _ _ ho
          have H8 := Lib.hid hb8
          have HZ := Lib.hid hz
          have HO := Lib.hid ho
          clear hb8 hz ho
          have e : grown f k j <<< 8 + f p1 = grown f k (j + 1) := by rw [HP.out, grown_succ]
          have HE := Lib.hid e
          clear e
          go_wp2
          go_roundw
          case rel =>
            rw [decide_eq_true (show (k : Int) < 16 from by omega)]
            (repeat apply Exists.intro)
            refine ⟨?_, rfl⟩
            rw [HE.out]
            refine ⟨j + 1, by omega, by go_num, ?_, ?_, ?_, by simpa using hs, hb.setCell (show w.heap.size ≤ w.heap.size + 2 by omega) _⟩
            · rw [heap_setCell_other _ _ _ _ (by simp; omega)]; exact H8.out
            · rw [heap_setCell_other _ _ _ _ (by simp)]; exact HZ.out
            · rw [← growTo_set]; exact heap_setCell_same _ _ _ _ _ _ HO.out
          case measure => simp [intOf]; omega
        · obtain rfl : j = 4 := by omega
          rw [growTo_full _ _ f hf k hlt] at ho
          have H8 := Lib.hid hb8
          have HZ := Lib.hid hz
          have HO := Lib.hid ho
          clear hb8 hz ho
          go_wp2
          go_roundw
          case rel => exact ⟨k + 1, by omega, by go_num, H8.out, HZ.out, HO.out, hs, hb⟩
          case measure => simp [intOf]; omega
    · obtain rfl : k = 16 := by omega
      clear hb8
      go_wp2
      go_loopw [6] (fun c wr => ∃ k : Nat, 16 ≤ k ∧ k ≤ 64 ∧ c = .int .i64 k ∧ wr.heap[w.heap.size + 1]? = some (.cells (row .u32 64 fun _ => 0#32) 147 (0, 0)) ∧
          wr.heap[w.heap.size + 2]? = some (.cells (row .u32 64 (upTo (sched f) k)) 147 (0, 0)) ∧ w.heap.size + 3 ≤ wr.heap.size ∧ Below w.heap.size w wr) (fun c _ => 64 - (intOf c).toNat)
      case atStart => exact ⟨16, by omega, by omega, rfl, hz, ho, hs, hb⟩
      case round =>
        clear hz ho hs hb
        obtain ⟨k, hk16, hk, rfl, hz, ho, hs, hb⟩ := hrel
        by_cases hlt : k < 64
        · obtain ⟨p0, hp0⟩ : ∃ p : Nat, p = k - 2 := ⟨_, rfl⟩
          obtain ⟨p1, hp1⟩ : ∃ p : Nat, p = k - 7 := ⟨_, rfl⟩
          obtain ⟨p2, hp2⟩ : ∃ p : Nat, p = k - 15 := ⟨_, rfl⟩
          obtain ⟨p3, hp3⟩ : ∃ p : Nat, p = k - 16 := ⟨_, rfl⟩
          have e0 := wrap_at ((k : Int) - 2) p0 (by omega) (by omega)
          have e1 := wrap_at ((k : Int) - 7) p1 (by omega) (by omega)
          have e2 := wrap_at ((k : Int) - 15) p2 (by omega) (by omega)
          have e3 := wrap_at ((k : Int) - 16) p3 (by omega) (by omega)
          have q0 : (p0 : Int) < 64 := by omega
          have q1 : (p1 : Int) < 64 := by omega
          have q2 : (p2 : Int) < 64 := by omega
          have q3 : (p3 : Int) < 64 := by omega
          have q4 : (k : Int) < 64 := by omega
          have b0 := cell_upTo ho p0 (by omega) (by omega)
          have b1 := cell_upTo ho p1 (by omega) (by omega)
          have b2 := cell_upTo ho p2 (by omega) (by omega)
          have b3 := cell_upTo ho p3 (by omega) (by omega)
          have HS := Lib.hid (sched_hi f k hk16)
          have HP := Lib.hid (And.intro hp0 (And.intro hp1 (And.intro hp2 hp3)))
          have HZ := Lib.hid hz
          have HO := Lib.hid ho
          clear hz ho hp0 hp1 hp2 hp3
          go_wp2
          go_still_tail 23, (by kernel_rfl)
          still_call (still_same (ref2Small1_any _ _))
          repeat still_step
          still_call (still_same (ref2Small0_any _ _))
          repeat still_step
          refine wpStill_nil ?_
          change wpList _ _ _ _ _ wr.drew
          have hz : wr.drew.heap[w.heap.size + 1]? = _ := HZ.out
          have ho : wr.drew.heap[w.heap.size + 2]? = _ := HO.out
          have hs : w.heap.size + 3 ≤ wr.drew.heap.size := hs
          have hb := below_draws hb 1
          change Below _ _ wr.drew at hb
          clear HZ HO b0 b1 b2 b3
          generalize wr.drew = w2 at *
          have c0 := (cell_of_row w2 _ k _ _ _ ho).trans (row_get .u32 64 _ k (by omega))
          have f0 := frozen_of_row w2 _ k _ _ ho
          have HZ := Lib.hid hz
          have HO := Lib.hid ho
          clear hz ho
          have e : small1 (sched f p0) + sched f p1 + small0 (sched f p2) + sched f p3 = sched f k := by
            obtain ⟨h0, h1, h2, h3⟩ := HP.out
            rw [HS.out, h0, h1, h2, h3]
          have HE := Lib.hid e
          clear e
          go_wp2
          go_roundw
          case rel =>
            (repeat apply Exists.intro)
            refine ⟨?_, rfl⟩
            rw [HE.out]
            refine ⟨k + 1, by omega, by omega, by go_num, ?_, ?_, by simpa using hs, hb.setCell (show w.heap.size ≤ w.heap.size + 2 by omega) _⟩
            · rw [heap_setCell_other _ _ _ _ (by simp)]; exact HZ.out
            · rw [← upTo_set]; exact heap_setCell_same _ _ _ _ _ _ HO.out
          case measure => simp [intOf]; omega
        · obtain rfl : k = 64 := by omega
          rw [upTo_full] at ho
          go_wp2_with (first | (refine wpList_load_row rfl 147 _ rfl (w.heap.size + 2) rfl 147 _ (0, 0) _ ho Tryz.underlying147 rfl (by kernel_rfl) ?_) | (refine wpList_store_row rfl 147 (.tmp 2) (.tmp 56) rfl (w.heap.size + 1) _ rfl rfl 147 _ hz (by kernel_rfl) rfl (by simp [Value.oneCell', row]) ?_))
          exact bodyPost_ret (results_cell_row Tryz.results91 _ _ (w.heap.size + 1) 147 _ (0, 0) _ rfl (setRow_heap _ _ _ _ _ _ hz) Tryz.underlying147 rfl (by kernel_rfl)) rfl ⟨rfl, below_setRow hb (by omega) _⟩
theorem row_kB : row .u32 64 kB = (kTab.map (Value.int .u32)).toArray := by
  unfold row
  rw [kTab_words, List.map_map]; rfl
set_option maxRecDepth 100000 in
set_option maxHeartbeats 1000000 in
/-- Constants: the constants of all rounds. -/
theorem ref2Constants_any (w : World) :
    Calls Tryz.prog 92 #[] w fun e w' => e = .returned (.agg (row .u32 64 kB)) ∧ Below w.heap.size w w' := by
  have H0 := (heap_at_alloc w (.cells (row .u32 64 fun _ => 0#32) 147) w.heap.size).trans (if_pos rfl)
  have B0 := (Below.refl w.heap.size w).alloc (Nat.le_refl _) (.cells (row .u32 64 fun _ => 0#32) 147)
  rw [row_kB]
  go_enter Tryz.func92, Tryz.ntmps92
  go_wp2_with (first | (refine wpList_store_row rfl 147 (.tmp 0) (.tmp 1) rfl w.heap.size _ rfl rfl 147 _ H0 (by kernel_rfl) rfl (by kernel_rfl) ?_))
  exact bodyPost_ret (results_cell_row Tryz.results92 _ _ w.heap.size 147 _ (0, 0) _ rfl (setRow_heap _ _ _ _ _ _ H0) Tryz.underlying147 rfl (by kernel_rfl)) rfl ⟨rfl, below_setRow B0 (by omega) _⟩
end Go.Proofs.YtppmbdpfledejaaGreatDoor
namespace Go.Proofs.YtppmbdpfledejaaGreatDoor
open Go.RowKit
theorem ref2Round_L' (h : Nat → BitVec 32) (k x : BitVec 32) (w : World) : Calls Tryz.prog 93 #[.agg #[.int .u32 (u32 (h 0)), .int .u32 (u32 (h 1)), .int .u32 (u32 (h 2)), .int .u32 (u32 (h 3)), .int .u32 (u32 (h 4)), .int .u32 (u32 (h 5)), .int .u32 (u32 (h 6)), .int .u32 (u32 (h 7))], .int .u32 (u32 k), .int .u32 (u32 x)] w fun e w' => e = .returned (.agg (row .u32 8 (roundF h k x))) ∧ Below w.heap.size w w' := ref2Round_any h k x w
set_option maxRecDepth 100000 in
set_option maxHeartbeats 4000000 in
theorem ref2Compress_any (h f : Nat → BitVec 32) (hf : ∀ i, u32 (f i) < 256) (w : World) :
    Calls Tryz.prog 65 #[.agg (row .u32 8 h), .agg (row .u8 64 f)] w fun e w' => e = .returned (.agg (row .u32 8 (compressed h f))) ∧ Below w.heap.size w w' := by
  have H0 := alloc3_0 w (.cells (row .u32 8 h) 120 (0, 0)) (.cells (row .u8 64 f) 121 (0, 0)) (.cells (row .u32 8 fun _ => 0#32) 120 (0, 0))
  have H1 := alloc3_1 w (.cells (row .u32 8 h) 120 (0, 0)) (.cells (row .u8 64 f) 121 (0, 0)) (.cells (row .u32 8 fun _ => 0#32) 120 (0, 0))
  have H2 := alloc3_2 w (.cells (row .u32 8 h) 120 (0, 0)) (.cells (row .u8 64 f) 121 (0, 0)) (.cells (row .u32 8 fun _ => 0#32) 120 (0, 0))
  have B0 : Below w.heap.size w (((w.alloc (.cells (row .u32 8 h) 120 (0, 0))).alloc (.cells (row .u8 64 f) 121 (0, 0))).alloc (.cells (row .u32 8 fun _ => 0#32) 120 (0, 0))) :=
    (((Below.refl _ _).alloc (Nat.le_refl _) _).alloc (by simp) _).alloc (by simp; omega) _
  have S0 : (((w.alloc (.cells (row .u32 8 h) 120 (0, 0))).alloc (.cells (row .u8 64 f) 121 (0, 0))).alloc (.cells (row .u32 8 fun _ => 0#32) 120 (0, 0))).heap.size = w.heap.size + 3 := by simp
  obtain ⟨w0, hw0⟩ : ∃ w0, w0 = ((w.alloc (.cells (row .u32 8 h) 120 (0, 0))).alloc (.cells (row .u8 64 f) 121 (0, 0))).alloc (.cells (row .u32 8 fun _ => 0#32) 120 (0, 0)) := ⟨_, rfl⟩
  rw [← hw0] at H0 H1 H2 B0 S0
  have HH := Lib.hid (And.intro H0 (And.intro H1 (And.intro H2 (And.intro B0 S0))))
  have HW := Lib.hid hw0
  clear H0 H1 H2 B0 S0 hw0
  go_enter Tryz.func65, Tryz.ntmps65
  go_wp2_with (first | (refine wpList_load_row rfl 121 (.tmp 3) rfl (w.heap.size + 1) rfl 121 _ (0, 0) _ (HW.out ▸ HH.out.2.1) Tryz.underlying121 rfl (by kernel_rfl) ?_) | (go_at_call 91; refine (ref2Schedule_any f hf _).mono ?_; rintro e w1 ⟨rfl, hb1⟩; have hb1 : Below w0.heap.size w0 w1 := (by rw [HW.out]; exact hb1); rw [HH.out.2.2.2.2] at hb1; have HA1 := Lib.hid ((hb1.block w.heap.size (by omega)).trans HH.out.1); have HZ1 := Lib.hid ((hb1.block (w.heap.size + 2) (by omega)).trans HH.out.2.2.1); have B1 := HH.out.2.2.2.1.trans (hb1.mono (by omega)); have s1 : w.heap.size + 3 ≤ w1.heap.size := HH.out.2.2.2.2 ▸ hb1.size; clear hb1 HH HW) | (refine store_new rfl 147 (.tmp 5) (.tmp 11) rfl rfl w1 _ _ 147 rfl rfl rfl (by kernel_rfl) rfl (row_one _ _ _) ?_; intro w2 hh2 hb2 s2; have HA2 := Lib.hid ((hb2.block w.heap.size (by omega)).trans HA1.out); have HZ2 := Lib.hid ((hb2.block (w.heap.size + 2) (by omega)).trans HZ1.out); have B2 := below_next B1 hb2; have HS2 := Lib.hid hh2; clear HA1 HZ1 B1 hh2 hb2) | (go_at_call 92; refine (ref2Constants_any _).mono ?_; rintro e w3 ⟨rfl, hb3⟩; have HA3 := Lib.hid ((hb3.block w.heap.size (by omega)).trans HA2.out); have HZ3 := Lib.hid ((hb3.block (w.heap.size + 2) (by omega)).trans HZ2.out); have HS3 := Lib.hid ((hb3.block w1.heap.size s2).trans HS2.out); have B3 := below_next B2 hb3; have s3 : w1.heap.size < w3.heap.size := Nat.lt_of_lt_of_le s2 hb3.size; clear HA2 HZ2 HS2 B2 hb3 s2) | (refine store_new rfl 147 (.tmp 6) (.tmp 12) rfl rfl w3 _ _ 147 rfl rfl rfl (by kernel_rfl) rfl (row_one _ _ _) ?_; intro w4 hh4 hb4 s4; have HA4 := Lib.hid ((hb4.block w.heap.size (by omega)).trans HA3.out); have HZ4 := Lib.hid ((hb4.block (w.heap.size + 2) (by omega)).trans HZ3.out); have HS4 := Lib.hid ((hb4.block w1.heap.size s3).trans HS3.out); have HK4 := Lib.hid hh4; have B4 := below_next B3 hb4; clear HA3 HZ3 HS3 B3 hh4 hb4) | (refine wpList_load_row rfl 120 (.tmp 2) rfl w.heap.size rfl 120 _ (0, 0) _ HA4.out Tryz.underlying120 rfl (by kernel_rfl) ?_) | (refine store_new rfl 120 (.tmp 7) (.tmp 13) rfl rfl w4 _ _ 120 rfl rfl rfl (by kernel_rfl) rfl (row_one _ _ _) ?_; intro w5 hh5 hb5 s5; have HA5 := Lib.hid ((hb5.block w.heap.size (by omega)).trans HA4.out); have HZ5 := Lib.hid ((hb5.block (w.heap.size + 2) (by omega)).trans HZ4.out); have HS5 := Lib.hid ((hb5.block w1.heap.size (by omega)).trans HS4.out); have HK5 := Lib.hid ((hb5.block w3.heap.size s4).trans HK4.out); have HR5 := Lib.hid hh5; have B5 := below_next B4 hb5; clear HA4 HZ4 HS4 HK4 B4 hh5 hb5))
  have t3 : w.heap.size + 3 ≤ w3.heap.size := by omega
  have t4 : w.heap.size + 3 ≤ w4.heap.size := by omega
  have t5 : w1.heap.size < w4.heap.size := by omega
  go_loopw [8] (fun c wr => ∃ k : Nat, k ≤ 64 ∧ c = .int .i64 k ∧ wr.heap[w.heap.size]? = some (.cells (row .u32 8 h) 120 (0, 0)) ∧ wr.heap[w.heap.size + 2]? = some (.cells (row .u32 8 fun _ => 0#32) 120 (0, 0)) ∧ wr.heap[w1.heap.size]? = some (.cells (row .u32 64 (sched f)) 147 (0, 0)) ∧ wr.heap[w3.heap.size]? = some (.cells (row .u32 64 kB) 147 (0, 0)) ∧ wr.heap[w4.heap.size]? = some (.cells (row .u32 8 (rounds h (sched f) k)) 120 (0, 0)) ∧ w4.heap.size < wr.heap.size ∧ Below w.heap.size w wr) (fun c _ => 64 - (intOf c).toNat)
  case atStart => exact ⟨0, by omega, rfl, HA5.out, HZ5.out, HS5.out, HK5.out, by rw [rounds_zero]; exact HR5.out, s5, B5⟩
  case round =>
    clear HA5 HZ5 HS5 HK5 HR5 B5 s5
    obtain ⟨k, hk, rfl, ha, hz, hs, hc, hr, hl, hb⟩ := hrel
    by_cases hlt : k < 64
    · have q4 : (k : Int) < 64 := by omega
      obtain ⟨c0, c1, c2, c3, c4, c5, c6, c7⟩ := cells8_of hr
      have d0 := (cell_of_row wr _ k _ _ _ hs).trans (row_get .u32 64 _ k hlt)
      have d1 := (cell_of_row wr _ k _ _ _ hc).trans (row_get .u32 64 _ k hlt)
      have HA := Lib.hid ha
      have HZ := Lib.hid hz
      have HS := Lib.hid hs
      have HC := Lib.hid hc
      have HR := Lib.hid hr
      clear ha hz hs hc hr
      go_wp2
      go_still_tail 7, (by kernel_rfl)
      change wpList _ _ _ _ _ wr.drew
      have ha : wr.drew.heap[w.heap.size]? = _ := HA.out
      have hz : wr.drew.heap[w.heap.size + 2]? = _ := HZ.out
      have hs : wr.drew.heap[w1.heap.size]? = _ := HS.out
      have hc : wr.drew.heap[w3.heap.size]? = _ := HC.out
      have hr : wr.drew.heap[w4.heap.size]? = _ := HR.out
      have hl : w4.heap.size < wr.drew.heap.size := hl
      have hb := below_draws hb 1
      change Below _ _ wr.drew at hb
      clear HA HZ HS HC HR c0 c1 c2 c3 c4 c5 c6 c7 d0 d1
      generalize wr.drew = w6 at *
      have HA := Lib.hid ha
      have HZ := Lib.hid hz
      have HS := Lib.hid hs
      have HC := Lib.hid hc
      have HR := Lib.hid hr
      clear ha hz hs hc hr
      go_wp2_with (first | (go_at_call 93; refine (ref2Round_L' (rounds h (sched f) k) (kB k) (sched f k) _).mono ?_; rintro e w7 ⟨rfl, hb7⟩; have HA7 := Lib.hid ((hb7.block w.heap.size (by omega)).trans HA.out); have HZ7 := Lib.hid ((hb7.block (w.heap.size + 2) (by omega)).trans HZ.out); have HS7 := Lib.hid ((hb7.block w1.heap.size (by omega)).trans HS.out); have HC7 := Lib.hid ((hb7.block w3.heap.size (by omega)).trans HC.out); have HR7 := Lib.hid ((hb7.block w4.heap.size hl).trans HR.out); have B7 := below_next hb hb7; have hl7 : w4.heap.size < w7.heap.size := Nat.lt_of_lt_of_le hl hb7.size; clear HA HZ HS HC HR hb hb7 hl) | (refine store_old rfl 120 (.tmp 7) (.tmp 25) rfl rfl w4.heap.size _ _ 120 HR7.out rfl rfl (by kernel_rfl) ((row_size _ _ _).trans (row_size _ _ _).symm) (row_one _ _ _) ?_; intro w8 hh8 ho8 hs8 hb8; have HA8 := Lib.hid ((ho8 w.heap.size (by omega)).trans HA7.out); have HZ8 := Lib.hid ((ho8 (w.heap.size + 2) (by omega)).trans HZ7.out); have HS8 := Lib.hid ((ho8 w1.heap.size (by omega)).trans HS7.out); have HC8 := Lib.hid ((ho8 w3.heap.size (by omega)).trans HC7.out); have HR8 := Lib.hid hh8; have B8 := hb8 _ _ B7 (by omega); have hl8 : w4.heap.size < w8.heap.size := Nat.lt_of_lt_of_le hl7 hs8; clear HA7 HZ7 HS7 HC7 HR7 hh8 ho8 hs8 hb8 B7 hl7))
      go_roundw
      case rel => exact ⟨k + 1, by omega, by go_num, HA8.out, HZ8.out, HS8.out, HC8.out, by rw [rounds_succ]; exact HR8.out, hl8, B8⟩
      case measure => simp [intOf]; omega
    · obtain rfl : k = 64 := by omega
      have HA := Lib.hid ha
      have HZ := Lib.hid hz
      have HR := Lib.hid hr
      clear ha hz hr hs hc
      go_wp2
      go_loopw [9] (fun c wr => ∃ k : Nat, k ≤ 8 ∧ c = .int .i64 k ∧ wr.heap[w.heap.size]? = some (.cells (row .u32 8 h) 120 (0, 0)) ∧ wr.heap[w.heap.size + 2]? = some (.cells (row .u32 8 fun _ => 0#32) 120 (0, 0)) ∧ wr.heap[w4.heap.size]? = some (.cells (row .u32 8 (mixTo (compressed h f) (rounds h (sched f) 64) k)) 120 (0, 0)) ∧ w4.heap.size < wr.heap.size ∧ Below w.heap.size w wr) (fun c _ => 8 - (intOf c).toNat)
      case atStart => exact ⟨0, by omega, rfl, HA.out, HZ.out, by rw [mix_zero]; exact HR.out, hl, hb⟩
      case round =>
        clear HA HZ HR hl hb
        obtain ⟨k, hk, rfl, ha, hz, hr, hl, hb⟩ := hrel
        by_cases hlt : k < 8
        · have q4 : (k : Int) < 8 := by omega
          have c0 := (cell_of_row wr _ k _ _ _ hr).trans (row_get .u32 8 _ k hlt)
          rw [mix_at] at c0
          have c1 := (cell_of_row wr _ k _ _ _ ha).trans (row_get .u32 8 h k hlt)
          have HA := Lib.hid ha
          have HZ := Lib.hid hz
          have HR := Lib.hid hr
          clear ha hz hr
          go_wp2
          go_still_tail 9, (by kernel_rfl)
          change wpList _ _ _ _ _ wr.drew
          have ha : wr.drew.heap[w.heap.size]? = _ := HA.out
          have hz : wr.drew.heap[w.heap.size + 2]? = _ := HZ.out
          have hr : wr.drew.heap[w4.heap.size]? = _ := HR.out
          have hl : w4.heap.size < wr.drew.heap.size := hl
          have hb := below_draws hb 1
          change Below _ _ wr.drew at hb
          clear HA HZ HR c0 c1
          generalize wr.drew = w6 at *
          have c0 := (cell_of_row w6 _ k _ _ _ hr).trans (row_get .u32 8 _ k hlt)
          have f0 := frozen_of_row w6 _ k _ _ hr
          have HA := Lib.hid ha
          have HZ := Lib.hid hz
          have HR := Lib.hid hr
          clear ha hz hr
          have HE := Lib.hid (compressed_def h f k)
          go_wp2
          go_roundw
          case rel =>
            (repeat apply Exists.intro)
            refine ⟨?_, rfl⟩
            rw [HE.out]
            refine ⟨k + 1, by omega, by go_num, ?_, ?_, ?_, by simpa using hl, hb.setCell (show w.heap.size ≤ w4.heap.size by omega) _⟩
            · rw [heap_setCell_other _ _ _ _ (by simp; omega)]; exact HA.out
            · rw [heap_setCell_other _ _ _ _ (by simp; omega)]; exact HZ.out
            · rw [← mix_set]; exact heap_setCell_same _ _ _ _ _ _ HR.out
          case measure => simp [intOf]; omega
        · obtain rfl : k = 8 := by omega
          rw [mix_full] at hr
          go_wp2_with (first | (refine wpList_load_row rfl 120 (.tmp 7) rfl w4.heap.size rfl 120 _ (0, 0) _ hr Tryz.underlying120 rfl (by kernel_rfl) ?_) | (refine wpList_store_row rfl 120 (.tmp 4) (.tmp 39) rfl (w.heap.size + 2) _ rfl rfl 120 _ hz (by kernel_rfl) ((row_size _ _ _).trans (row_size _ _ _).symm) (row_one _ _ _) ?_))
          exact bodyPost_ret (results_cell_row Tryz.results65 _ _ (w.heap.size + 2) 120 _ (0, 0) _ rfl (setRow_heap _ _ _ _ _ _ hz) Tryz.underlying120 rfl (by kernel_rfl)) rfl ⟨rfl, below_setRow hb (by omega) _⟩
end Go.Proofs.YtppmbdpfledejaaGreatDoor
namespace Go.Proofs.YtppmbdpfledejaaGreatDoor
open Go.RowKit
set_option maxRecDepth 100000 in
set_option maxHeartbeats 4000000 in
theorem refSum_any (bs : List (BitVec 32)) (hbs : ∀ x ∈ bs, u32 x < 256) (hlen : bs.length ≤ 1099511627776) (v : Value) (w : World) (hv : HasBytes w v bs) :
    Calls Tryz.prog 35 #[v] w fun e w' => e = .returned (.agg (row .u8 32 (sumF bs))) ∧ Below w.heap.size w w' := by
  obtain ⟨i0, hi, hz0, hz1, hz2⟩ := info_parts infoByte03
  have HV := Lib.hid hv
  obtain ⟨ao, cap, rfl, -⟩ := hv
  have hpl : (padB bs.length).length ≤ 72 := by rw [padB_length]; have := padZeros_lt bs.length; omega
  have hP64 := paddedB_length bs
  have hPb : ∀ x ∈ paddedB bs, u32 x < 256 := fun x hx => by
    rcases List.mem_append.1 hx with h | h
    · exact hbs x h
    · exact padB_bytes _ x h
  obtain ⟨P, hP⟩ : ∃ P, P = bs ++ padB bs.length := ⟨_, rfl⟩
  have hPl : P.length ≤ 1099511627848 := by rw [hP, List.length_append]; omega
  have hsum : sumF bs = digestF (wordsF P (P.length / 64)) := by rw [hP]; rfl
  rw [show paddedB bs = P from hP.symm] at hP64 hPb
  have HP := Lib.hid hP
  have HSUM := Lib.hid hsum
  have HPB := Lib.hid hPb
  have B0 : Below w.heap.size w ((w.alloc (.cells (row .u8 32 fun _ => 0#32) 31 (0, 0))).alloc (.cells #[] 5 (0, 0))) := ((Below.refl _ _).alloc (Nat.le_refl _) _).alloc (by simp) _
  have HB0 := Lib.hid B0
  clear hP hsum hPb hbs B0
  go_enter Tryz.func35, Tryz.ntmps35
  go_wp2_with (first | (at_builtin; refine append_has rfl (.tmp 12) (.tmp 13) 43 rfl (w.heap.size + 1) 5 i0 Tryz.underlying43 hi hz0 hz1 hz2 _ [] bs rfl ⟨rfl, .inr ⟨w.heap.size + 1, 0, #[], rfl, Nat.le_refl _, alloc2_1 _ _ _, Nat.le_refl _, by decide, rfl, rfl⟩⟩ _ rfl (has_below HV.out HB0.out) (by simp; omega) (by simp) ?_; intro v1 w1 ho1 hg1 hn1; have hb1 := below_grown HB0.out hg1 (by simp; omega) (fun k hk => by cases hk; exact Nat.le_succ _); have hz1' := (hg1.block w.heap.size (by simp; omega) (by show some w.heap.size ≠ some (w.heap.size + 1); simp)).trans (alloc2_0 w (.cells (row .u8 32 fun _ => 0#32) 31 (0, 0)) (.cells #[] 5 (0, 0))); have hv1 : v1 ≠ .slice none 0 0 := hn1 (fun h => by cases h); have HO1 := Lib.hid ho1; have HZ1 := Lib.hid hz1'; have s1 : w.heap.size + 2 ≤ w1.heap.size := (by have := hg1.size; simpa using this); clear hn1 hg1 ho1 hz1') | (go_at_call 64; refine (refPad_any bs.length hlen _).mono ?_; rintro e w2 ⟨v2, rfl, ho2, hb2⟩; have HO2 := Lib.hid (And.intro (own_below HO1.out hb2) (has_of_own ho2)); have HZ2 := Lib.hid ((hb2.block w.heap.size (by omega)).trans HZ1.out); have B2 := hb1.trans (hb2.mono (by omega)); have s2 : w.heap.size + 2 ≤ w2.heap.size := Nat.le_trans s1 hb2.size; clear ho2 hb2 HO1 HZ1 hb1 s1) | (at_builtin; refine append_has rfl (.tmp 15) (.tmp 18) 43 rfl (w.heap.size + 1) 5 i0 Tryz.underlying43 hi hz0 hz1 hz2 v1 bs (padB bs.length) rfl HO2.out.1 v2 rfl HO2.out.2 (by omega) (by omega) ?_; intro v3 w3 ho3 hg3 hn3; rw [← HP.out] at ho3; obtain ⟨g, cap3, cur, rfl, hgb, hgh, hgn, -, -, htk⟩ := own_block ho3 (hn3 hv1); have hrow : ∀ k, v1.ownBlock = some k → w.heap.size + 1 ≤ k := fun k hk => (HO2.out.1.lt k hk).1; have B3 := below_grown B2 hg3 (by omega) (fun k hk => Nat.le_of_succ_le (hrow k hk)); have HZ3 := Lib.hid ((hg3.block w.heap.size (by omega) (fun h => absurd (hrow _ h.symm) (by omega))).trans HZ2.out); have s3 : w.heap.size + 2 ≤ w3.heap.size := Nat.le_trans s2 hg3.size; have hgl : g < w3.heap.size := (Array.getElem?_eq_some_iff.1 hgh).1; have HG3 := Lib.hid hgh; have HTK := Lib.hid htk; clear ho3 hg3 hn3 hrow B2 HZ2 HO2 s2 hv1 hgh htk) | (refine store_new rfl 120 (.tmp 4) (.tmp 20) rfl rfl w3 _ (row .u32 8 firstF) 120 rfl rfl rfl (by kernel_rfl) rfl (row_one _ _ _) ?_; intro w4 hh4 hb4 s4; have HG4 := Lib.hid ((hb4.block g hgl).trans HG3.out); have HZ4 := Lib.hid ((hb4.block w.heap.size (by omega)).trans HZ3.out); have HH4 := Lib.hid hh4; have B4 := B3.trans (hb4.mono (by omega)); clear HG3 HZ3 B3 hb4 hh4))
  have t4 : w.heap.size < w3.heap.size := by omega
  go_loopw [5] (fun c wr => ∃ k : Nat, 64 * k ≤ P.length ∧ c = .int .i64 ((64 * k : Nat) : Int) ∧ wr.heap[w.heap.size]? = some (.cells (row .u8 32 fun _ => 0#32) 31 (0, 0)) ∧ wr.heap[g]? = some (.cells cur 5 (0, 0)) ∧ wr.heap[w3.heap.size]? = some (.cells (row .u32 8 (wordsF P k)) 120 (0, 0)) ∧ w3.heap.size < wr.heap.size ∧ Below w.heap.size w wr) (fun c _ => P.length - (intOf c).toNat)
  case atStart => exact ⟨0, by omega, rfl, HZ4.out, HG4.out, by rw [wordsF_zero]; exact HH4.out, s4, B4⟩
  case round =>
    clear HZ4 HG4 HH4 s4 B4
    obtain ⟨k, hk, rfl, hz, hg, hh, hs, hb⟩ := hrel
    have HZ := Lib.hid hz
    have HG := Lib.hid hg
    have HH := Lib.hid hh
    clear hz hg hh
    obtain ⟨at0, hat⟩ : ∃ a, a = 64 * k := ⟨_, rfl⟩
    rw [← hat] at hk ⊢
    by_cases hlt : at0 < P.length
    · obtain ⟨wo, rfl⟩ : ∃ wo, wo = wr := ⟨_, rfl⟩
      have hat64 : at0 + 64 ≤ P.length := by omega
      have HAT := Lib.hid hat
      clear hat
      go_wp2
      go_loopw [7] (fun c wi => ∃ i : Nat, i ≤ 64 ∧ c = .int .i64 i ∧ wi.heap[w.heap.size]? = some (.cells (row .u8 32 fun _ => 0#32) 31 (0, 0)) ∧ wi.heap[g]? = some (.cells cur 5 (0, 0)) ∧ wi.heap[w3.heap.size]? = some (.cells (row .u32 8 (wordsF P k)) 120 (0, 0)) ∧ wi.heap[wo.heap.size]? = some (.cells (row .u8 64 (upTo (blockF P k) i)) 121 (0, 0)) ∧ wo.heap.size < wi.heap.size ∧ Below w.heap.size w wi) (fun c _ => 64 - (intOf c).toNat)
      case atStart =>
        refine ⟨0, by omega, rfl, ?_, ?_, ?_, ?_, by simp, hb.alloc hb.size _⟩
        · rw [heap_at_alloc, if_neg (by omega)]; exact HZ.out
        · rw [heap_at_alloc, if_neg (by omega)]; exact HG.out
        · rw [heap_at_alloc, if_neg (by omega)]; exact HH.out
        · rw [upTo_zero]; exact heap_last _ _
      case round =>
        clear HZ HG HH hb
        obtain ⟨i, hi64, rfl, hz, hg, hh, hx, hsi, hb⟩ := hrel
        by_cases hil : i < 64
        · obtain ⟨p, hp⟩ : ∃ p : Nat, p = at0 + i := ⟨_, rfl⟩
          have e0 := wrap_at ((at0 : Int) + (i : Int)) p (by omega) (by omega)
          have q0 : (p : Int) < (P.length : Int) := by omega
          have q1 : (i : Int) < 64 := by omega
          have c0 := own_cell hg HTK.out rfl p (by omega)
          have c1 := (cell_of_row wr _ i _ _ _ hx).trans (row_get .u8 64 _ i hil)
          have f1 := frozen_of_row wr _ i _ _ hx
          have HE := Lib.hid (show P[p]?.getD 0#32 = blockF P k i by unfold blockF; rw [hp, HAT.out, List.getD_eq_getElem?_getD])
          have HZ := Lib.hid hz
          have HG := Lib.hid hg
          have HH := Lib.hid hh
          have HX := Lib.hid hx
          clear hz hg hh hx hp
          go_wp2
          go_roundw
          case rel =>
            rw [HE.out]
            refine ⟨i + 1, by omega, by go_num, ?_, ?_, ?_, ?_, by simpa using hsi, hb.setCell (show w.heap.size ≤ wo.heap.size by omega) _⟩
            · rw [heap_setCell_other _ _ _ _ (by simp; omega)]; exact HZ.out
            · rw [heap_setCell_other _ _ _ _ (by simp; omega)]; exact HG.out
            · rw [heap_setCell_other _ _ _ _ (by simp; omega)]; exact HH.out
            · rw [← upTo_set]; exact heap_setCell_same _ _ _ _ _ _ HX.out
          case measure => simp [intOf]; omega
        · obtain rfl : i = 64 := by omega
          rw [upTo_full] at hx
          have HZ := Lib.hid hz
          have HG := Lib.hid hg
          have HH := Lib.hid hh
          have HX := Lib.hid hx
          clear hz hg hh hx
          go_wp2_with (first | (refine wpList_load_row rfl 120 (.tmp 4) rfl (w3.heap.size) rfl 120 _ (0, 0) _ HH.out Tryz.underlying120 rfl (by kernel_rfl) ?_) | (refine wpList_load_row rfl 121 (.tmp 6) rfl (wo.heap.size) rfl 121 _ (0, 0) _ HX.out Tryz.underlying121 rfl (by kernel_rfl) ?_) | (go_at_call 65; refine (ref2Compress_any (wordsF P k) (blockF P k) (blockF_lt P HPB.out k) _).mono ?_; rintro e w6 ⟨rfl, hb6⟩; replace HZ := Lib.hid ((hb6.block w.heap.size (by omega)).trans HZ.out); replace HG := Lib.hid ((hb6.block g (by omega)).trans HG.out); replace HH := Lib.hid ((hb6.block w3.heap.size (by omega)).trans HH.out); have B6 := below_next hb hb6; have s6 : w3.heap.size < w6.heap.size := Nat.lt_of_lt_of_le (by omega) hb6.size; clear HX hb hb6 hsi) | (refine store_old rfl 120 (.tmp 4) (.tmp 41) rfl rfl w3.heap.size _ _ 120 HH.out rfl rfl (by kernel_rfl) ((row_size _ _ _).trans (row_size _ _ _).symm) (row_one _ _ _) ?_; intro w8 hh8 ho8 hs8 hb8; replace HZ := Lib.hid ((ho8 w.heap.size (by omega)).trans HZ.out); replace HG := Lib.hid ((ho8 g (by omega)).trans HG.out); replace HH := Lib.hid hh8; have B8 := hb8 _ _ B6 (by omega); have s8 : w3.heap.size < w8.heap.size := Nat.lt_of_lt_of_le s6 hs8; clear hh8 ho8 hs8 hb8 B6 s6))
          go_roundw
          case rel => exact ⟨k + 1, by have := HAT.out; omega, congrArg (Value.int .i64) (by have := HAT.out; omega), HZ.out, HG.out, by rw [wordsF_succ]; exact HH.out, s8, B8⟩
          case measure => simp [intOf]; omega
    · have hk2 : k = P.length / 64 := by omega
      have HH2 := Lib.hid (show wr.heap[w3.heap.size]? = some (.cells (row .u32 8 (wordsF P (P.length / 64))) 120 (0, 0)) from hk2 ▸ HH.out)
      clear HH HG hk2 hat
      generalize wordsF P (P.length / 64) = HF at HH2 HSUM
      have hd : decide ((at0 : Int) < (P.length : Int)) = false := decide_eq_false (by omega)
      obtain ⟨wo, rfl⟩ : ∃ wo, wo = wr := ⟨_, rfl⟩
      go_wp2
      clear hd
      go_loopw [9] (fun c wi => ∃ i : Nat, i ≤ 32 ∧ c = .int .i64 i ∧ wi.heap[w.heap.size]? = some (.cells (row .u8 32 fun _ => 0#32) 31 (0, 0)) ∧ wi.heap[w3.heap.size]? = some (.cells (row .u32 8 HF) 120 (0, 0)) ∧ wi.heap[wo.heap.size]? = some (.cells (row .u8 32 (upTo (digestF HF) i)) 31 (0, 0)) ∧ wo.heap.size < wi.heap.size ∧ Below w.heap.size w wi) (fun c _ => 32 - (intOf c).toNat)
      case atStart =>
        refine ⟨0, by omega, rfl, ?_, ?_, ?_, by simp, hb.alloc hb.size _⟩
        · rw [heap_at_alloc, if_neg (by omega)]; exact HZ.out
        · rw [heap_at_alloc, if_neg (by omega)]; exact HH2.out
        · rw [upTo_zero]; exact heap_last _ _
      case round =>
        clear HZ HH2 hb
        obtain ⟨i, hi32, rfl, hz, hh, hx, hsi, hb⟩ := hrel
        by_cases hil : i < 32
        · obtain ⟨j, hj⟩ : ∃ j : Nat, j = i / 4 := ⟨_, rfl⟩
          obtain ⟨r, hr⟩ : ∃ r : Nat, r = i % 4 := ⟨_, rfl⟩
          have e4 : (i : Int) / 4 = (j : Int) := by omega
          have er : (i : Int) % 4 = (r : Int) := by omega
          have hj8 : (j : Int) < 8 := by omega
          have hr4 : r < 4 := by omega
          have c0 := (cell_of_row wr _ j _ _ _ hh).trans (row_get .u32 8 HF j (by omega))
          have HE := Lib.hid (show (HF j >>> (8 * (3 - r))) &&& 255#32 = digestF HF i by unfold digestF; rw [hj, hr])
          have c1 := (cell_of_row wr _ i _ _ _ hx).trans (row_get .u8 32 _ i hil)
          have f1 := frozen_of_row wr _ i _ _ hx
          have HZ := Lib.hid hz
          have HH := Lib.hid hh
          have HX := Lib.hid hx
          clear hz hh hx hj hr
          go_wp2
          go_loop [10, 11] (fun x c => ∃ m : Nat, r ≤ m ∧ m ≤ 3 ∧ c = .int .i64 m ∧ x = .int .u32 (Go.Proofs.YtppmbdpfledejaaGreatDoor.u32 (HF j >>> (8 * (m - r))))) (fun _ c => 4 - (intOf c).toNat)
          case atStart => exact ⟨r, by omega, by omega, congrArg (Value.int .i64) er, by simp⟩
          case round =>
            obtain ⟨m, hm1, hm2, rfl, rfl⟩ := hrel
            by_cases hm3 : m < 3
            · go_wp2
              go_round
              case rel => exact ⟨m + 1, by omega, by omega, by go_num, by rw [u32_tdiv256, digest_step, show 8 * (m - r) + 8 = 8 * (m + 1 - r) from by omega]⟩
              case measure => simp [intOf]; omega
            · obtain rfl : m = 3 := by omega
              go_wp2
              rw [HE.out]
              go_roundw
              case rel =>
                refine ⟨i + 1, by omega, by go_num, ?_, ?_, ?_, by simpa using hsi, hb.setCell (show w.heap.size ≤ wo.heap.size by omega) _⟩
                · rw [heap_setCell_other _ _ _ _ (by simp; omega)]; exact HZ.out
                · rw [heap_setCell_other _ _ _ _ (by simp; omega)]; exact HH.out
                · rw [← upTo_set]; exact heap_setCell_same _ _ _ _ _ _ HX.out
              case measure => simp [intOf]; omega
        · obtain rfl : i = 32 := by omega
          rw [upTo_full, ← HSUM.out] at hx
          go_wp2_with (first | (refine wpList_load_row rfl 31 (.tmp 8) rfl wo.heap.size rfl 31 _ (0, 0) _ hx Tryz.underlying31 rfl (by kernel_rfl) ?_) | (refine wpList_store_row rfl 31 (.tmp 2) (.tmp 63) rfl w.heap.size _ rfl rfl 31 _ hz (by kernel_rfl) ((row_size _ _ _).trans (row_size _ _ _).symm) (row_one _ _ _) ?_))
          exact bodyPost_ret (results_cell_row Tryz.results35 _ _ w.heap.size 31 _ (0, 0) _ rfl (setRow_heap _ _ _ _ _ _ hz) Tryz.underlying31 rfl (by kernel_rfl)) rfl ⟨rfl, below_setRow hb (by omega) _⟩
end Go.Proofs.YtppmbdpfledejaaGreatDoor
