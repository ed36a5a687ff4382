/-
What package hexa owes, as contracts; and the walk that all statements of layer 4 begin with.
-/
import Derived.Test.YtikhmhgjaipnaaaDoorHexa
import Derived.Test.YtikhmhgjaipnaaaDoorProg
import Derived.WalkKit
import Derived.Lib.Hide
import Derived.WalkLawsBesides
import Derived.Lib.ItoaNum
import Derived.Lib.LaidTab
namespace Go.Proofs.YtikhmhgjaipnaaaDoor
open Go.RowKit
/-- The table of the powers of ten, as strconv lays it. -/
def PowTab (w : World) : Prop := Lib.TabIs Tryd.prog w "internal/strconv.uint64pow10" .u64 Lib.pow10Tab
theorem gPow : Tryd.prog.globalNamed "internal/strconv.uint64pow10" = some 0 := by kernel_rfl
theorem powTab_below {w w' : World} (h : PowTab w) (hb : Below w.heap.size w w') : PowTab w' := by
  unfold PowTab Lib.TabIs World.var? at h ⊢
  rw [gPow] at h ⊢
  simp only [Option.bind_some] at h ⊢
  have hlt : 0 < w.heap.size := by
    rcases Nat.lt_or_ge 0 w.heap.size with h' | h'
    · exact h'
    · rw [Array.getElem?_eq_none h'] at h; cases h
  rw [hb.block _ hlt]
  exact h
theorem powTab_alloc {w : World} (h : PowTab w) (o : Obj) : PowTab (w.alloc o) := powTab_below h ((Below.refl _ _).alloc (Nat.le_refl _) _)
structure HexaFace : Prop where
  text : ∀ w (f : Nat → BitVec 32), (∀ i, u32 (f i) < 256) → Calls Tryd.prog 12 #[.agg (row .u8 32 f)] w fun e w' => e = .returned (.string (str (textF f))) ∧ Below w.heap.size w w'
  parse : ∀ w (s : List UInt8), s.length < 9223372036854775808 → Calls Tryd.prog 10 #[.string (str s)] w fun e w' => e = .returned (.tuple #[rowV .u8 32 (parsed s), .int .i64 (parseErr s)]) ∧ Below w.heap.size w w'
  number : ∀ w (n : Int), -9223372036854775808 ≤ n → n < 9223372036854775808 → PowTab w → Calls Tryd.prog 16 #[.int .i64 n] w fun e w' => e = .returned (.string (str (numL n))) ∧ Below w.heap.size w w'
  read : ∀ w (s : List UInt8) (most : Int), s.length < 9223372036854775808 → -9223372036854775808 ≤ most → most < 9223372036854775808 → Calls Tryd.prog 14 #[.string (str s), .int .i64 most] w fun e w' => e = .returned (.tuple #[.int .i64 (readN s most), .int .i64 (readErr s most)]) ∧ Below w.heap.size w w'
def dF (i : Nat) : BitVec 32 := if i = 0 then 255#32 else 0#32
theorem dF_lt (i : Nat) : u32 (dF i) < 256 := by unfold dF; split <;> decide
theorem built_ff : Tryd.prog.built 23 [(0, .int .u8 255)] = some (row .u8 32 dF) := by kernel_rfl
theorem cellsByte : Tryd.prog.cellsOf 5 = 1 := by kernel_rfl
theorem digestGuard : Tryd.prog.eqGuardType Tryd.prog.depth 23 = false := by kernel_rfl
theorem parsed_text (f : Nat → BitVec 32) (hf : ∀ i, u32 (f i) < 256) : rowV .u8 32 (parsed (textF f)) = rowV .u8 32 f ∧ parseErr (textF f) = 0 := by
  have h := isText_textF f hf
  refine ⟨?_, by simp [parseErr, h]⟩
  unfold rowV
  rw [show parsed (textF f) = parseF (textF f) by simp [parsed, h]]
  exact congrArg _ (row_congr _ _ _ _ fun j hj => parse_text f hf j hj)
theorem ff_two : (textF dF).take 2 = [102, 102] := by decide +kernel
theorem num12 : numL (-12) = [45, 49, 50] := by
  rw [show (-12 : Int) = -((12 : Nat) : Int) from rfl]
  unfold numL
  rw [if_pos (by omega), show (-((12 : Nat) : Int)).natAbs = 12 from rfl, digs_hi 12 (by omega), digs_lo (12 / 10) (by omega)]; rfl
theorem read7 : readErr [55] 6 = 8 ∧ readN [55] 6 = 0 := by
  have h : isNum [55] = true := by
    have := isNum_digs 7 (by omega)
    rwa [digs_lo 7 (by omega)] at this
  have hv : valN [55] = 7 := by have := valN_digs 7; rwa [digs_lo 7 (by omega)] at this
  simp [readErr, readN, h, hv]
theorem read07 : readErr [48, 55] 9 = 2 ∧ readN [48, 55] 9 = 0 := by
  have hv : valN [48, 55] = 7 := by
    rw [show ([48, 55] : List UInt8) = ([] ++ [48]) ++ [55] from rfl, valN_snoc, valN_snoc, valN_nil]; rfl
  have h : isNum [48, 55] = false := by simp [isNum, hv, digs_lo]
  simp [readErr, readN, h]
theorem slice_to {P : Program} (w : World) (t : TypeId) (l : List UInt8) (n : Nat) (hn : n ≤ l.length) (ht : P.underlying t = some .string) : (Instr.slice t (.string (str l)) none (some (.int .i64 (n : Int))) none).run P w = .ok (.string (str (l.take n))) w := by
  rw [run_slice_string_h w t (str l) ht .i64 n (by omega) (by rw [str_size]; omega)]
  have e : (str l).extract 0 (n : Int).toNat = str (l.take n) := by
    unfold str; rw [ByteArray.extract_mk]; simp
  rw [e]
set_option maxHeartbeats 4000000 in
theorem awake4_any (F : HexaFace) (w : World) (hT : PowTab w) : Calls Tryd.prog 9 #[] w fun e w' => e = .returned (.bool true) ∧ Below w.heap.size w w' := by
  obtain ⟨s, hs⟩ : ∃ s, s = textF dF := ⟨_, rfl⟩
  have hlen : s.length = 64 := by rw [hs]; exact textF_length _
  have hp := parsed_text dF dF_lt
  rw [← hs] at hp
  have h2 : s.take 2 = [102, 102] := by rw [hs]; exact ff_two
  have HS := Lib.hid (And.intro hs hp)
  have hsz : (str s).size = 64 := by rw [str_size, hlen]
  have hff : ((str s).extract 0 2).toList = [102, 102] := by
    rw [show (str s).extract 0 2 = str (s.take 2) from by unfold str; rw [ByteArray.extract_mk]; simp, h2]; exact str_toList _
  have hq := eql_rowV (P := Tryd.prog) Tryd.underlying23 Tryd.underlying5 cellsByte dF dF (sameRow_self 32 dF)
  have hgd := guard_rowV (P := Tryd.prog) digestGuard (.tmp 34) (.tmp 35) .u8 32 dF dF
  have hff2 : (ByteArray.mk #[102, 102]).toList = [102, 102] := ByteArray.toList_mk [102, 102]
  have h12 : (str [45, 49, 50]).toList = [45, 49, 50] := str_toList _
  have h122 : (ByteArray.mk #[45, 49, 50]).toList = [45, 49, 50] := ByteArray.toList_mk [45, 49, 50]
  have R7 := Lib.hid (show ∀ w, Calls Tryd.prog 14 #[.string ⟨#[55]⟩, .int .i64 6] w fun e w' => e = .returned (.tuple #[.int .i64 0, .int .i64 8]) ∧ Below w.heap.size w w' from fun w => by
    have h := F.read w [55] 6 (by decide) (by decide) (by decide)
    rw [read7.1, read7.2] at h
    exact h)
  have R07 := Lib.hid (show ∀ w, Calls Tryd.prog 14 #[.string ⟨#[48, 55]⟩, .int .i64 9] w fun e w' => e = .returned (.tuple #[.int .i64 0, .int .i64 2]) ∧ Below w.heap.size w w' from fun w => by
    have h := F.read w [48, 55] 9 (by decide) (by decide) (by decide)
    rw [read07.1, read07.2] at h
    exact h)
  have N12 := Lib.hid (show ∀ w, PowTab w → Calls Tryd.prog 16 #[.int .i64 (-12)] w fun e w' => e = .returned (.string (str [45, 49, 50])) ∧ Below w.heap.size w w' from fun w hT => by
    have h := F.number w (-12) (by decide) (by decide) hT
    rwa [num12] at h)
  have HT := Lib.hid hT
  clear hs hp h2 hT
  go_enter Tryd.func9, Tryd.ntmps9
  go_wp2_with (first
    | (refine build_as rfl 23 #[(0, .const (.int .u8 255))] rfl _ _ built_ff (by simp [Act.eval]) ?_)
    | (refine store_new rfl 23 (.tmp 1) (.tmp 9) rfl rfl w (row .u8 32 fun _ => 0#32) (row .u8 32 dF) 23 rfl rfl rfl (by kernel_rfl) rfl (row_one _ _ _) ?_; intro w1 hh1 hb1 hs1; have HD1 := Lib.hid hh1; have HB1 := Lib.hid hb1; clear hh1 hb1)
    | (refine wpList_load_row rfl 23 (.tmp 1) rfl w.heap.size rfl 23 _ (0, 0) _ HD1.out Tryd.underlying23 rfl (by kernel_rfl) ?_)
    | (go_at_call 12; refine (F.text _ dF dF_lt).mono ?_; rintro e w2 ⟨rfl, hb2⟩; rw [← HS.out.1]; have HD2 := Lib.hid ((hb2.block _ hs1).trans HD1.out); have HB2 := Lib.hid (below_next HB1.out hb2); have hs2 := Nat.lt_of_lt_of_le hs1 hb2.size; clear HD1 HB1 hb2)
    | (go_at_call 10; refine (F.parse _ s (by omega)).mono ?_; rintro e w3 ⟨rfl, hb3⟩; rw [HS.out.2.1, HS.out.2.2, show rowV .u8 32 dF = .agg (row .u8 32 dF) from rfl]; have HD3 := Lib.hid ((hb3.block _ hs2).trans HD2.out); have HB3 := Lib.hid (below_next HB2.out hb3); have hs3 := Nat.lt_of_lt_of_le hs2 hb3.size; clear HD2 HB2 hb3)
    | (refine store_new rfl 23 (.tmp 3) (.tmp 15) rfl rfl w3 (row .u8 32 fun _ => 0#32) (row .u8 32 dF) 23 rfl rfl rfl (by kernel_rfl) rfl (row_one _ _ _) ?_; intro w4 hh4 hb4 hs4; have HE4 := Lib.hid hh4; have HD4 := Lib.hid ((hb4.block _ hs3).trans HD3.out); have HB4 := Lib.hid (below_next HB3.out hb4); have hs4' := Nat.lt_of_lt_of_le hs3 hb4.size; clear hh4 hb4 HD3 HB3)
    | (go_at_call 14; with_reducible refine (R7.out _).mono ?_; rintro e w5 ⟨rfl, hb⟩; have HE5 := Lib.hid ((hb.block _ hs4).trans HE4.out); have HD5 := Lib.hid ((hb.block _ hs4').trans HD4.out); have HB5 := Lib.hid (below_next HB4.out hb); have hs5 := Nat.lt_of_lt_of_le hs4 hb.size; have hs5' := Nat.lt_of_lt_of_le hs4' hb.size; clear HD4 HE4 HB4 hb)
    | (go_at_call 14; with_reducible refine (R07.out _).mono ?_; rintro e w6 ⟨rfl, hb⟩; have HE6 := Lib.hid ((hb.block _ hs5).trans HE5.out); have HD6 := Lib.hid ((hb.block _ hs5').trans HD5.out); have HB6 := Lib.hid (below_next HB5.out hb); have hs6 := Nat.lt_of_lt_of_le hs5 hb.size; have hs6' := Nat.lt_of_lt_of_le hs5' hb.size; clear HD5 HE5 HB5 hb)
    | (go_at_call 16; with_reducible refine (N12.out _ (powTab_below HT.out HB6.out)).mono ?_; rintro e w7 ⟨rfl, hb⟩; have HE7 := Lib.hid ((hb.block _ hs6).trans HE6.out); have HD7 := Lib.hid ((hb.block _ hs6').trans HD6.out); have HB7 := Lib.hid (below_next HB6.out hb); have hs7 := Nat.lt_of_lt_of_le hs6 hb.size; have hs7' := Nat.lt_of_lt_of_le hs6' hb.size; clear HD6 HE6 HB6 hb)
    | (refine load_row_on (by rfl) 23 (.tmp 3) rfl w3.heap.size rfl 23 _ (0, 0) _ HE6.out Tryd.underlying23 rfl (by kernel_rfl) ?_)
    | (refine load_row_on (by rfl) 23 (.tmp 1) rfl w.heap.size rfl 23 _ (0, 0) _ HD6.out Tryd.underlying23 rfl (by kernel_rfl) ?_; rw [show Value.agg (row .u8 32 dF) = rowV .u8 32 dF from rfl]))
  go_ret
  exact ⟨rfl, HB7.out⟩
end Go.Proofs.YtikhmhgjaipnaaaDoor
