/-
Texts that all claims of this seat share, part 2: Ref07, Ref07Put, Ref07Get, Ref08, Ref08Put.
-/
import Derived.Deep.DeepCutAuto
import Derived.BigQuiet
import Derived.Deep.QuietTactic
import Derived.Test.YtocpplnnnflekaaDoorPk1
namespace Go.Proofs.YtocpplnnnflekaaDoor
open Go.RowKit
theorem putT_le (n w : Int) : (putT n w).length ≤ 255 := by
  by_cases h : putErr n w = 0
  · rw [(get_put n w h).2.2]; have := ((putErr_ok n w).1 h).2.1; omega
  · rw [putT, if_neg h]; exact Nat.zero_le _
theorem fieldT_le (s : List UInt8) (w : Int) : (fieldT s w).length ≤ 255 := by
  by_cases h : fieldErr s w = 0
  · rw [fieldT_length s w h]; have := ((fieldErr_ok s w).1 h).2.1; omega
  · rw [fieldT, if_neg h]; exact Nat.zero_le _
theorem len_step {a b : List UInt8} {k : Nat} (ha : a.length ≤ k) (hb : b.length ≤ 255) : (a ++ b).length ≤ k + 255 := by rw [List.length_append]; omega
theorem ownsB_base {w : World} {base base' : Nat} {e : TypeId} {v : Value} {l : List UInt8} (h : OwnsB w base e v l) (hb : base' ≤ base) : OwnsB w base' e v l := by
  obtain ⟨g, cap, cur, fr, e1, h1, rest⟩ := h
  exact ⟨g, cap, cur, fr, e1, Nat.le_trans hb h1, rest⟩
set_option maxRecDepth 100000 in
set_option maxHeartbeats 4000000 in
theorem refNumber_any (n width : Int) (hn1 : -9223372036854775808 ≤ n) (hn2 : n < 9223372036854775808) (b : List UInt8) (hb : b.length ≤ 100000) (v : Value) (w : World) (hv : HasText w v b) :
    Calls Tryd.prog 34 #[v, .int .i64 n, .int .i64 width] w fun e w' => ∃ v', e = .returned v' ∧ OwnsB w' w.heap.size 5 v' (b ++ putT n width) ∧ Below w.heap.size w w' := by
  obtain ⟨i0, hi, hz0, hz1, hz2⟩ := info_parts infoByte
  have P := Lib.hid (fun w => refPut_any n width hn1 hn2 w)
  have HL := Lib.hid (And.intro hb (putT_le n width))
  have HV := Lib.hid hv
  obtain ⟨ao, cap, rfl⟩ := text_shape hv _ rfl
  generalize putT n width = T at *
  generalize putErr n width = E at *
  clear hb hv hn1 hn2
  go_enter Tryd.func34, Tryd.ntmps34
  go_wp2_with (first
    | (go_at_call 50; refine (P.out _).mono ?_; rintro e w1 ⟨v1, rfl, ht, hbl⟩; obtain ⟨ao1, cap1, rfl⟩ := text_shape ht _ rfl; have HT := Lib.hid ht; have HB := Lib.hid hbl; have HV1 := Lib.hid (text_below HV.out hbl); clear ht hbl)
    | (at_builtin; refine append_owns_list rfl (.tmp 16) (.tmp 17) 25 rfl w.heap.size 5 i0 Tryd.underlying25 hi hz0 hz1 hz2 _ [] b rfl (ownsB_nil w1 5 w.heap.size HB.out.size) _ rfl (text_below HV1.out ((Below.refl _ _).alloc (Nat.le_refl _) _)) (by have := HL.out.1; simp; omega) (by have := HB.out.size; simp; omega) ?_; intro v2 w2 ho2 hg2; have HB2 := Lib.hid (below_grown (HB.out.alloc HB.out.size _) hg2 (by have := HB.out.size; simp; omega) (fun k hk => (ownsB_lt (ownsB_nil w1 5 w.heap.size HB.out.size) k hk).1)); have HT2 := Lib.hid (text_below HT.out (below_grown ((Below.refl _ _).alloc (Nat.le_refl _) _) hg2 (by simp) (fun k hk => (ownsB_lt (ownsB_nil w1 5 w1.heap.size (Nat.le_refl _)) k hk).1))); have HO2 := Lib.hid ho2; clear ho2 hg2)
    | (at_builtin; refine append_owns_list rfl (.tmp 19) (.tmp 20) 25 rfl w.heap.size 5 i0 Tryd.underlying25 hi hz0 hz1 hz2 _ ([] ++ b) T rfl HO2.out _ rfl HT2.out (by have := HL.out; simp; omega) HB2.out.size ?_; intro v3 w3 ho3 hg3; have HB3 := Lib.hid (below_grown HB2.out hg3 HB2.out.size (fun k hk => (ownsB_lt HO2.out k hk).1)); have HO3 := Lib.hid ho3; clear ho3 hg3))
  go_ret
  exact ⟨_, rfl, by have h := HO3.out; rwa [List.nil_append] at h, HB3.out⟩
set_option maxRecDepth 100000 in
set_option maxHeartbeats 4000000 in
theorem refTextF_any (s : List UInt8) (hs : s.length < 4611686018427387904) (width : Int) (b : List UInt8) (hb : b.length ≤ 100000) (v : Value) (w : World) (hv : HasText w v b) :
    Calls Tryd.prog 33 #[v, .string (str s), .int .i64 width] w fun e w' => ∃ v', e = .returned v' ∧ OwnsB w' w.heap.size 5 v' (b ++ fieldT s width) ∧ Below w.heap.size w w' := by
  obtain ⟨i0, hi, hz0, hz1, hz2⟩ := info_parts infoByte
  have P := Lib.hid (fun w => refField_any s hs width w)
  have HL := Lib.hid (And.intro hb (fieldT_le s width))
  have HV := Lib.hid hv
  obtain ⟨ao, cap, rfl⟩ := text_shape hv _ rfl
  generalize fieldT s width = T at *
  generalize fieldErr s width = E at *
  clear hb hv
  go_enter Tryd.func33, Tryd.ntmps33
  go_wp2_with (first
    | (go_at_call 49; refine (P.out _).mono ?_; rintro e w1 ⟨v1, rfl, ht, hbl⟩; obtain ⟨ao1, cap1, rfl⟩ := text_shape ht _ rfl; have HT := Lib.hid ht; have HB := Lib.hid hbl; have HV1 := Lib.hid (text_below HV.out hbl); clear ht hbl)
    | (at_builtin; refine append_owns_list rfl (.tmp 16) (.tmp 17) 25 rfl w.heap.size 5 i0 Tryd.underlying25 hi hz0 hz1 hz2 _ [] b rfl (ownsB_nil w1 5 w.heap.size HB.out.size) _ rfl (text_below HV1.out ((Below.refl _ _).alloc (Nat.le_refl _) _)) (by have := HL.out.1; simp; omega) (by have := HB.out.size; simp; omega) ?_; intro v2 w2 ho2 hg2; have HB2 := Lib.hid (below_grown (HB.out.alloc HB.out.size _) hg2 (by have := HB.out.size; simp; omega) (fun k hk => (ownsB_lt (ownsB_nil w1 5 w.heap.size HB.out.size) k hk).1)); have HT2 := Lib.hid (text_below HT.out (below_grown ((Below.refl _ _).alloc (Nat.le_refl _) _) hg2 (by simp) (fun k hk => (ownsB_lt (ownsB_nil w1 5 w1.heap.size (Nat.le_refl _)) k hk).1))); have HO2 := Lib.hid ho2; clear ho2 hg2)
    | (at_builtin; refine append_owns_list rfl (.tmp 19) (.tmp 20) 25 rfl w.heap.size 5 i0 Tryd.underlying25 hi hz0 hz1 hz2 _ ([] ++ b) T rfl HO2.out _ rfl HT2.out (by have := HL.out; simp; omega) HB2.out.size ?_; intro v3 w3 ho3 hg3; have HB3 := Lib.hid (below_grown HB2.out hg3 HB2.out.size (fun k hk => (ownsB_lt HO2.out k hk).1)); have HO3 := Lib.hid ho3; clear ho3 hg3))
  go_ret
  exact ⟨_, rfl, by have h := HO3.out; rwa [List.nil_append] at h, HB3.out⟩
end Go.Proofs.YtocpplnnnflekaaDoor
namespace Go.Proofs.YtocpplnnnflekaaDoor
open Go.RowKit
theorem check_sum {n : Nat} (h : n ≤ 130560) : IntKind.i64.wrap (n : Int) = (n : Int) := by rw [IntKind.wrap_i64]; omega
/-- A sum that is laid in, up to its k-th byte. -/
def mixS (pre name : List UInt8) (size : Int) (k : Nat) : List UInt8 := hdrA name size ++ (((sumB (hdrS pre name size)).take k ++ blank8.drop k) ++ hdrC pre)
theorem mixH_zero (pre name : List UInt8) (size : Int) : mixS pre name size 0 = hdr0 pre name size := by rw [mixS, hdr0, List.take_zero, List.nil_append, List.drop_zero]
theorem mixH_eight {pre name : List UInt8} {size : Int} (h : Fit pre name size) : mixS pre name size 8 = hdrL pre name size := by
  rw [mixS, hdrL, List.take_of_length_le (by rw [sumB_len (hdrS_lt h)]; exact Nat.le_refl 8), List.drop_of_length_le (by rw [blank8_eq]; exact Nat.le_refl 8), List.append_nil]
theorem mixH_next {pre name : List UInt8} {size : Int} (h : Fit pre name size) {k : Nat} (hk : k < 8) {c : UInt8} (hc : (sumB (hdrS pre name size))[k]? = some c) : (mixS pre name size k).set (148 + k) c = mixS pre name size (k + 1) := by
  have hA := hdrA_len h
  have hS := sumB_len (hdrS_lt h)
  have hB : blank8.length = 8 := by rw [blank8_eq]; rfl
  have ht : ((sumB (hdrS pre name size)).take k).length = k := by rw [List.length_take]; omega
  rw [mixS, mixS, List.set_append_right _ _ (by omega), hA, Nat.add_sub_cancel_left, List.set_append_left _ _ (by rw [List.length_append, ht, List.length_drop]; omega), List.set_append_right _ _ (by omega), ht, Nat.sub_self, List.drop_eq_getElem_cons (by omega), List.set_cons_zero]
  obtain ⟨hlt, rfl⟩ := List.getElem?_eq_some_iff.1 hc
  rw [List.take_succ_eq_append_getElem hlt]
  simp only [List.append_assoc, List.cons_append, List.nil_append]
theorem mixH_len {pre name : List UInt8} {size : Int} (h : Fit pre name size) {k : Nat} (hk : k ≤ 8) : (mixS pre name size k).length = 512 := by
  have hS := sumB_len (hdrS_lt h)
  have hB : blank8.length = 8 := by rw [blank8_eq]; rfl
  rw [mixS, List.length_append, List.length_append, List.length_append, hdrA_len h, hdrC_len h, List.length_take, List.length_drop]; omega
theorem mixH_at {pre name : List UInt8} {size : Int} (h : Fit pre name size) {k : Nat} (hk : k < 8) : (mixS pre name size k).getD (148 + k) 0 = 32 := by
  have hA := hdrA_len h
  have hS := sumB_len (hdrS_lt h)
  have ht : ((sumB (hdrS pre name size)).take k).length = k := by rw [List.length_take]; omega
  rw [List.getD_eq_getElem?_getD, mixS, List.getElem?_append_right (by omega), hA, Nat.add_sub_cancel_left, List.append_assoc, List.getElem?_append_right (by omega), ht, Nat.sub_self, blank8_eq]
  match k, hk with
  | 0, _ | 1, _ | 2, _ | 3, _ | 4, _ | 5, _ | 6, _ | 7, _ => rfl
set_option maxRecDepth 100000 in
set_option maxHeartbeats 8000000 in
/-- The fields of a header, one behind the other, and its sum. -/
theorem refPut7_fields (pre name : List UInt8) (size : Int) (hf : Fit pre name size) (hsz : 0 ≤ size ∧ size ≤ 4194304) (p : List UInt8) (hsp : splitR p = some (pre, name)) (hp : p.length < 4611686018427387904) (w : World) :
    Calls Tryd.prog 24 #[.string (str p), .int .i64 size] w fun e w' => ∃ v, e = .returned (.tuple #[v, .int .i64 0]) ∧ HasText w' v (hdrL pre name size) ∧ Below w.heap.size w w' := by
  obtain ⟨i0, hi, hz0, hz1, hz2⟩ := info_parts infoByte
  have hs := split_some hsp
  have hname : name.length < 4611686018427387904 := by omega
  have hpre : pre.length < 4611686018427387904 := by omega
  have SP := Lib.hid (fun w => refSplit_any p hp w)
  rw [show splitA p = pre by rw [splitA, hsp], show splitB p = name by rw [splitB, hsp], show splitErr p = 0 by rw [splitErr, hsp]] at SP
  have HF := Lib.hid hf
  clear hs hsp hp
  have d1 : decide (size < 0) = false := decide_eq_false (by omega)
  have d2 : decide (size > 4194304) = false := decide_eq_false (by omega)
  go_enter Tryd.func24, Tryd.ntmps24
  go_upto_region 6 with (first | (go_at_call 32; refine (SP.out _).mono ?_; rintro e w1 ⟨rfl, hb⟩; have HB := Lib.hid hb; clear hb))
  have HT := Lib.hid (hasText_nil w1)
  have HL := Lib.hid (show ([] : List UInt8).length ≤ 0 from Nat.le_refl 0)
  go_upto_region 7 with (first | (go_at_call 33; refine (refTextF_any name hname 100 _ (by have := HL.out; omega) _ _ HT.out).mono ?_; rintro e w6 ⟨v6, rfl, ho, hb⟩; replace HT := Lib.hid (ownsB_has ho); have HO6 := Lib.hid (ownsB_base ho HB.out.size); replace HL := Lib.hid (len_step HL.out (fieldT_le name 100)); replace HB := Lib.hid (below_next HB.out hb); clear ho hb))
  go_upto_region 8 with (first | (go_at_call 34; refine (refNumber_any 420 8 (by omega) (by omega) _ (by have := HL.out; omega) _ _ HT.out).mono ?_; rintro e w7 ⟨v7, rfl, ho, hb⟩; replace HT := Lib.hid (ownsB_has ho); have HO7 := Lib.hid (ownsB_base ho HB.out.size); replace HL := Lib.hid (len_step HL.out (putT_le 420 8)); replace HB := Lib.hid (below_next HB.out hb); clear ho hb))
  clear HO6
  go_upto_region 9 with (first | (go_at_call 34; refine (refNumber_any 0 8 (by omega) (by omega) _ (by have := HL.out; omega) _ _ HT.out).mono ?_; rintro e w8 ⟨v8, rfl, ho, hb⟩; replace HT := Lib.hid (ownsB_has ho); have HO8 := Lib.hid (ownsB_base ho HB.out.size); replace HL := Lib.hid (len_step HL.out (putT_le 0 8)); replace HB := Lib.hid (below_next HB.out hb); clear ho hb))
  clear HO7
  go_upto_region 10 with (first | (go_at_call 34; refine (refNumber_any 0 8 (by omega) (by omega) _ (by have := HL.out; omega) _ _ HT.out).mono ?_; rintro e w9 ⟨v9, rfl, ho, hb⟩; replace HT := Lib.hid (ownsB_has ho); have HO9 := Lib.hid (ownsB_base ho HB.out.size); replace HL := Lib.hid (len_step HL.out (putT_le 0 8)); replace HB := Lib.hid (below_next HB.out hb); clear ho hb))
  clear HO8
  go_upto_region 11 with (first | (go_at_call 34; refine (refNumber_any size 12 (by omega) (by omega) _ (by have := HL.out; omega) _ _ HT.out).mono ?_; rintro e w10 ⟨v10, rfl, ho, hb⟩; replace HT := Lib.hid (ownsB_has ho); have HO10 := Lib.hid (ownsB_base ho HB.out.size); replace HL := Lib.hid (len_step HL.out (putT_le size 12)); replace HB := Lib.hid (below_next HB.out hb); clear ho hb))
  clear HO9
  go_upto_region 12 with (first | (go_at_call 34; refine (refNumber_any 0 12 (by omega) (by omega) _ (by have := HL.out; omega) _ _ HT.out).mono ?_; rintro e w11 ⟨v11, rfl, ho, hb⟩; replace HT := Lib.hid (ownsB_has ho); have HO11 := Lib.hid (ownsB_base ho HB.out.size); replace HL := Lib.hid (len_step HL.out (putT_le 0 12)); replace HB := Lib.hid (below_next HB.out hb); clear ho hb))
  clear HO10
  go_upto_region 13 with (first | (go_at_call 33; refine (refTextF_any [32, 32, 32, 32, 32, 32, 32, 32] (by decide) 8 _ (by have := HL.out; omega) _ _ HT.out).mono ?_; rintro e w12 ⟨v12, rfl, ho, hb⟩; replace HT := Lib.hid (ownsB_has ho); have HO12 := Lib.hid (ownsB_base ho HB.out.size); replace HL := Lib.hid (len_step HL.out (fieldT_le [32, 32, 32, 32, 32, 32, 32, 32] 8)); replace HB := Lib.hid (below_next HB.out hb); clear ho hb))
  clear HO11
  go_upto_region 14 with (first | (go_at_call 33; refine (refTextF_any [48] (by decide) 1 _ (by have := HL.out; omega) _ _ HT.out).mono ?_; rintro e w13 ⟨v13, rfl, ho, hb⟩; replace HT := Lib.hid (ownsB_has ho); have HO13 := Lib.hid (ownsB_base ho HB.out.size); replace HL := Lib.hid (len_step HL.out (fieldT_le [48] 1)); replace HB := Lib.hid (below_next HB.out hb); clear ho hb))
  clear HO12
  go_upto_region 15 with (first | (go_at_call 33; refine (refTextF_any [] (by decide) 100 _ (by have := HL.out; omega) _ _ HT.out).mono ?_; rintro e w14 ⟨v14, rfl, ho, hb⟩; replace HT := Lib.hid (ownsB_has ho); have HO14 := Lib.hid (ownsB_base ho HB.out.size); replace HL := Lib.hid (len_step HL.out (fieldT_le [] 100)); replace HB := Lib.hid (below_next HB.out hb); clear ho hb))
  clear HO13
  go_upto_region 16 with (first | (go_at_call 33; refine (refTextF_any [117, 115, 116, 97, 114] (by decide) 6 _ (by have := HL.out; omega) _ _ HT.out).mono ?_; rintro e w15 ⟨v15, rfl, ho, hb⟩; replace HT := Lib.hid (ownsB_has ho); have HO15 := Lib.hid (ownsB_base ho HB.out.size); replace HL := Lib.hid (len_step HL.out (fieldT_le [117, 115, 116, 97, 114] 6)); replace HB := Lib.hid (below_next HB.out hb); clear ho hb))
  clear HO14
  go_upto_region 17 with (first | (go_at_call 33; refine (refTextF_any [48, 48] (by decide) 2 _ (by have := HL.out; omega) _ _ HT.out).mono ?_; rintro e w16 ⟨v16, rfl, ho, hb⟩; replace HT := Lib.hid (ownsB_has ho); have HO16 := Lib.hid (ownsB_base ho HB.out.size); replace HL := Lib.hid (len_step HL.out (fieldT_le [48, 48] 2)); replace HB := Lib.hid (below_next HB.out hb); clear ho hb))
  clear HO15
  go_upto_region 18 with (first | (go_at_call 33; refine (refTextF_any [] (by decide) 32 _ (by have := HL.out; omega) _ _ HT.out).mono ?_; rintro e w17 ⟨v17, rfl, ho, hb⟩; replace HT := Lib.hid (ownsB_has ho); have HO17 := Lib.hid (ownsB_base ho HB.out.size); replace HL := Lib.hid (len_step HL.out (fieldT_le [] 32)); replace HB := Lib.hid (below_next HB.out hb); clear ho hb))
  clear HO16
  go_upto_region 19 with (first | (go_at_call 33; refine (refTextF_any [] (by decide) 32 _ (by have := HL.out; omega) _ _ HT.out).mono ?_; rintro e w18 ⟨v18, rfl, ho, hb⟩; replace HT := Lib.hid (ownsB_has ho); have HO18 := Lib.hid (ownsB_base ho HB.out.size); replace HL := Lib.hid (len_step HL.out (fieldT_le [] 32)); replace HB := Lib.hid (below_next HB.out hb); clear ho hb))
  clear HO17
  go_upto_region 20 with (first | (go_at_call 34; refine (refNumber_any 0 8 (by omega) (by omega) _ (by have := HL.out; omega) _ _ HT.out).mono ?_; rintro e w19 ⟨v19, rfl, ho, hb⟩; replace HT := Lib.hid (ownsB_has ho); have HO19 := Lib.hid (ownsB_base ho HB.out.size); replace HL := Lib.hid (len_step HL.out (putT_le 0 8)); replace HB := Lib.hid (below_next HB.out hb); clear ho hb))
  clear HO18
  go_upto_region 21 with (first | (go_at_call 34; refine (refNumber_any 0 8 (by omega) (by omega) _ (by have := HL.out; omega) _ _ HT.out).mono ?_; rintro e w20 ⟨v20, rfl, ho, hb⟩; replace HT := Lib.hid (ownsB_has ho); have HO20 := Lib.hid (ownsB_base ho HB.out.size); replace HL := Lib.hid (len_step HL.out (putT_le 0 8)); replace HB := Lib.hid (below_next HB.out hb); clear ho hb))
  clear HO19
  go_upto_region 22 with (first | (go_at_call 33; refine (refTextF_any pre hpre 155 _ (by have := HL.out; omega) _ _ HT.out).mono ?_; rintro e w21 ⟨v21, rfl, ho, hb⟩; replace HT := Lib.hid (ownsB_has ho); have HO21 := Lib.hid (ownsB_base ho HB.out.size); replace HL := Lib.hid (len_step HL.out (fieldT_le pre 155)); replace HB := Lib.hid (below_next HB.out hb); clear ho hb))
  clear HO20
  go_upto_region 23 with (first | (go_at_call 33; refine (refTextF_any [] (by decide) 12 _ (by have := HL.out; omega) _ _ HT.out).mono ?_; rintro e w22 ⟨v22, rfl, ho, hb⟩; replace HT := Lib.hid (ownsB_has ho); have HO22 := Lib.hid (ownsB_base ho HB.out.size); replace HL := Lib.hid (len_step HL.out (fieldT_le [] 12)); replace HB := Lib.hid (below_next HB.out hb); clear ho hb))
  clear HO21
  have hL0 : (((((((((((((((((([] : List UInt8) ++ fieldT name 100) ++ putT 420 8) ++ putT 0 8) ++ putT 0 8) ++ putT size 12) ++ putT 0 12) ++ fieldT [32, 32, 32, 32, 32, 32, 32, 32] 8) ++ fieldT [48] 1) ++ fieldT [] 100) ++ fieldT [117, 115, 116, 97, 114] 6) ++ fieldT [48, 48] 2) ++ fieldT [] 32) ++ fieldT [] 32) ++ putT 0 8) ++ putT 0 8) ++ fieldT pre 155) ++ fieldT [] 12) = hdr0 pre name size := by simp only [hdr0, hdrA, hdrC, blank8, List.nil_append, List.append_assoc]
  rw [hL0] at HT HO22
  clear hL0 HL
  have C1 := Lib.hid (show ∀ w v, HasText w v (hdr0 pre name size) → Calls Tryd.prog 35 #[v] w fun e w' => e = .returned (.int .i64 (hdrS pre name size : Int)) ∧ w = w' from fun w v hv => by
    have h := refCheck_any (hdr0 pre name size) (by rw [hdr0_len HF.out]; omega) v w hv
    rwa [← hdrS, check_sum (hdrS_lt HF.out)] at h)
  have hS := hdrS_lt HF.out
  have HSum := Lib.hid (show putT (hdrS pre name size) 7 ++ [32] = sumB (hdrS pre name size) from rfl)
  have H7 := Lib.hid ((get_put _ 7 (put7 hS)).2.2)
  clear hS
  obtain ⟨g1, cap1, rfl, hg1⟩ := ownsB_slice HO22.out
  have HG1 := Lib.hid (And.intro hg1 (ownsB_lt HO22.out g1 rfl).2)
  rw [hdr0_len HF.out] at HO22 HT ⊢
  clear hg1
  have h7 : (putT (hdrS pre name size : Int) 7).length = 7 := H7.out
  go_upto_region 26 with (first
    | (go_at_call 35; refine (C1.out _ _ HT.out).mono ?_; rintro e w23 ⟨rfl, rfl⟩)
    | (go_at_call 34; refine (refNumber_any _ 7 (by omega) (by have := hdrS_lt HF.out; omega) [] (Nat.zero_le _) _ _ (hasText_nil _)).mono ?_; rintro e w23 ⟨v23, rfl, ho, hb⟩; obtain ⟨g2, cap2, rfl, hg2⟩ := ownsB_slice ho; have HO23 := Lib.hid (show OwnsB w23 w22.heap.size 5 (.slice (some ⟨g2, 0, none⟩) 7 cap2) (putT (hdrS pre name size : Int) 7) from (by have h := ho; rw [List.nil_append, H7.out] at h; exact h)); have HP23 := Lib.hid (ownsB_same HO22.out fun k hk => hb.block k (ownsB_lt HO22.out k hk).2); have HB23 := Lib.hid (below_next HB.out hb); have HG2 := Lib.hid (And.intro hg2 hb.size); clear ho hb hg2)
    | (at_builtin; refine append_owns_list rfl (.tmp 66) (.tmp 67) 25 rfl w22.heap.size 5 i0 Tryd.underlying25 hi hz0 hz1 hz2 _ (putT (hdrS pre name size : Int) 7) [32] rfl (ownsB_alloc HO23.out _) _ rfl (text_byte w23 5 32 32 rfl) (by rw [H7.out]; decide) (by have := HG2.out.2; simp; omega) ?_; intro v24 w24 ho24 hg24; obtain ⟨g3, cap3, rfl, hg3⟩ := ownsB_slice ho24; have HO24 := Lib.hid ho24; have HP24 := Lib.hid (ownsB_same (ownsB_alloc HP23.out _) fun k hk => hg24.block k (ownsB_lt (ownsB_alloc HP23.out _) k hk).2 (fun e => by have h1 := (ownsB_lt HO23.out k e.symm).1; have h2 := (ownsB_lt HO22.out k hk).2; omega)); have HB24 := Lib.hid (below_grown (HB23.out.alloc HB23.out.size _) hg24 (by have := HB23.out.size; simp; omega) (fun k hk => by have h1 := (ownsB_lt HO23.out k hk).1; have h2 := HB.out.size; omega)); have HG3 := Lib.hid hg3; clear ho24 hg24 hg3))
  have HQ24 := Lib.hid (show OwnsB w24 w22.heap.size 5 (.slice (some ⟨g3, 0, none⟩) 8 cap3) (sumB (hdrS pre name size)) by
    have h := HO24.out
    rw [HSum.out, sumB_len (hdrS_lt HF.out)] at h; exact h)
  clear h7
  rw [← mixH_zero] at HP24
  clear HT HO22 C1 HSum H7 HO23 HP23 HB23 HO24 HB HG2
  go_loopw [11] (fun c wr => ∃ k : Nat, k ≤ 8 ∧ c = .int .i64 k ∧ OwnsB wr w.heap.size 5 (.slice (some ⟨g1, 0, none⟩) 512 cap1) (mixS pre name size k) ∧ OwnsB wr w22.heap.size 5 (.slice (some ⟨g3, 0, none⟩) 8 cap3) (sumB (hdrS pre name size)) ∧ Below w.heap.size w wr) (fun c _ => 8 - (intOf c).toNat)
  case atStart => exact ⟨0, by omega, rfl, HP24.out, HQ24.out, HB24.out⟩
  case round =>
    clear HP24 HQ24 HB24
    obtain ⟨k, hk, rfl, ho, hq, hb⟩ := hrel
    have HO := Lib.hid ho
    have HQ := Lib.hid hq
    have HB := Lib.hid hb
    clear ho hq hb
    by_cases hlt : k < 8
    · have hS := sumB_len (hdrS_lt HF.out)
      obtain ⟨c, hc⟩ : ∃ c, (sumB (hdrS pre name size))[k]? = some c := ⟨(sumB (hdrS pre name size))[k]'(by omega), List.getElem?_eq_getElem _⟩
      obtain ⟨_, e1, c1, -, -⟩ := ownsB_cell HQ.out k (by omega) c (by rw [List.getD_eq_getElem?_getD, hc]; rfl)
      cases e1
      obtain ⟨_, e2, c2, f2, -⟩ := ownsB_cell HO.out (148 + k) (by rw [mixH_len HF.out hk]; omega) 32 (mixH_at HF.out hlt)
      cases e2
      obtain ⟨hset, hsolo⟩ := ownsB_set HO.out (148 + k) c (.int .u8 (c.toNat : Int)) rfl
      rw [mixH_next HF.out hlt hc] at hset
      have hne : g1 ≠ g3 := by have h1 := HG1.out.2; have h2 := HG3.out; omega
      have HO' := Lib.hid hset
      have HQ' := Lib.hid (ownsB_same HQ.out fun j hj => hsolo.block j (fun e => by subst e; cases hj; exact hne rfl))
      have HB' := Lib.hid (solo_below HB.out hsolo HG1.out.1)
      obtain ⟨j, hj⟩ : ∃ j, j = 148 + k := ⟨_, rfl⟩
      rw [← hj] at c2 f2 HO' HQ' HB'
      have q0 : (k : Int) < 8 := by omega
      have q1 : (148 : Int) + (k : Int) = (j : Int) := by omega
      have q2 : wrap64 (j : Int) = (j : Int) := by rw [wrap64]; omega
      have q3 : IntKind.i64.wrap (j : Int) = (j : Int) := by rw [IntKind.wrap_i64]; omega
      have q4 : (j : Int) < 512 := by omega
      obtain ⟨x, hx⟩ : ∃ x : Nat, x = c.toNat := ⟨_, rfl⟩
      rw [← hx] at c1 HO' HQ' HB'
      have w1 : wrap64 ((k : Int) + 1) = ((k + 1 : Nat) : Int) := next64 k (by omega)
      clear hset hsolo hj hx hc
      go_wp2
      clear q1 q2 q3 q4
      refine ⟨⟨k + 1, hlt, by rw [w1], HO'.out, HQ'.out, HB'.out⟩, ?_⟩
      rw [w1]; simp only [intOf, Int.toNat_natCast]; omega
    · obtain rfl : k = 8 := by omega
      have q0 : ¬ ((8 : Nat) : Int) < 8 := by omega
      have HE := Lib.hid (ownsB_has HO.out)
      rw [mixH_eight HF.out] at HE
      go_wp2
      go_ret2
      exact ⟨_, rfl, HE.out, HB.out⟩
end Go.Proofs.YtocpplnnnflekaaDoor
namespace Go.Proofs.YtocpplnnnflekaaDoor
open Go.RowKit
set_option maxRecDepth 100000 in
set_option maxHeartbeats 4000000 in
theorem refPut7_any (p : List UInt8) (hp : p.length < 4611686018427387904) (n : Int) (w : World) :
    Calls Tryd.prog 24 #[.string (str p), .int .i64 n] w fun e w' => ∃ v, e = .returned (.tuple #[v, .int .i64 (putHErr p n)]) ∧ HasText w' v (putH p n) ∧ Below w.heap.size w w' := by
  have SP := Lib.hid (fun w => refSplit_any p hp w)
  rcases splitErr_cases p with ⟨h0, hr⟩ | ⟨h9, hr⟩
  · by_cases hn : 0 ≤ n ∧ n ≤ 4194304
    · have h := (putHErr_ok p n).2 ⟨hr, hn.1, hn.2⟩
      rw [h, putH, if_pos h]
      exact refPut7_fields _ _ n (fit_of h) hn p hr hp w
    · have h8 : putHErr p n = 8 := by unfold putHErr; rw [if_neg (by omega), if_pos (by omega)]
      have HE := Lib.hid (show putHErr p n = 8 ∧ putH p n = [] from ⟨h8, by rw [putH, if_neg (by omega)]⟩)
      rw [h0] at SP
      clear h8 h0 hr hp
      by_cases h1 : n < 0
      · have d1 : decide (n < 0) = true := decide_eq_true h1
        clear h1 hn
        go_enter Tryd.func24, Tryd.ntmps24
        go_wp2_with (first | (go_at_call 32; refine (SP.out _).mono ?_; rintro e w1 ⟨rfl, hb⟩; have HB := Lib.hid hb; clear hb))
        go_ret2
        rw [HE.out.1, HE.out.2]
        exact ⟨_, rfl, hasText_nil _, HB.out⟩
      · have d1 : decide (n < 0) = false := decide_eq_false h1
        have d2 : decide (n > 4194304) = true := decide_eq_true (by omega)
        clear h1 hn
        go_enter Tryd.func24, Tryd.ntmps24
        go_wp2_with (first | (go_at_call 32; refine (SP.out _).mono ?_; rintro e w1 ⟨rfl, hb⟩; have HB := Lib.hid hb; clear hb))
        go_ret2
        rw [HE.out.1, HE.out.2]
        exact ⟨_, rfl, hasText_nil _, HB.out⟩
  · have h9' : putHErr p n = 9 := by unfold putHErr; rw [if_pos (by omega), h9]
    have HE := Lib.hid (show putHErr p n = 9 ∧ putH p n = [] from ⟨h9', by rw [putH, if_neg (by omega)]⟩)
    rw [h9] at SP
    clear h9' h9 hr hp
    go_enter Tryd.func24, Tryd.ntmps24
    go_wp2_with (first | (go_at_call 32; refine (SP.out _).mono ?_; rintro e w1 ⟨rfl, hb⟩; have HB := Lib.hid hb; clear hb))
    go_ret2
    rw [HE.out.1, HE.out.2]
    exact ⟨_, rfl, hasText_nil _, HB.out⟩
/-- A piece of a slice of bytes. -/
theorem text_mid {w : World} {ad : Addr} {n cap : Nat} {l : List UInt8} (h : HasText w (.slice (some ad) n cap) l) (lo hi : Nat) (h1 : lo ≤ hi) (h2 : hi ≤ l.length) : HasText w (.slice (some (ad.add lo)) (hi - lo) (cap - lo)) ((l.take hi).drop lo) := by
  obtain ⟨ao', cap', e, hnil, hc⟩ := h
  cases e
  have hl : (((l.take hi).drop lo).map w8).length = hi - lo := by rw [List.length_map, List.length_drop, List.length_take]; omega
  refine ⟨_, _, by rw [hl], (fun h => by cases h), fun ad' had => ⟨?_, fun j u hu => ?_⟩⟩
  · have := (hc ad rfl).1
    rw [List.length_map] at this; omega
  · cases had
    rw [bytesL_map, List.getElem?_map, List.getElem?_drop, List.getElem?_take] at hu
    have := (hc ad rfl).2 (lo + j) u (by
      rw [bytesL_map, List.getElem?_map]
      split at hu
      · exact hu
      · cases hu)
    rwa [← Addr.add_add] at this
theorem nameT_le (b : List UInt8) : (nameT b).length ≤ b.length := by
  unfold nameT; split
  · unfold headL; exact (List.takeWhile_sublist _).length_le
  · exact Nat.zero_le _
theorem joinT_le (p n : List UInt8) : (joinT p n).length ≤ p.length + n.length + 1 := by
  unfold joinT joinS; split
  · split
    · omega
    · simp; omega
  · exact Nat.zero_le _
theorem rawPath_le (b : List UInt8) (h : 512 ≤ b.length) : (rawPath b).length ≤ 256 := by
  have h1 := joinT_le (nameT ((b.take 500).drop 345)) (nameT (b.take 100))
  have h2 := nameT_le ((b.take 500).drop 345)
  have h3 := nameT_le (b.take 100)
  rw [List.length_drop, List.length_take] at h2
  rw [List.length_take] at h3
  rw [rawPath]; omega
set_option maxRecDepth 100000 in
set_option maxHeartbeats 8000000 in
theorem refGet7_any (b : List UInt8) (hb : b.length < 4611686018427387904) (v : Value) (w : World) (hv : HasText w v b) :
    Calls Tryd.prog 29 #[v] w fun e w' => e = .returned (.tuple #[.string (str (getHPath b)), .int .i64 (getHSize b), .int .i64 (getHErr b)]) ∧ Below w.heap.size w w' := by
  have HV := Lib.hid hv
  obtain ⟨n, hn⟩ : ∃ n, n = b.length := ⟨_, rfl⟩
  obtain ⟨ao, cap, rfl⟩ := text_shape hv n hn.symm
  have HN := Lib.hid hn
  rw [← hn] at hb
  clear hv hn
  by_cases hs : n < 512
  · have q0 : (n : Int) < 512 := by omega
    have h3 := shorter (x := b) (by rw [← HN.out]; exact hs)
    have hbad := getH_bad (b := b) (by omega)
    have HR := Lib.hid (And.intro h3 hbad)
    clear h3 hbad hs hb
    go_enter Tryd.func29, Tryd.ntmps29
    go_wp2
    go_ret3
    rw [HR.out.1, HR.out.2.1, HR.out.2.2]
    exact ⟨rfl, Below.refl _ _⟩
  · have q0 : ¬ (n : Int) < 512 := by omega
    have hbl : 512 ≤ b.length := by rw [← HN.out]; omega
    obtain ⟨ad, cap', hsl, hcc⟩ : ∃ ad cap', Value.slice ao n cap = .slice (some ad) n cap' ∧ True := by
      obtain ⟨ad, cap', e, -⟩ := text_pos HV.out n 0 HN.out.symm (by omega) _ rfl
      exact ⟨ad, cap', e, trivial⟩
    cases hsl
    have hcap := (text_cap HV.out).2
    have qc : (100 : Int) ≤ (cap : Int) := by omega
    have qc2 : (500 : Int) ≤ (cap : Int) := by omega
    have qc3 : (136 : Int) ≤ (cap : Int) := by omega
    have T1 := Lib.hid (text_take HV.out 100 (by omega))
    have T2 := Lib.hid (text_mid HV.out 345 500 (by omega) (by omega))
    have T3 := Lib.hid (text_mid HV.out 124 136 (by omega) (by omega))
    have N1 := Lib.hid (fun w hv => refName_any (b.take 100) (by rw [List.length_take]; omega) (.slice (some ad) 100 cap) w hv)
    have N2 := Lib.hid (fun w hv => refName_any ((b.take 500).drop 345) (by rw [List.length_drop, List.length_take]; omega) (.slice (some (ad.add 345)) 155 (cap - 345)) w hv)
    have G3 := Lib.hid (fun w hv => refGet_any ((b.take 136).drop 124) (by rw [List.length_drop, List.length_take]; omega) (.slice (some (ad.add 124)) 12 (cap - 124)) w hv)
    have J1 := Lib.hid (show ∀ w, Calls Tryd.prog 42 #[.string (str (nameT ((b.take 500).drop 345))), .string (str (nameT (b.take 100)))] w fun e w' => e = .returned (.tuple #[.string (str (rawPath b)), .int .i64 (rawErr b)]) ∧ Below w.heap.size w w' from fun w => refJoin_any (nameT ((b.take 500).drop 345)) (nameT (b.take 100)) (by have h := nameT_le ((b.take 500).drop 345); rw [List.length_drop, List.length_take] at h; omega) (by have h := nameT_le (b.take 100); rw [List.length_take] at h; omega) w)
    have P1 := Lib.hid (fun w => refPut7_any (rawPath b) (by have := rawPath_le b hbl; omega) (rawSize b) w)
    have hg2 : ¬ isHdr b = true → getHErr b = 2 ∧ getHPath b = [] ∧ getHSize b = 0 := fun h => by
      have h2 : getHErr b = 2 := by unfold getHErr; rw [if_neg (by omega), if_neg h]
      exact ⟨h2, (getH_bad (b := b) (by omega)).1, (getH_bad (b := b) (by omega)).2⟩
    have hg0 : isHdr b = true → getHErr b = 0 ∧ getHPath b = rawPath b ∧ getHSize b = rawSize b := fun h => by
      have h0 := getHErr_zero.2 h
      exact ⟨h0, by rw [getHPath, if_pos h0], by rw [getHSize, if_pos h0]⟩
    have hdef : isHdr b = (rawErr b == 0 && (putHErr (rawPath b) (rawSize b) == 0 && putH (rawPath b) (rawSize b) == b)) := rfl
    have HGG := Lib.hid (And.intro hg2 hg0)
    have HDD := Lib.hid hdef
    have hb1 : (str b).toList = b := str_toList b
    obtain ⟨E, hE⟩ : ∃ E, E = rawErr b := ⟨_, rfl⟩
    obtain ⟨F, hF⟩ : ∃ F, F = putHErr (rawPath b) (rawSize b) := ⟨_, rfl⟩
    obtain ⟨X, hX⟩ : ∃ X, X = putH (rawPath b) (rawSize b) := ⟨_, rfl⟩
    have hX1 : (str X).toList = X := str_toList X
    rw [← hE] at J1 HDD
    rw [← hF, ← hX] at P1
    rw [← hF, ← hX] at HDD
    clear hE hF hX hg2 hg0 hdef hcap hbl hs hb
    by_cases hE0 : E = 0
    · subst hE0
      by_cases hF0 : F = 0
      · subst hF0
        by_cases hXb : X = b
        · have te : (X == b) = true := by rw [beq_iff_eq]; exact hXb
          have HR := Lib.hid (HGG.out.2 (by rw [HDD.out, te]; rfl))
          clear hXb
          go_enter Tryd.func29, Tryd.ntmps29
          go_upto_region 4 with (first | (go_at_call 40; refine (N1.out _ T1.out).mono ?_; rintro e w1 ⟨rfl, rfl⟩))
          go_upto_region 5 with (first | (go_at_call 40; refine (N2.out _ T2.out).mono ?_; rintro e w1 ⟨rfl, rfl⟩))
          go_upto_region 6 with (first | (go_at_call 41; refine (G3.out _ T3.out).mono ?_; rintro e w1 ⟨rfl, hb⟩; have HB := Lib.hid hb; clear hb))
          go_upto_region 7 with (first | (go_at_call 42; refine (J1.out _).mono ?_; rintro e w2 ⟨rfl, hb⟩; have HB2 := Lib.hid (below_next HB.out hb); clear hb))
          go_upto_region 10 with (first | (go_at_call 24; refine (P1.out _).mono ?_; rintro e w3 ⟨v3, rfl, ht, hb⟩; have HB3 := Lib.hid (below_next HB2.out hb); have cv1 := conv_text Tryd.underlying25 Tryd.underlying5 Tryd.underlying9 ht; have cv2 := conv_text Tryd.underlying25 Tryd.underlying5 Tryd.underlying9 (text_below HV.out HB3.out); clear ht hb))
          go_wp2
          go_ret3
          rw [HR.out.1, HR.out.2.1, HR.out.2.2]
          exact ⟨rfl, HB3.out⟩
        · have te : (X == b) = false := by rw [beq_eq_false_iff_ne]; exact hXb
          have HR := Lib.hid (HGG.out.1 (by rw [HDD.out, te]; simp))
          clear hXb
          go_enter Tryd.func29, Tryd.ntmps29
          go_upto_region 4 with (first | (go_at_call 40; refine (N1.out _ T1.out).mono ?_; rintro e w1 ⟨rfl, rfl⟩))
          go_upto_region 5 with (first | (go_at_call 40; refine (N2.out _ T2.out).mono ?_; rintro e w1 ⟨rfl, rfl⟩))
          go_upto_region 6 with (first | (go_at_call 41; refine (G3.out _ T3.out).mono ?_; rintro e w1 ⟨rfl, hb⟩; have HB := Lib.hid hb; clear hb))
          go_upto_region 7 with (first | (go_at_call 42; refine (J1.out _).mono ?_; rintro e w2 ⟨rfl, hb⟩; have HB2 := Lib.hid (below_next HB.out hb); clear hb))
          go_upto_region 10 with (first | (go_at_call 24; refine (P1.out _).mono ?_; rintro e w3 ⟨v3, rfl, ht, hb⟩; have HB3 := Lib.hid (below_next HB2.out hb); have cv1 := conv_text Tryd.underlying25 Tryd.underlying5 Tryd.underlying9 ht; have cv2 := conv_text Tryd.underlying25 Tryd.underlying5 Tryd.underlying9 (text_below HV.out HB3.out); clear ht hb))
          go_wp2
          go_ret3
          rw [HR.out.1, HR.out.2.1, HR.out.2.2]
          exact ⟨rfl, HB3.out⟩
      · have dF : (F != 0) = true := by simp; exact hF0
        have HR := Lib.hid (HGG.out.1 (by rw [HDD.out]; simp; intro h; exact absurd h hF0))
        clear hF0
        go_enter Tryd.func29, Tryd.ntmps29
        go_upto_region 4 with (first | (go_at_call 40; refine (N1.out _ T1.out).mono ?_; rintro e w1 ⟨rfl, rfl⟩))
        go_upto_region 5 with (first | (go_at_call 40; refine (N2.out _ T2.out).mono ?_; rintro e w1 ⟨rfl, rfl⟩))
        go_upto_region 6 with (first | (go_at_call 41; refine (G3.out _ T3.out).mono ?_; rintro e w1 ⟨rfl, hb⟩; have HB := Lib.hid hb; clear hb))
        go_upto_region 7 with (first | (go_at_call 42; refine (J1.out _).mono ?_; rintro e w2 ⟨rfl, hb⟩; have HB2 := Lib.hid (below_next HB.out hb); clear hb))
        go_upto_region 10 with (first | (go_at_call 24; refine (P1.out _).mono ?_; rintro e w3 ⟨v3, rfl, ht, hb⟩; have HB3 := Lib.hid (below_next HB2.out hb); have cv1 := conv_text Tryd.underlying25 Tryd.underlying5 Tryd.underlying9 ht; have cv2 := conv_text Tryd.underlying25 Tryd.underlying5 Tryd.underlying9 (text_below HV.out HB3.out); clear ht hb))
        go_wp2
        go_ret3
        rw [HR.out.1, HR.out.2.1, HR.out.2.2]
        exact ⟨rfl, HB3.out⟩
    · have dE : (E != 0) = true := by simp; exact hE0
      have HR := Lib.hid (HGG.out.1 (by rw [HDD.out]; simp; intro h; exact absurd h hE0))
      clear hE0
      go_enter Tryd.func29, Tryd.ntmps29
      go_upto_region 4 with (first | (go_at_call 40; refine (N1.out _ T1.out).mono ?_; rintro e w1 ⟨rfl, rfl⟩))
      go_upto_region 5 with (first | (go_at_call 40; refine (N2.out _ T2.out).mono ?_; rintro e w1 ⟨rfl, rfl⟩))
      go_upto_region 6 with (first | (go_at_call 41; refine (G3.out _ T3.out).mono ?_; rintro e w1 ⟨rfl, hb⟩; have HB := Lib.hid hb; clear hb))
      go_upto_region 7 with (first | (go_at_call 42; refine (J1.out _).mono ?_; rintro e w2 ⟨rfl, hb⟩; have HB2 := Lib.hid (below_next HB.out hb); clear hb))
      go_wp2
      go_ret3
      rw [HR.out.1, HR.out.2.1, HR.out.2.2]
      exact ⟨rfl, HB2.out⟩
/-- The sum over whole blocks. -/
theorem round_next {k : Nat} {z : Int} (h : ((512 * k : Nat) : Int) < z) (hz : z < 100000) : k < 196 := by omega
set_option maxHeartbeats 4000000 in
theorem refRound_any (z : Int) (hz : z < 100000) (w : World) : Calls Tryd.prog 25 #[.int .i64 z] w fun e w' => e = .returned (.int .i64 (roundZ z)) ∧ w = w' := by
  go_enter Tryd.func25, Tryd.ntmps25
  go_wp2
  go_loopw [3] (fun c wr => wr = w ∧ ∃ k : Nat, k ≤ 196 ∧ c = .int .i64 ((512 * k : Nat) : Int) ∧ (k = 0 ∨ ((512 * k : Nat) : Int) - 512 < z)) (fun c _ => (200 * 512 - intOf c).toNat)
  case atStart => exact ⟨rfl, 0, by omega, rfl, .inl rfl⟩
  case round =>
    obtain ⟨rfl, k, hk, rfl, hz1⟩ := hrel
    have HZ := Lib.hid hz1
    clear hz1
    by_cases hlt : ((512 * k : Nat) : Int) < z
    · obtain ⟨m, hm⟩ : ∃ m, m = 512 * k := ⟨_, rfl⟩
      have hk2 := round_next hlt hz
      rw [← hm] at hlt ⊢
      have w1 : wrap64 ((m : Int) + 512) = ((512 * (k + 1) : Nat) : Int) := by rw [wrap64]; omega
      have HM := Lib.hid hm
      have HK := Lib.hid (show k + 1 ≤ 196 ∧ ((512 * (k + 1) : Nat) : Int) - 512 < z by omega)
      have HME := Lib.hid (show (200 * 512 - ((512 * (k + 1) : Nat) : Int)).toNat < (200 * 512 - (m : Int)).toNat by omega)
      clear hm hk2 hz
      go_wp2
      refine ⟨⟨trivial, k + 1, HK.out.1, by rw [w1], .inr HK.out.2⟩, ?_⟩
      rw [w1]; exact HME.out
    · have HR := Lib.hid (show roundZ z = ((512 * k : Nat) : Int) by
        unfold roundZ
        by_cases h0 : k = 0
        · subst h0; rw [if_pos (by omega)]; rfl
        · have h := HZ.out.resolve_left h0
          rw [if_neg (by omega)]; omega)
      go_wp2
      go_ret
      exact ⟨by rw [HR.out, Int.natCast_mul]; rfl, rfl⟩
end Go.Proofs.YtocpplnnnflekaaDoor
namespace Go.Proofs.YtocpplnnnflekaaDoor
open Go.RowKit
def smallB (l : List F8) : Bool := decide (l.length ≤ 40) && decide (totalB (l.take 41) ≤ 20000)
theorem totalB_take (l : List F8) (k : Nat) (f : F8) (h : l[k]? = some f) : totalB (l.take (k + 1)) = totalB (l.take k) + f.2.length := by
  obtain ⟨hk, rfl⟩ := List.getElem?_eq_some_iff.1 h
  rw [List.take_succ_eq_append_getElem hk, totalB_append]; simp [totalB]
theorem totalB_le (l : List F8) (h : ∀ f ∈ l, f.2.length ≤ 140737488355328) : totalB l ≤ l.length * 140737488355328 := by
  induction l with
  | nil => exact Nat.le_refl _
  | cons f t ih =>
    have h1 := ih fun g hg => h g (List.mem_cons.2 (.inr hg))
    have h2 := h f (List.mem_cons.2 (.inl rfl))
    rw [totalB, List.length_cons]; omega
theorem totalB_take_le (l : List F8) (h : ∀ f ∈ l, f.2.length ≤ 140737488355328) (k : Nat) (hk : k ≤ 41) : totalB (l.take k) ≤ 5770237022568448 := by
  have := totalB_le (l.take k) fun f hf => h f (List.mem_of_mem_take hf)
  have h2 : (l.take k).length ≤ 41 := by rw [List.length_take]; omega
  omega
theorem sum_wrap (a b : Nat) (ha : a ≤ 5770237022568448) (hb : b ≤ 5770237022568448) : wrap64 ((a : Int) + (b : Int)) = ((a + b : Nat) : Int) := by rw [wrap64]; omega
theorem text_len {w : World} {v : Value} {l : List UInt8} (h : HasText w v l) (n : Nat) (hn : l.length = n) : ∃ ao cap, v = .slice ao n cap := by
  obtain ⟨ao, cap, rfl, -⟩ := h
  exact ⟨ao, cap, by rw [List.length_map, hn]⟩
set_option maxRecDepth 100000 in
set_option maxHeartbeats 4000000 in
theorem small_any (w : World) (v : Value) (l : List F8) (hv : HasFiles w v l) (hd : ∀ f ∈ l, f.2.length ≤ 140737488355328) (hl : l.length < 4611686018427387904) : Calls Tryd.prog 11 #[v] w fun e w' => e = .returned (.bool (smallB l)) ∧ w = w' := by
  obtain ⟨n, hn⟩ : ∃ n, n = l.length := ⟨_, rfl⟩
  obtain ⟨ao, cap, rfl⟩ := files_shape hv n hn
  have HV := Lib.hid hv
  have HN := Lib.hid hn
  have HD := Lib.hid (totalB_take_le l hd)
  have HF := Lib.hid hd
  rw [← hn] at hl
  clear hn hv hd
  go_enter Tryd.func11, Tryd.ntmps11
  go_wp2
  go_loopw [3, 4] (fun s i wr => wr = w ∧ ∃ k : Nat, k ≤ n ∧ k ≤ 41 ∧ i = .int .i64 k ∧ s = .int .i64 (totalB (l.take k) : Nat)) (fun _ i _ => 41 - (intOf i).toNat)
  case atStart => exact ⟨rfl, 0, by omega, by omega, rfl, rfl⟩
  case round =>
    obtain ⟨rfl, k, hk, hk41, rfl, rfl⟩ := hrel
    by_cases hlt : k < n ∧ k < 41
    · obtain ⟨f, hf⟩ : ∃ f, l[k]? = some f := ⟨l[k]'(by have := HN.out; omega), List.getElem?_eq_getElem _⟩
      obtain ⟨ad, cap', u, e, -, c1, ht⟩ := files_at HV.out n k HN.out.symm f hf
      cases e
      obtain ⟨ao', cu, rfl⟩ := text_len ht f.2.length rfl
      obtain ⟨T, hT⟩ : ∃ T, T = totalB (l.take k) := ⟨_, rfl⟩
      obtain ⟨m, hm⟩ : ∃ m, m = f.2.length := ⟨_, rfl⟩
      have ws : wrap64 ((T : Int) + (m : Int)) = ((T + m : Nat) : Int) := sum_wrap T m (by rw [hT]; exact HD.out k hk41) (by rw [hm]; have := HF.out f (List.mem_of_getElem? hf); omega)
      have HT := Lib.hid (show totalB (l.take (k + 1)) = T + m by rw [totalB_take l k f hf, hT, hm])
      have q0 : (k : Int) < (n : Int) := by clear ws; omega
      have q1 : (k : Int) < 41 := by clear ws; omega
      rw [← hT]
      rw [← hm] at c1 ht
      clear hT hm ht hf
      go_wp2
      go_roundw
      case rel => exact ⟨trivial, k + 1, by clear ws; omega, by clear ws; omega, by go_num, by rw [ws, HT.out]⟩
      case measure => clear ws; simp [intOf]; omega
    · obtain ⟨T, hT⟩ : ∃ T, T = totalB (l.take k) := ⟨_, rfl⟩
      have hT2 : totalB (l.take 41) = T := by
        rw [hT]
        by_cases h : k = 41
        · rw [h]
        · rw [List.take_of_length_le (show l.length ≤ k by rw [← HN.out]; omega), List.take_of_length_le (show l.length ≤ 41 by rw [← HN.out]; omega)]
      have HS := Lib.hid (show smallB l = (decide (n ≤ 40) && decide (T ≤ 20000)) by rw [smallB, hT2, ← HN.out])
      have q0 : (decide ((k : Int) < (n : Int)) && decide ((k : Int) < 41)) = false := by
        rw [Bool.eq_false_iff, ne_eq, Bool.and_eq_true, decide_eq_true_eq, decide_eq_true_eq]; omega
      rw [← hT]
      have t1 : decide ((n : Int) ≤ 40) = decide (n ≤ 40) := by rw [Bool.eq_iff_iff, decide_eq_true_eq, decide_eq_true_eq]; omega
      have t2 : decide ((T : Int) ≤ 20000) = decide (T ≤ 20000) := by rw [Bool.eq_iff_iff, decide_eq_true_eq, decide_eq_true_eq]; omega
      generalize decide (n ≤ 40) = b1 at t1 HS
      generalize decide (T ≤ 20000) = b2 at t2 HS
      clear hT hT2
      by_cases hkn : k < n
      · have q1 : ¬ (k : Int) < 41 := by omega
        have q2 : (k : Int) < (n : Int) := by omega
        clear q0 hlt hkn
        cases b1 <;> (go_wp2; go_ret; exact ⟨by rw [HS.out]; rfl, rfl⟩)
      · have q2 : ¬ (k : Int) < (n : Int) := by omega
        clear q0 hlt hkn
        cases b1 <;> (go_wp2; go_ret; exact ⟨by rw [HS.out]; rfl, rfl⟩)
/-- Are two files the same? -/
theorem files_eq_at {a b : List F8} {k : Nat} {f g : F8} (hf : a[k]? = some f) (hg : b[k]? = some g) (h : f.1 ≠ g.1 ∨ f.2 ≠ g.2) : a ≠ b := fun e => by
  subst e
  rw [hf] at hg; cases hg
  rcases h with h | h <;> exact h rfl
set_option maxRecDepth 100000 in
set_option maxHeartbeats 4000000 in
theorem same_any (w : World) (v x : Value) (a b : List F8) (hv : HasFiles w v a) (hx : HasFiles w x b) (hla : a.length < 4611686018427387904) (hlb : b.length < 4611686018427387904) : Calls Tryd.prog 18 #[v, x] w fun e w' => e = .returned (.bool (decide (a = b))) ∧ Below w.heap.size w w' := by
  obtain ⟨n, hn⟩ : ∃ n, n = a.length := ⟨_, rfl⟩
  obtain ⟨m, hm⟩ : ∃ m, m = b.length := ⟨_, rfl⟩
  obtain ⟨ao, cap, rfl⟩ := files_shape hv n hn
  obtain ⟨bo, cap', rfl⟩ := files_shape hx m hm
  have HV := Lib.hid (And.intro hv hx)
  have HN := Lib.hid (And.intro hn hm)
  rw [← hn] at hla
  rw [← hm] at hlb
  by_cases hnm : n = m
  · subst hnm
    clear hn hm hv hx hlb
    go_enter Tryd.func18, Tryd.ntmps18
    go_wp2
    go_loopw [5] (fun i wr => Below w.heap.size w wr ∧ ∃ k : Nat, k ≤ n ∧ i = .int .i64 k ∧ ∀ j, j < k → a[j]? = b[j]?) (fun i _ => n - (intOf i).toNat)
    case atStart => exact ⟨Below.refl _ _, 0, by omega, rfl, fun j hj => by omega⟩
    case round =>
      obtain ⟨hb, k, hk, rfl, hall⟩ := hrel
      have HB := Lib.hid hb
      have HA := Lib.hid hall
      clear hall hb
      by_cases hlt : k < n
      · obtain ⟨f, hf⟩ : ∃ f, a[k]? = some f := ⟨a[k]'(by have := HN.out.1; omega), List.getElem?_eq_getElem _⟩
        obtain ⟨g, hg⟩ : ∃ g, b[k]? = some g := ⟨b[k]'(by have := HN.out.2; omega), List.getElem?_eq_getElem _⟩
        obtain ⟨ad, c1, u, e, p1, p2, p3⟩ := files_at (files_below HV.out.1 HB.out) n k HN.out.1.symm f hf
        obtain ⟨bd, c2, y, e', r1, r2, r3⟩ := files_at (files_below HV.out.2 HB.out) n k HN.out.2.symm g hg
        cases e; cases e'
        have cv1 := fun i => conv_text Tryd.underlying25 Tryd.underlying5 Tryd.underlying9 (text_keep p3 (below_draws (Below.refl wr.heap.size wr) i))
        have cv2 := fun i => conv_text Tryd.underlying25 Tryd.underlying5 Tryd.underlying9 (text_keep r3 (below_draws (Below.refl wr.heap.size wr) i))
        obtain ⟨F1, F2⟩ := f
        obtain ⟨G1, G2⟩ := g
        have hl1 : (str F1).toList = F1 := str_toList _
        have hl2 : (str F2).toList = F2 := str_toList _
        have hl3 : (str G1).toList = G1 := str_toList _
        have hl4 : (str G2).toList = G2 := str_toList _
        have HE := Lib.hid (And.intro hf hg)
        have q0 : (k : Int) < (n : Int) := by omega
        dsimp only at p1 r1 cv1 cv2
        clear hf hg p3 r3 hlt
        cases e1 : (F1 == G1) with
        | false =>
          have HR := Lib.hid (show decide (a = b) = false from decide_eq_false (files_eq_at HE.out.1 HE.out.2 (.inl (beq_eq_false_iff_ne.1 e1))))
          go_wp2
          go_quiet (fail)
          go_wp2
          go_ret
          exact ⟨by rw [HR.out]; rfl, below_draws HB.out _⟩
        | true =>
          cases e2 : (F2 == G2) with
          | false =>
            have HR := Lib.hid (show decide (a = b) = false from decide_eq_false (files_eq_at HE.out.1 HE.out.2 (.inr (beq_eq_false_iff_ne.1 e2))))
            go_wp2
            go_quiet (fail)
            go_wp2
            go_ret
            exact ⟨by rw [HR.out]; rfl, below_draws HB.out _⟩
          | true =>
            have HR := Lib.hid (show a[k]? = b[k]? by rw [HE.out.1, HE.out.2, beq_iff_eq.1 e1, beq_iff_eq.1 e2])
            go_wp2
            go_quiet (fail)
            go_wp2
            go_roundw
            case rel => exact ⟨below_draws HB.out _, k + 1, by omega, by go_num, fun j hj => by
              rcases Nat.lt_or_ge j k with h | h
              · exact HA.out j h
              · obtain rfl : j = k := by omega
                exact HR.out⟩
            case measure => simp [intOf]; omega
      · have q0 : ¬ (k : Int) < (n : Int) := by omega
        have HR := Lib.hid (show decide (a = b) = true from decide_eq_true (List.ext_getElem? fun j => by
          rcases Nat.lt_or_ge j k with h | h
          · exact HA.out j h
          · rw [List.getElem?_eq_none (by have := HN.out; omega), List.getElem?_eq_none (by have := HN.out; omega)]))
        clear hlt
        go_wp2
        go_ret
        exact ⟨by rw [HR.out]; rfl, HB.out⟩
  · have q0 : ¬ (n : Int) = (m : Int) := by omega
    have HR := Lib.hid (show decide (a = b) = false from decide_eq_false (fun e => by subst e; have := HN.out; omega))
    clear hn hm hv hx hnm
    go_enter Tryd.func18, Tryd.ntmps18
    go_wp2
    go_ret
    exact ⟨by rw [HR.out]; rfl, Below.refl _ _⟩
end Go.Proofs.YtocpplnnnflekaaDoor
namespace Go.Proofs.YtocpplnnnflekaaDoor
open Go.RowKit
theorem str_yields {P : Program} {ops : Array Oper} {S : World → Prop} {o : Oper} {a : Act} (hw : Region.wanted o (yielded ops a.tmps) = true) (ty : TypeId) (x : Operand) (ho : o.op = .load ty x)
    (ad : Addr) (hx : a.eval x = .pointer (some ad)) (s : ByteArray) (hu : P.underlying ty = some .string) (hS : ∀ w, S w → w.cell? ad = some (.string s)) : YieldsIf P ops S o (.string s) a :=
  .inl ⟨hw, fun w h => by
    have hc := hS w h
    unfold execOp
    simp [ho, hx, Instr.loadAt, Instr.sureAddr, loadVar, isAgg, run_underlying hu, hc]⟩
theorem slice_yields {P : Program} {ops : Array Oper} {S : World → Prop} {o : Oper} {a : Act} (hw : Region.wanted o (yielded ops a.tmps) = true) (ty : TypeId) (x : Operand) (ho : o.op = .load ty x)
    (ad : Addr) (hx : a.eval x = .pointer (some ad)) (v : Value) (e : TypeId) (hu : P.underlying ty = some (.slice e)) (hS : ∀ w, S w → w.cell? ad = some v) : YieldsIf P ops S o v a :=
  .inl ⟨hw, fun w h => by
    have hc := hS w h
    unfold execOp
    simp [ho, hx, Instr.loadAt, Instr.sureAddr, loadVar, isAgg, run_underlying hu, hc]⟩
theorem cell_held {w w' : World} {ad : Addr} {v : Value} (hc : w.cell? ad = some v) (hb : Below w.heap.size w w') : w'.cell? ad = some v := (World.cell?_of_block (hb.block ad.block (World.block_lt_of_cell? w _ hc))).trans hc
/-- A text appended to a row of the call's own. -/
theorem append_text8 {P : Program} {w : World} {ops : Array Oper} {rest : List Oper} {o : Oper} {a : Act} {Q : Exit → Act → World → Prop} (hgd : o.guard = none) (s x : Operand) (t : TypeId)
    (ho : o.op = .call { callee := .builtin .append, args := #[s, x], argTypes := #[t, t] })
    (base : Nat) (e : TypeId) (i : TypeInfo) (ht : P.underlying t = some (.slice e)) (hi : P.info? e = some i) (hz : i.zero = some (.int .u8 0)) (hsize : i.size = 1) (hby : i.bytes = 1)
    (v : Value) (l m : List UInt8) (hs : a.eval s = v) (hown : w.ownsRow base e 1 v l.length (bytesL (l.map w8))) (vx : Value) (hx : a.eval x = vx) (hm : HasText w vx m)
    (hlen : l.length + m.length ≤ 140737488355328) (hbase : base ≤ w.heap.size)
    (h : ∀ v' w', w'.ownsRow base e 1 v' (l ++ m).length (bytesL ((l ++ m).map w8)) → w.grownBy w' v.ownBlock → wpList P ops Q rest (a.put o.dst v') w') : wpList P ops Q (o :: rest) a w :=
  append_has hgd s x t ho base e i ht hi hz hsize hby v (l.map w8) (m.map w8) hs (by rw [List.length_map]; exact hown) vx hx hm (by rw [List.length_map, List.length_map]; exact hlen) hbase fun v' w' h1 h2 _ => h v' w' (by rw [← List.map_append, List.length_map] at h1; exact h1) h2
theorem bodyB_le {l : List F8} (h : firstErr l = 0) : (bodyB l).length ≤ l.length * 1024 + totalB l := by
  induction l with
  | nil => simp [bodyB]
  | cons f t ih =>
    have hf := firstErr_zero.1 h
    have ih := ih (firstErr_zero.2 fun g hg => hf g (List.mem_cons.2 (.inr hg)))
    rw [bodyB, List.length_append, fileB_len (hf f (List.mem_cons.2 (.inl rfl))), totalB, List.length_cons]
    have : padN f.2.length < 512 := Nat.mod_lt _ (by decide)
    omega
theorem body_next {l : List F8} {k : Nat} {f : F8} (h : l[k]? = some f) : bodyB (l.take (k + 1)) = ((bodyB (l.take k) ++ putH f.1 f.2.length) ++ f.2) ++ zerosL (padN f.2.length) := by
  obtain ⟨hk, rfl⟩ := List.getElem?_eq_some_iff.1 h
  rw [List.take_succ_eq_append_getElem hk, bodyB_append]
  simp only [bodyB, fileB, List.append_nil, List.append_assoc]
  rfl
theorem err_next {l : List F8} {k : Nat} {f : F8} (h : l[k]? = some f) (h0 : firstErr (l.take k) = 0) (hf : putHErr f.1 f.2.length = 0) : firstErr (l.take (k + 1)) = 0 := by
  obtain ⟨hk, rfl⟩ := List.getElem?_eq_some_iff.1 h
  rw [List.take_succ_eq_append_getElem hk, firstErr_append, if_pos h0, firstErr, if_pos hf]; rfl
theorem err_stop {l : List F8} {k : Nat} {f : F8} (h : l[k]? = some f) (h0 : firstErr (l.take k) = 0) (hf : putHErr f.1 f.2.length ≠ 0) : firstErr l = putHErr f.1 f.2.length := by
  obtain ⟨hk, rfl⟩ := List.getElem?_eq_some_iff.1 h
  conv => lhs; rw [← List.take_append_drop k l, List.drop_eq_getElem_cons hk]
  rw [firstErr_append, if_pos h0, firstErr, if_neg hf]
theorem total_at {l : List F8} {f : F8} (h : f ∈ l) : f.2.length ≤ totalB l := by
  induction l with
  | nil => cases h
  | cons g t ih =>
    rw [totalB]
    rcases List.mem_cons.1 h with rfl | h
    · omega
    · have := ih h; omega
theorem total_take (l : List F8) (k : Nat) : totalB (l.take k) ≤ totalB l := by
  conv => rhs; rw [← List.take_append_drop k l, totalB_append]
  omega
theorem putU_small {l : List F8} (hl : l.length ≤ 200) (ht : totalB l ≤ 60000) : putUErr l = if firstErr l = 0 then (if twiceB l then 7 else 0) else firstErr l := by
  rw [putUErr, if_neg (by omega)]
theorem twice_found {l : List F8} {i k : Nat} {f g : F8} (hk : k < i) (hf : l[i]? = some f) (hg : l[k]? = some g) (e : f.1 = g.1) : twiceB l = true := by
  rw [twiceB, Bool.not_eq_true', decide_eq_false_iff_not]
  intro hn
  obtain ⟨hi', rfl⟩ := List.getElem?_eq_some_iff.1 hf
  obtain ⟨hk', rfl⟩ := List.getElem?_eq_some_iff.1 hg
  have := List.pairwise_iff_getElem.1 hn k i (by simpa using hk') (by simpa using hi') hk
  simp at this
  exact this e.symm
theorem twice_none {l : List F8} (h : ∀ i k, k < i → i < l.length → ∀ f g, l[i]? = some f → l[k]? = some g → f.1 ≠ g.1) : twiceB l = false := by
  rw [twiceB, Bool.not_eq_false', decide_eq_true_eq]
  refine List.pairwise_iff_getElem.2 fun k i hk hi hlt => ?_
  simp at hk hi
  rw [List.getElem_map, List.getElem_map]
  exact (h i k hlt hi l[i] l[k] (List.getElem?_eq_getElem _) (List.getElem?_eq_getElem _)).symm
theorem sum_small (a b : Nat) (h : a + b ≤ 60000) : wrap64 ((a : Int) + (b : Int)) = ((a + b : Nat) : Int) := by rw [wrap64]; omega
theorem pad_sub (m : Nat) : ∃ R : Nat, roundZ (m : Int) = (R : Int) ∧ IntKind.i64.wrap ((R : Int) - (m : Int)) = (padN m : Int) := by
  refine ⟨m + padN m, padN_round m, ?_⟩
  have : padN m < 512 := Nat.mod_lt _ (by decide)
  rw [IntKind.wrap_i64]; omega
theorem succ_wrap {j k : Nat} (h : j < k) (hk : k ≤ 200) : wrap64 ((j : Int) + 1) = ((j + 1 : Nat) : Int) := by rw [wrap64]; omega
theorem infoByte8 : (Tryd.prog.info? 5).map (fun i => (i.zero, i.size, i.bytes)) = some (some (.int .u8 0), 1, 1) := by kernel_rfl
set_option maxRecDepth 100000 in
set_option maxHeartbeats 8000000 in
theorem refPut8_any (w : World) (v : Value) (l : List F8) (hv : HasFiles w v l) (hp : ∀ f ∈ l, f.1.length < 4611686018427387904) (hl : l.length ≤ 200) (ht : totalB l ≤ 60000) :
    Calls Tryd.prog 13 #[v] w fun e w' => ∃ x, e = .returned (.tuple #[x, .int .i64 (putUErr l)]) ∧ HasText w' x (putU l) ∧ Below w.heap.size w w' := by
  obtain ⟨i0, hi, hz0, hz1, hz2⟩ := info_parts infoByte8
  obtain ⟨n, hn⟩ : ∃ n, n = l.length := ⟨_, rfl⟩
  obtain ⟨ao, cap, rfl⟩ := files_shape hv n hn
  have HV := Lib.hid hv
  have HN := Lib.hid hn
  have HP := Lib.hid hp
  have HT := Lib.hid ht
  have HU := Lib.hid (putU_small hl ht)
  rw [← hn] at hl
  have HLL := Lib.hid hl
  clear hn hv hp ht
  go_enter Tryd.func13, Tryd.ntmps13
  go_wp2
  go_loopw [4, 5] (fun s i wr => w = wr ∧ ∃ k : Nat, k ≤ n ∧ i = .int .i64 k ∧ s = .int .i64 (totalB (l.take k) : Nat)) (fun _ i _ => n - (intOf i).toNat)
  case atStart => exact ⟨rfl, 0, by omega, rfl, rfl⟩
  case round =>
    obtain ⟨rfl, k, hk, rfl, rfl⟩ := hrel
    by_cases hlt : k < n
    · obtain ⟨f, hf⟩ : ∃ f, l[k]? = some f := ⟨l[k]'(by have := HN.out; omega), List.getElem?_eq_getElem _⟩
      obtain ⟨ad, cap', u, e, -, c1, ht⟩ := files_at HV.out n k HN.out.symm f hf
      cases e
      obtain ⟨ao', cu, rfl⟩ := text_len ht f.2.length rfl
      obtain ⟨T, hT⟩ : ∃ T, T = totalB (l.take k) := ⟨_, rfl⟩
      obtain ⟨m, hm⟩ : ∃ m, m = f.2.length := ⟨_, rfl⟩
      have hTm : totalB (l.take (k + 1)) = T + m := by rw [totalB_take l k f hf, hT, hm]
      have ws := sum_small T m (by rw [← hTm]; exact Nat.le_trans (total_take l _) HT.out)
      have HTM := Lib.hid hTm
      have q0 : (k : Int) < (n : Int) := by clear ws; omega
      rw [← hT]
      rw [← hm] at c1 ht
      clear hT hm ht hf hTm
      go_wp2
      go_roundw
      case rel => exact ⟨trivial, k + 1, by clear ws; omega, by go_num, by rw [ws, HTM.out]⟩
      case measure => clear ws; simp [intOf]; omega
    obtain rfl : k = n := by omega
    obtain ⟨T, hT⟩ : ∃ T, T = totalB (l.take k) := ⟨_, rfl⟩
    have hT2 : T ≤ 60000 := by rw [hT]; exact Nat.le_trans (total_take l _) HT.out
    have g1 : decide ((k : Int) > 400) = false := decide_eq_false (by omega)
    have g2 : decide ((T : Int) > 4194304) = false := decide_eq_false (by omega)
    rw [← hT]
    clear hT hT2 hlt
    go_wp2
    go_loopw [6, 7] (fun vo i wx => ∃ j : Nat, j ≤ k ∧ i = .int .i64 j ∧ wx.ownsRow w.heap.size 5 1 vo (bodyB (l.take j)).length (bytesL ((bodyB (l.take j)).map w8)) ∧ firstErr (l.take j) = 0 ∧ Below w.heap.size w wx) (fun _ i _ => k - (intOf i).toNat)
    case atStart => exact ⟨0, by omega, rfl, ⟨rfl, .inl ⟨rfl, rfl⟩⟩, rfl, Below.refl _ _⟩
    case round =>
      obtain ⟨j, hj, rfl, ho, hfe, hb⟩ := hrel
      obtain ⟨vo, vcap, rfl⟩ := own_slice ho
      have HB := Lib.hid hb
      have HFE := Lib.hid hfe
      by_cases hjk : j < k
      · obtain ⟨f, hf⟩ : ∃ f, l[j]? = some f := ⟨l[j]'(by have := HN.out; omega), List.getElem?_eq_getElem _⟩
        obtain ⟨ad, cap', u, e, p1, p2, hft⟩ := files_at HV.out k j HN.out.symm f hf
        cases e
        obtain ⟨F1, F2⟩ := f
        obtain ⟨ao', cu, rfl⟩ := text_len hft F2.length rfl
        dsimp only at p1 p2 hft
        obtain ⟨m, hm⟩ : ∃ m, m = F2.length := ⟨_, rfl⟩
        have hmt : m ≤ 60000 := by rw [hm]; exact Nat.le_trans (total_at (List.mem_of_getElem? hf)) HT.out
        have P1 := Lib.hid (fun w => refPut7_any F1 (HP.out _ (List.mem_of_getElem? hf)) (m : Int) w)
        have HFT := Lib.hid hft
        obtain ⟨R, hR, hsub⟩ := pad_sub m
        have R1 := Lib.hid (fun w => refRound_any (m : Int) (by omega) w)
        rw [hR] at R1
        have HF := Lib.hid hf
        have HM := Lib.hid hm
        rw [← hm] at p2
        have HL := Lib.hid (show (bodyB (l.take j)).length + 512 + m ≤ 300000 ∧ (bodyB (l.take j)).length + 512 + m + padN m ≤ 300000 by
          have h1 := bodyB_le hfe
          have h2 := total_take l (j + 1)
          rw [totalB_take l j _ hf] at h2
          have h3 := HT.out
          have h4 : (l.take j).length ≤ 200 := by rw [List.length_take]; omega
          have h5 : padN m < 512 := Nat.mod_lt _ (by decide)
          have h6 : (⟨F1, F2⟩ : F8).2.length = m := hm.symm
          rw [h6] at h2
          omega)
        have q0 : (j : Int) < (k : Int) := by omega
        have HJ := Lib.hid hjk
        generalize hPE : putHErr F1 (m : Int) = E at P1
        have HPE := Lib.hid hPE
        obtain ⟨pd, hpd⟩ : ∃ pd, pd = padN m := ⟨_, rfl⟩
        rw [← hpd] at hsub HL
        have HPD := Lib.hid hpd
        clear hm hmt hft hf hR hb hfe hjk hj hPE hpd hl
        have HSUB := Lib.hid hsub
        clear hsub
        have HO := Lib.hid ho
        clear ho
        go_wp2
        refine wp_region_held_drew (S := fun w' => Below w.heap.size w w') (by kernel_rfl) (below_draws HB.out 1) (fun hHeld => ?_)
        replace HO : Hid (wr.drew.ownsRow _ _ _ _ _ _) := Lib.hid HO.out
        generalize wr.drew = wd at hHeld HO ⊢
        refine take_at (i := 0) 40 rfl rfl (by kernel_rfl) (by kernel_rfl) (by kernel_rfl) (fun _ _ _ h => h) (sure_yes (by rfl) (fun w => by go_simp; try with_reducible rfl)) hHeld ?_
        simp only [List.setIfInBounds_toArray, List.set_cons_zero, List.set_cons_succ]
        refine take_at (i := 1) 41 rfl rfl (by kernel_rfl) (by kernel_rfl) (by kernel_rfl) (fun _ _ _ h => h) (sure_yes (by rfl) (fun w => by go_simp; try with_reducible rfl)) hHeld ?_
        simp only [List.setIfInBounds_toArray, List.set_cons_zero, List.set_cons_succ]
        refine take_at (i := 2) 42 rfl rfl (by kernel_rfl) (by kernel_rfl) (by kernel_rfl) (fun _ _ _ h => h) (sure_yes (by rfl) (fun w => by go_simp; try with_reducible rfl)) hHeld ?_
        simp only [List.setIfInBounds_toArray, List.set_cons_zero, List.set_cons_succ]
        refine take_at (i := 3) 43 rfl rfl (by kernel_rfl) (by kernel_rfl) (by kernel_rfl) (fun _ _ _ h => h) (sure_yes (by rfl) (fun w => by go_simp; try with_reducible rfl)) hHeld ?_
        simp only [List.setIfInBounds_toArray, List.set_cons_zero, List.set_cons_succ]
        refine take_at (i := 5) 45 rfl rfl (by kernel_rfl) (by kernel_rfl) (by kernel_rfl) (fun _ _ _ h => h) (sure_yes (by rfl) (fun w => by go_simp; try with_reducible rfl)) hHeld ?_
        simp only [List.setIfInBounds_toArray, List.set_cons_zero, List.set_cons_succ]
        refine take_at (i := 6) 46 rfl rfl (by kernel_rfl) (by kernel_rfl) (by kernel_rfl) (fun _ _ _ h => h) (sure_yes (by rfl) (fun w => by go_simp; try with_reducible rfl)) hHeld ?_
        simp only [List.setIfInBounds_toArray, List.set_cons_zero, List.set_cons_succ]
        refine take_at (i := 7) 47 rfl rfl (by kernel_rfl) (by kernel_rfl) (by kernel_rfl) (fun _ _ _ h => h) (sure_yes (by rfl) (fun w => by go_simp; try with_reducible rfl)) hHeld ?_
        simp only [List.setIfInBounds_toArray, List.set_cons_zero, List.set_cons_succ]
        refine take_at (i := 8) 48 rfl rfl (by kernel_rfl) (by kernel_rfl) (by kernel_rfl) (fun _ _ _ h => h) (sure_yes (by rfl) (fun w => by go_simp; try with_reducible rfl)) hHeld ?_
        simp only [List.setIfInBounds_toArray, List.set_cons_zero, List.set_cons_succ]
        refine take_at (i := 4) 44 rfl rfl (by kernel_rfl) (by kernel_rfl) (by kernel_rfl) (fun _ _ _ h => h) (str_yields (by rfl) 9 (.tmp 43) rfl _ rfl _ Tryd.underlying9 (fun _ h => cell_held p1 h)) hHeld ?_
        simp only [List.setIfInBounds_toArray, List.set_cons_zero, List.set_cons_succ]
        refine take_at (i := 9) 49 rfl rfl (by kernel_rfl) (by kernel_rfl) (by kernel_rfl) (fun _ _ _ h => h) (slice_yields (by rfl) 25 (.tmp 48) rfl _ rfl _ _ Tryd.underlying25 (fun _ h => cell_held p2 h)) hHeld ?_
        simp only [List.setIfInBounds_toArray, List.set_cons_zero, List.set_cons_succ]
        refine take_at (i := 10) 50 rfl rfl (by kernel_rfl) (by kernel_rfl) (by kernel_rfl) (fun _ _ _ h => h) (sure_yes (by rfl) (fun w => by go_simp; try with_reducible rfl)) hHeld ?_
        simp only [List.setIfInBounds_toArray, List.set_cons_zero, List.set_cons_succ]
        refine wpAnyH_ready (rs := [11]) (by kernel_rfl) (by simp) ?_
        refine AllReadyH.cons rfl (fun K hK => ?_) AllReadyH.nil
        go_simp
        go_at_call 24
        refine (P1.out _).mono ?_
        rintro e w2 ⟨x, rfl, hx, hb⟩
        dsimp only
        have HO2 := Lib.hid (own_below HO.out hb)
        have HX := Lib.hid hx
        refine hK.out _ _ (hHeld.trans (hb.mono hHeld.size)) (fun hHeld => ?_)
        clear hK K hb hx HO
        refine take_at (i := 12) 39 rfl rfl (by kernel_rfl) (by kernel_rfl) (by kernel_rfl) (fun _ _ _ h => h) (sure_yes (by rfl) (fun w => by go_simp; try with_reducible rfl)) hHeld ?_
        simp only [List.setIfInBounds_toArray, List.set_cons_zero, List.set_cons_succ]
        refine take_at (i := 13) 52 rfl rfl (by kernel_rfl) (by kernel_rfl) (by kernel_rfl) (fun _ _ _ h => h) (sure_yes (by rfl) (fun w => by go_simp; try with_reducible rfl)) hHeld ?_
        simp only [List.setIfInBounds_toArray, List.set_cons_zero, List.set_cons_succ]
        refine take_at (i := 14) 53 rfl rfl (by kernel_rfl) (by kernel_rfl) (by kernel_rfl) (fun _ _ _ h => h) (sure_yes (by rfl) (fun w => by go_simp; try with_reducible rfl)) hHeld ?_
        simp only [List.setIfInBounds_toArray, List.set_cons_zero, List.set_cons_succ]
        refine take_at (i := 15) 8 rfl rfl (by kernel_rfl) (by kernel_rfl) (by kernel_rfl) (fun _ _ _ h => h) (sure_yes (by rfl) (fun w => by go_simp; try with_reducible rfl)) hHeld ?_
        simp only [List.setIfInBounds_toArray, List.set_cons_zero, List.set_cons_succ]
        refine take_at (i := 16) 9 rfl rfl (by kernel_rfl) (by kernel_rfl) (by kernel_rfl) (fun _ _ _ h => h) (sure_yes (by rfl) (fun w => by go_simp; try with_reducible rfl)) hHeld ?_
        simp only [List.setIfInBounds_toArray, List.set_cons_zero, List.set_cons_succ]
        refine wpAnyH_done (by kernel_rfl) ?_ _
        by_cases hE : E = 0
        · subst hE
          have HPL := Lib.hid (show (putH F1 (m : Int)).length = 512 from putH_len HPE.out)
          have HN9 := Lib.hid (err_next HF.out HFE.out (by show putHErr F1 (F2.length : Int) = 0; rw [← HM.out]; exact HPE.out))
          have HBN := Lib.hid (body_next HF.out)
          obtain ⟨D3, hD3⟩ : ∃ D3, bodyB (l.take j) ++ putH F1 (m : Int) = D3 := ⟨_, rfl⟩
          obtain ⟨D4, hD4⟩ : ∃ D4, D3 ++ F2 = D4 := ⟨_, rfl⟩
          have HD3 := Lib.hid (And.intro hD3 hD4)
          have HDL := Lib.hid (show D3.length + F2.length ≤ 300000 ∧ D4.length + pd ≤ 300000 by
            have h1 := congrArg List.length hD3
            have h2 := congrArg List.length hD4
            rw [List.length_append] at h1 h2
            have h3 := HPL.out
            have h4 := HL.out
            have h5 := HM.out
            omega)
          clear hD3 hD4
          go_upto_region 16 with (at_builtin; refine append_text8 rfl (.tmp 57) (.tmp 58) 25 rfl w.heap.size 5 i0 Tryd.underlying25 hi hz0 hz1 hz2 _ (bodyB (l.take j)) (putH F1 (m : Int)) rfl HO2.out x rfl HX.out (by have := HL.out.1; have := HPL.out; omega) hHeld.size ?_; intro v3 w3 ho hg; rw [HD3.out.1] at ho; have HO3 := Lib.hid ho; have HB3 := Lib.hid (below_grown hHeld hg hHeld.size (fun j hj => (HO2.out.lt j hj).1)); clear ho hg)
          obtain ⟨a3, c3, rfl⟩ := own_slice HO3.out
          have d3 := cell_held p2 HB3.out
          have T3 := Lib.hid (text_keep HFT.out HB3.out)
          rw [← HM.out] at T3
          go_upto_region 17 with (at_builtin; refine append_text8 rfl (.tmp 60) (.tmp 65) 25 rfl w.heap.size 5 i0 Tryd.underlying25 hi hz0 hz1 hz2 _ D3 F2 rfl HO3.out _ rfl T3.out (by have := HDL.out.1; omega) HB3.out.size ?_; intro v4 w4 ho hg; rw [HD3.out.2] at ho; have HO4 := Lib.hid ho; have HB4 := Lib.hid (below_grown HB3.out hg HB3.out.size (fun j hj => (HO3.out.lt j hj).1)); clear ho hg)
          obtain ⟨a4, c4, rfl⟩ := own_slice HO4.out
          clear d3
          refine wp_region_held_drew (S := fun w' => Below w.heap.size w w') (by kernel_rfl) (below_draws HB4.out 1) (fun hHeld => ?_)
          replace HO4 : Hid (w4.drew.ownsRow _ _ _ _ _ _) := Lib.hid HO4.out
          generalize w4.drew = wd4 at hHeld HO4 ⊢
          have hsub := HSUB.out
          refine take_at (i := 0) 67 rfl rfl (by kernel_rfl) (by kernel_rfl) (by kernel_rfl) (fun _ _ _ h => h) (sure_yes (by rfl) (fun w => by go_simp; try with_reducible rfl)) hHeld ?_
          simp only [List.setIfInBounds_toArray, List.set_cons_zero, List.set_cons_succ]
          refine take_at (i := 1) 68 rfl rfl (by kernel_rfl) (by kernel_rfl) (by kernel_rfl) (fun _ _ _ h => h) (sure_yes (by rfl) (fun w => by go_simp; try with_reducible rfl)) hHeld ?_
          simp only [List.setIfInBounds_toArray, List.set_cons_zero, List.set_cons_succ]
          refine take_at (i := 2) 69 rfl rfl (by kernel_rfl) (by kernel_rfl) (by kernel_rfl) (fun _ _ _ h => h) (sure_yes (by rfl) (fun w => by go_simp; try with_reducible rfl)) hHeld ?_
          simp only [List.setIfInBounds_toArray, List.set_cons_zero, List.set_cons_succ]
          refine take_at (i := 3) 70 rfl rfl (by kernel_rfl) (by kernel_rfl) (by kernel_rfl) (fun _ _ _ h => h) (sure_yes (by rfl) (fun w => by go_simp; try with_reducible rfl)) hHeld ?_
          simp only [List.setIfInBounds_toArray, List.set_cons_zero, List.set_cons_succ]
          refine take_at (i := 4) 71 rfl rfl (by kernel_rfl) (by kernel_rfl) (by kernel_rfl) (fun _ _ _ h => h) (sure_yes (by rfl) (fun w => by go_simp; try with_reducible rfl)) hHeld ?_
          simp only [List.setIfInBounds_toArray, List.set_cons_zero, List.set_cons_succ]
          refine take_at (i := 8) 75 rfl rfl (by kernel_rfl) (by kernel_rfl) (by kernel_rfl) (fun _ _ _ h => h) (sure_yes (by rfl) (fun w => by go_simp; try with_reducible rfl)) hHeld ?_
          simp only [List.setIfInBounds_toArray, List.set_cons_zero, List.set_cons_succ]
          refine take_at (i := 9) 76 rfl rfl (by kernel_rfl) (by kernel_rfl) (by kernel_rfl) (fun _ _ _ h => h) (sure_yes (by rfl) (fun w => by go_simp; try with_reducible rfl)) hHeld ?_
          simp only [List.setIfInBounds_toArray, List.set_cons_zero, List.set_cons_succ]
          refine take_at (i := 10) 77 rfl rfl (by kernel_rfl) (by kernel_rfl) (by kernel_rfl) (fun _ _ _ h => h) (sure_yes (by rfl) (fun w => by go_simp; try with_reducible rfl)) hHeld ?_
          simp only [List.setIfInBounds_toArray, List.set_cons_zero, List.set_cons_succ]
          refine take_at (i := 11) 78 rfl rfl (by kernel_rfl) (by kernel_rfl) (by kernel_rfl) (fun _ _ _ h => h) (sure_yes (by rfl) (fun w => by go_simp; try with_reducible rfl)) hHeld ?_
          simp only [List.setIfInBounds_toArray, List.set_cons_zero, List.set_cons_succ]
          refine take_at (i := 5) 72 rfl rfl (by kernel_rfl) (by kernel_rfl) (by kernel_rfl) (fun _ _ _ h => h) (slice_yields (by rfl) 25 (.tmp 71) rfl _ rfl _ _ Tryd.underlying25 (fun _ h => cell_held p2 h)) hHeld ?_
          simp only [List.setIfInBounds_toArray, List.set_cons_zero, List.set_cons_succ]
          refine take_at (i := 6) 73 rfl rfl (by kernel_rfl) (by kernel_rfl) (by kernel_rfl) (fun _ _ _ h => h) (sure_yes (by rfl) (fun w => by go_simp; try with_reducible rfl)) hHeld ?_
          simp only [List.setIfInBounds_toArray, List.set_cons_zero, List.set_cons_succ]
          refine take_at (i := 12) 79 rfl rfl (by kernel_rfl) (by kernel_rfl) (by kernel_rfl) (fun _ _ _ h => h) (slice_yields (by rfl) 25 (.tmp 78) rfl _ rfl _ _ Tryd.underlying25 (fun _ h => cell_held p2 h)) hHeld ?_
          simp only [List.setIfInBounds_toArray, List.set_cons_zero, List.set_cons_succ]
          refine take_at (i := 13) 80 rfl rfl (by kernel_rfl) (by kernel_rfl) (by kernel_rfl) (fun _ _ _ h => h) (sure_yes (by rfl) (fun w => by go_simp; try with_reducible rfl)) hHeld ?_
          simp only [List.setIfInBounds_toArray, List.set_cons_zero, List.set_cons_succ]
          refine wpAnyH_ready (rs := [7]) (by kernel_rfl) (by simp) ?_
          refine AllReadyH.cons rfl (fun K hK => ?_) AllReadyH.nil
          go_simp
          go_at_call 25
          refine (R1.out _).mono ?_
          rintro e w2 ⟨rfl, rfl⟩
          dsimp only
          refine hK.out _ _ hHeld (fun hHeld => ?_)
          clear hK K
          refine take_at (i := 14) 81 rfl rfl (by kernel_rfl) (by kernel_rfl) (by kernel_rfl) (fun _ _ _ h => h) (sure_yes (by rfl) (fun w => by go_simp; try with_reducible rfl)) hHeld ?_
          simp only [List.setIfInBounds_toArray, List.set_cons_zero, List.set_cons_succ]
          refine wpAnyH_ready (rs := [15]) (by kernel_rfl) (by simp) ?_
          refine AllReadyH.cons rfl (fun K hK => ?_) AllReadyH.nil
          refine append_zeros_wp 82 rfl (by rfl) (.tmp 67) (.tmp 81) 25 3 9 rfl w.heap.size 5 i0 .i64 Tryd.underlying25 Tryd.underlying9 Tryd.underlying3 hi hz0 hz1 hz2 (.slice a4 D4.length c4) D4 rfl HO4.out pd rfl (by have := HDL.out.2; omega) hHeld.size ?_
          intro v6 w6 ho hg
          have HO5 := Lib.hid ho
          refine hK.out _ _ (below_grown hHeld hg hHeld.size (fun j hj => (HO4.out.lt j hj).1)) (fun hHeld => ?_)
          clear hK K ho hg HO4
          refine take_at (i := 16) 6 rfl rfl (by kernel_rfl) (by kernel_rfl) (by kernel_rfl) (fun _ _ _ h => h) (sure_yes (by rfl) (fun w => by go_simp; try with_reducible rfl)) hHeld ?_
          simp only [List.setIfInBounds_toArray, List.set_cons_zero, List.set_cons_succ]
          refine wpAnyH_done (by kernel_rfl) ?_ _
          go_wp2
          go_roundw
          case rel =>
            refine ⟨j + 1, HJ.out, by rw [succ_wrap HJ.out HLL.out], ?_, HN9.out, hHeld⟩
            have ho := HO5.out
            have e : bodyB (l.take (j + 1)) = D4 ++ zerosL pd := by rw [HBN.out, HPD.out, HM.out, ← HD3.out.2, ← HD3.out.1, HM.out]
            rw [e]
            exact ho
          case measure => rw [succ_wrap HJ.out HLL.out]; have := HJ.out; simp only [intOf, Int.toNat_natCast]; omega
        · have HST := Lib.hid (show putUErr l = E by
            have h1 : putHErr F1 (F2.length : Int) = E := by rw [← HM.out]; exact HPE.out
            have h2 := err_stop HF.out HFE.out (by show putHErr F1 (F2.length : Int) ≠ 0; rw [h1]; exact hE)
            rw [HU.out, h2, if_neg (by show ¬ putHErr F1 (F2.length : Int) = 0; rw [h1]; exact hE)]
            exact h1)
          have HSE := Lib.hid (show putU l = [] by rw [putU, if_neg (by rw [HST.out]; exact hE)])
          have tE : (E != 0) = true := bne_iff_ne.2 hE
          clear hE
          go_wp2
          go_ret2
          refine ⟨_, by rw [HST.out]; rfl, by rw [HSE.out]; exact hasText_nil _, hHeld⟩
      · obtain rfl : j = k := by omega
        have HFA := Lib.hid (show firstErr l = 0 by have := HFE.out; rwa [List.take_of_length_le (by rw [← HN.out]; omega)] at this)
        have HOA := Lib.hid (show wr.ownsRow w.heap.size 5 1 (.slice vo (bodyB (l.take j)).length vcap) (bodyB (l.take j)).length (bytesL ((bodyB (l.take j)).map w8)) from ho)
        have HTA := Lib.hid (show l.take j = l from List.take_of_length_le (by rw [← HN.out]; omega))
        rw [HTA.out] at HOA
        have HBL := Lib.hid (show (bodyB l).length ≤ 300000 by
          have h1 := bodyB_le HFA.out
          have h2 := HT.out
          have h3 := HN.out
          have h4 := HLL.out
          omega)
        clear ho hb hfe hl hjk
        rw [HTA.out]
        go_wp2
        go_loopw [10] (fun i wx => ∃ p : Nat, p ≤ j ∧ i = .int .i64 p ∧ wx.ownsRow w.heap.size 5 1 (.slice vo (bodyB l).length vcap) (bodyB l).length (bytesL ((bodyB l).map w8)) ∧ Below w.heap.size w wx ∧ ∀ i k, k < i → i < p → ∀ f g, l[i]? = some f → l[k]? = some g → f.1 ≠ g.1) (fun i _ => j - (intOf i).toNat)
        case atStart => exact ⟨0, by omega, rfl, HOA.out, HB.out, fun i k _ h => by omega⟩
        case round =>
          clear HB HOA
          obtain ⟨p, hp, rfl, ho, hb, hall⟩ := hrel
          have HA := Lib.hid hall
          have HO := Lib.hid ho
          have HB := Lib.hid hb
          clear hall ho hb
          by_cases hpj : p < j
          · obtain ⟨f, hf⟩ : ∃ f, l[p]? = some f := ⟨l[p]'(by have := HN.out; omega), List.getElem?_eq_getElem _⟩
            have q0 : (p : Int) < (j : Int) := by omega
            have HPJ := Lib.hid hpj
            have HF := Lib.hid hf
            go_wp2
            go_loopw [11] (fun i wx => ∃ q : Nat, q ≤ p ∧ i = .int .i64 q ∧ wx.ownsRow w.heap.size 5 1 (.slice vo (bodyB l).length vcap) (bodyB l).length (bytesL ((bodyB l).map w8)) ∧ Below w.heap.size w wx ∧ ∀ k, k < q → ∀ g, l[k]? = some g → f.1 ≠ g.1) (fun i _ => p - (intOf i).toNat)
            case atStart => exact ⟨0, by omega, rfl, HO.out, HB.out, fun k h => by omega⟩
            case round =>
              clear HB HO
              obtain ⟨q, hq, rfl, ho, hb, hall⟩ := hrel
              have HI := Lib.hid hall
              have HO := Lib.hid ho
              have HB := Lib.hid hb
              clear hall ho
              by_cases hqp : q < p
              · obtain ⟨g, hg⟩ : ∃ g, l[q]? = some g := ⟨l[q]'(by have := HN.out; omega), List.getElem?_eq_getElem _⟩
                obtain ⟨ad, cap', u, e, p1, -, -⟩ := files_at (files_below HV.out hb) j p HN.out.symm f hf
                obtain ⟨ad', cap2, u2, e', p2, -, -⟩ := files_at (files_below HV.out hb) j q HN.out.symm g hg
                cases e; cases e'
                have HG := Lib.hid hg
                have q2 : (q : Int) < (p : Int) := by omega
                have q3 : (q : Int) < (j : Int) := by omega
                have HQ := Lib.hid (And.intro hqp hq)
                obtain ⟨F1, F2⟩ := f
                obtain ⟨G1, G2⟩ := g
                have hl1 : (str F1).toList = F1 := str_toList _
                have hl2 : (str G1).toList = G1 := str_toList _
                dsimp only at p1 p2
                clear hf hg hb hqp hq hpj
                cases e1 : (F1 == G1) with
                | true =>
                  have HTW := Lib.hid (twice_found HQ.out.1 HF.out HG.out (beq_iff_eq.1 e1))
                  have HST := Lib.hid (show putUErr l = 7 by rw [HU.out, if_pos HFA.out, if_pos HTW.out])
                  have HSE := Lib.hid (show putU l = [] by rw [putU, if_neg (by rw [HST.out]; decide)])
                  go_wp2
                  go_quiet (fail)
                  go_wp2
                  go_ret2
                  refine ⟨_, by rw [HST.out]; rfl, by rw [HSE.out]; exact hasText_nil _, below_draws HB.out _⟩
                | false =>
                  have HNE := Lib.hid (beq_eq_false_iff_ne.1 e1)
                  go_wp2
                  go_quiet (fail)
                  go_wp2
                  go_roundw
                  case rel =>
                    refine ⟨q + 1, HQ.out.1, by first | rfl | rw [succ_wrap (Nat.lt_trans HQ.out.1 HPJ.out) HLL.out], HO.out, below_draws HB.out _, fun k hk g hg => ?_⟩
                    rcases Nat.lt_or_ge k q with h | h
                    · exact HI.out k h g hg
                    · obtain rfl : k = q := by omega
                      rw [HG.out] at hg; cases hg; exact HNE.out
                  case measure => (try rw [succ_wrap (Nat.lt_trans HQ.out.1 HPJ.out) HLL.out]); have := HQ.out; simp only [intOf, Int.toNat_natCast]; omega
              · obtain rfl : q = p := by omega
                have q2 : ¬ (q : Int) < (q : Int) := by omega
                clear hqp hq hf hb
                go_wp2
                go_roundw
                case rel =>
                  refine ⟨q + 1, HPJ.out, by first | rfl | rw [succ_wrap HPJ.out HLL.out], HO.out, HB.out, fun i k hk hi f' g hf' hg => ?_⟩
                  rcases Nat.lt_or_ge i q with h | h
                  · exact HA.out i k hk h f' g hf' hg
                  · obtain rfl : i = q := by omega
                    rw [HF.out] at hf'; cases hf'
                    exact HI.out k hk g hg
                case measure => (try rw [succ_wrap HPJ.out HLL.out]); have := HPJ.out; simp only [intOf, Int.toNat_natCast]; omega
          · obtain rfl : p = j := by omega
            have HTW := Lib.hid (twice_none (l := l) fun i k hk hi f g hf hg => HA.out i k hk (by rw [HN.out]; exact hi) f g hf hg)
            have HST := Lib.hid (show putUErr l = 0 by rw [HU.out, if_pos HFA.out, if_neg (by rw [HTW.out]; decide)])
            have HSE := Lib.hid (show putU l = bodyB l ++ zerosL 1024 by rw [putU, if_pos HST.out]; rfl)
            clear hpj hp
            obtain ⟨D, hD⟩ : ∃ D, bodyB l = D := ⟨_, rfl⟩
            rw [hD] at HO HBL HSE
            rw [hD]
            clear hD
            go_wp2_with (at_builtin; refine append_zeros rfl (.tmp 105) (.const (.int .i64 1024)) 25 3 9 rfl w.heap.size 5 i0 .i64 Tryd.underlying25 Tryd.underlying9 Tryd.underlying3 hi hz0 hz1 hz2 _ D rfl HO.out 1024 rfl (by have := HBL.out; omega) HB.out.size ?_; intro v9 w9 ho hg; have HO9 := Lib.hid ho; have HB9 := Lib.hid (below_grown HB.out hg HB.out.size (fun j hj => (HO.out.lt j hj).1)); clear ho hg)
            go_ret2
            refine ⟨_, by rw [HST.out]; rfl, ?_, HB9.out⟩
            rw [HSE.out]
            exact has_of_own (by rw [List.length_map]; exact HO9.out)
end Go.Proofs.YtocpplnnnflekaaDoor
