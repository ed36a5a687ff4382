/-
What the document's own Put returns for layer 7: a header, field by field, its sum laid in at the end.
-/
import Derived.Test.YtbjekhhefepnlaaDoorRef07
import Derived.Test.YtbjekhhefepnlaaDoorRef06Split
import Derived.Deep.DeepCutAuto
namespace Go.Proofs.YtbjekhhefepnlaaDoor
open Go.RowKit
theorem check_sum {n : Nat} (h : n ≤ 130560) : IntKind.i64.wrap (n : Int) = (n : Int) := by rw [IntKind.wrap_i64]; omega
/-- A sum that is laid in, up to its k-th byte. -/
def mixS (pre name : List UInt8) (size : Int) (k : Nat) : List UInt8 := hdrA name size ++ (((sumB (hdrS pre name size)).take k ++ blank8.drop k) ++ hdrC pre)
theorem mixH_zero (pre name : List UInt8) (size : Int) : mixS pre name size 0 = hdr0 pre name size := by rw [mixS, hdr0, List.take_zero, List.nil_append, List.drop_zero]
theorem mixH_eight {pre name : List UInt8} {size : Int} (h : Fit pre name size) : mixS pre name size 8 = hdrL pre name size := by
  rw [mixS, hdrL, List.take_of_length_le (by rw [sumB_len (hdrS_lt h)]; exact Nat.le_refl 8), List.drop_of_length_le (by rw [blank8_eq]; exact Nat.le_refl 8), List.append_nil]
theorem mixH_next {pre name : List UInt8} {size : Int} (h : Fit pre name size) {k : Nat} (hk : k < 8) {c : UInt8} (hc : (sumB (hdrS pre name size))[k]? = some c) : (mixS pre name size k).set (148 + k) c = mixS pre name size (k + 1) := by
  have hA := hdrA_len h
  have hS := sumB_len (hdrS_lt h)
  have hB : blank8.length = 8 := by rw [blank8_eq]; rfl
  have ht : ((sumB (hdrS pre name size)).take k).length = k := by rw [List.length_take]; omega
  rw [mixS, mixS, List.set_append_right _ _ (by omega), hA, Nat.add_sub_cancel_left, List.set_append_left _ _ (by rw [List.length_append, ht, List.length_drop]; omega), List.set_append_right _ _ (by omega), ht, Nat.sub_self, List.drop_eq_getElem_cons (by omega), List.set_cons_zero]
  obtain ⟨hlt, rfl⟩ := List.getElem?_eq_some_iff.1 hc
  rw [List.take_succ_eq_append_getElem hlt]
  simp only [List.append_assoc, List.cons_append, List.nil_append]
theorem mixH_len {pre name : List UInt8} {size : Int} (h : Fit pre name size) {k : Nat} (hk : k ≤ 8) : (mixS pre name size k).length = 512 := by
  have hS := sumB_len (hdrS_lt h)
  have hB : blank8.length = 8 := by rw [blank8_eq]; rfl
  rw [mixS, List.length_append, List.length_append, List.length_append, hdrA_len h, hdrC_len h, List.length_take, List.length_drop]; omega
theorem mixH_at {pre name : List UInt8} {size : Int} (h : Fit pre name size) {k : Nat} (hk : k < 8) : (mixS pre name size k).getD (148 + k) 0 = 32 := by
  have hA := hdrA_len h
  have hS := sumB_len (hdrS_lt h)
  have ht : ((sumB (hdrS pre name size)).take k).length = k := by rw [List.length_take]; omega
  rw [List.getD_eq_getElem?_getD, mixS, List.getElem?_append_right (by omega), hA, Nat.add_sub_cancel_left, List.append_assoc, List.getElem?_append_right (by omega), ht, Nat.sub_self, blank8_eq]
  match k, hk with
  | 0, _ | 1, _ | 2, _ | 3, _ | 4, _ | 5, _ | 6, _ | 7, _ => rfl
set_option maxRecDepth 100000 in
set_option maxHeartbeats 8000000 in
/-- The fields of a header, one behind the other, and its sum. -/
theorem refPut7_fields (pre name : List UInt8) (size : Int) (hf : Fit pre name size) (hsz : 0 ≤ size ∧ size ≤ 4194304) (p : List UInt8) (hsp : splitR p = some (pre, name)) (hp : p.length < 4611686018427387904) (w : World) :
    Calls Tryd.prog 11 #[.string (str p), .int .i64 size] w fun e w' => ∃ v, e = .returned (.tuple #[v, .int .i64 0]) ∧ HasText w' v (hdrL pre name size) ∧ Below w.heap.size w w' := by
  obtain ⟨i0, hi, hz0, hz1, hz2⟩ := info_parts infoByte
  have hs := split_some hsp
  have hname : name.length < 4611686018427387904 := by omega
  have hpre : pre.length < 4611686018427387904 := by omega
  have SP := Lib.hid (fun w => refSplit_any p hp w)
  rw [show splitA p = pre by rw [splitA, hsp], show splitB p = name by rw [splitB, hsp], show splitErr p = 0 by rw [splitErr, hsp]] at SP
  have HF := Lib.hid hf
  clear hs hsp hp
  have d1 : decide (size < 0) = false := decide_eq_false (by omega)
  have d2 : decide (size > 4194304) = false := decide_eq_false (by omega)
  go_enter Tryd.func11, Tryd.ntmps11
  go_upto_region 6 with (first | (go_at_call 20; refine (SP.out _).mono ?_; rintro e w1 ⟨rfl, hb⟩; have HB := Lib.hid hb; clear hb))
  have HT := Lib.hid (hasText_nil w1)
  have HL := Lib.hid (show ([] : List UInt8).length ≤ 0 from Nat.le_refl 0)
  go_upto_region 7 with (first | (go_at_call 21; refine (refTextF_any name hname 100 _ (by have := HL.out; omega) _ _ HT.out).mono ?_; rintro e w6 ⟨v6, rfl, ho, hb⟩; replace HT := Lib.hid (ownsB_has ho); have HO6 := Lib.hid (ownsB_base ho HB.out.size); replace HL := Lib.hid (len_step HL.out (fieldT_le name 100)); replace HB := Lib.hid (below_next HB.out hb); clear ho hb))
  go_upto_region 8 with (first | (go_at_call 22; refine (refNumber_any 420 8 (by omega) (by omega) _ (by have := HL.out; omega) _ _ HT.out).mono ?_; rintro e w7 ⟨v7, rfl, ho, hb⟩; replace HT := Lib.hid (ownsB_has ho); have HO7 := Lib.hid (ownsB_base ho HB.out.size); replace HL := Lib.hid (len_step HL.out (putT_le 420 8)); replace HB := Lib.hid (below_next HB.out hb); clear ho hb))
  clear HO6
  go_upto_region 9 with (first | (go_at_call 22; refine (refNumber_any 0 8 (by omega) (by omega) _ (by have := HL.out; omega) _ _ HT.out).mono ?_; rintro e w8 ⟨v8, rfl, ho, hb⟩; replace HT := Lib.hid (ownsB_has ho); have HO8 := Lib.hid (ownsB_base ho HB.out.size); replace HL := Lib.hid (len_step HL.out (putT_le 0 8)); replace HB := Lib.hid (below_next HB.out hb); clear ho hb))
  clear HO7
  go_upto_region 10 with (first | (go_at_call 22; refine (refNumber_any 0 8 (by omega) (by omega) _ (by have := HL.out; omega) _ _ HT.out).mono ?_; rintro e w9 ⟨v9, rfl, ho, hb⟩; replace HT := Lib.hid (ownsB_has ho); have HO9 := Lib.hid (ownsB_base ho HB.out.size); replace HL := Lib.hid (len_step HL.out (putT_le 0 8)); replace HB := Lib.hid (below_next HB.out hb); clear ho hb))
  clear HO8
  go_upto_region 11 with (first | (go_at_call 22; refine (refNumber_any size 12 (by omega) (by omega) _ (by have := HL.out; omega) _ _ HT.out).mono ?_; rintro e w10 ⟨v10, rfl, ho, hb⟩; replace HT := Lib.hid (ownsB_has ho); have HO10 := Lib.hid (ownsB_base ho HB.out.size); replace HL := Lib.hid (len_step HL.out (putT_le size 12)); replace HB := Lib.hid (below_next HB.out hb); clear ho hb))
  clear HO9
  go_upto_region 12 with (first | (go_at_call 22; refine (refNumber_any 0 12 (by omega) (by omega) _ (by have := HL.out; omega) _ _ HT.out).mono ?_; rintro e w11 ⟨v11, rfl, ho, hb⟩; replace HT := Lib.hid (ownsB_has ho); have HO11 := Lib.hid (ownsB_base ho HB.out.size); replace HL := Lib.hid (len_step HL.out (putT_le 0 12)); replace HB := Lib.hid (below_next HB.out hb); clear ho hb))
  clear HO10
  go_upto_region 13 with (first | (go_at_call 21; refine (refTextF_any [32, 32, 32, 32, 32, 32, 32, 32] (by decide) 8 _ (by have := HL.out; omega) _ _ HT.out).mono ?_; rintro e w12 ⟨v12, rfl, ho, hb⟩; replace HT := Lib.hid (ownsB_has ho); have HO12 := Lib.hid (ownsB_base ho HB.out.size); replace HL := Lib.hid (len_step HL.out (fieldT_le [32, 32, 32, 32, 32, 32, 32, 32] 8)); replace HB := Lib.hid (below_next HB.out hb); clear ho hb))
  clear HO11
  go_upto_region 14 with (first | (go_at_call 21; refine (refTextF_any [48] (by decide) 1 _ (by have := HL.out; omega) _ _ HT.out).mono ?_; rintro e w13 ⟨v13, rfl, ho, hb⟩; replace HT := Lib.hid (ownsB_has ho); have HO13 := Lib.hid (ownsB_base ho HB.out.size); replace HL := Lib.hid (len_step HL.out (fieldT_le [48] 1)); replace HB := Lib.hid (below_next HB.out hb); clear ho hb))
  clear HO12
  go_upto_region 15 with (first | (go_at_call 21; refine (refTextF_any [] (by decide) 100 _ (by have := HL.out; omega) _ _ HT.out).mono ?_; rintro e w14 ⟨v14, rfl, ho, hb⟩; replace HT := Lib.hid (ownsB_has ho); have HO14 := Lib.hid (ownsB_base ho HB.out.size); replace HL := Lib.hid (len_step HL.out (fieldT_le [] 100)); replace HB := Lib.hid (below_next HB.out hb); clear ho hb))
  clear HO13
  go_upto_region 16 with (first | (go_at_call 21; refine (refTextF_any [117, 115, 116, 97, 114] (by decide) 6 _ (by have := HL.out; omega) _ _ HT.out).mono ?_; rintro e w15 ⟨v15, rfl, ho, hb⟩; replace HT := Lib.hid (ownsB_has ho); have HO15 := Lib.hid (ownsB_base ho HB.out.size); replace HL := Lib.hid (len_step HL.out (fieldT_le [117, 115, 116, 97, 114] 6)); replace HB := Lib.hid (below_next HB.out hb); clear ho hb))
  clear HO14
  go_upto_region 17 with (first | (go_at_call 21; refine (refTextF_any [48, 48] (by decide) 2 _ (by have := HL.out; omega) _ _ HT.out).mono ?_; rintro e w16 ⟨v16, rfl, ho, hb⟩; replace HT := Lib.hid (ownsB_has ho); have HO16 := Lib.hid (ownsB_base ho HB.out.size); replace HL := Lib.hid (len_step HL.out (fieldT_le [48, 48] 2)); replace HB := Lib.hid (below_next HB.out hb); clear ho hb))
  clear HO15
  go_upto_region 18 with (first | (go_at_call 21; refine (refTextF_any [] (by decide) 32 _ (by have := HL.out; omega) _ _ HT.out).mono ?_; rintro e w17 ⟨v17, rfl, ho, hb⟩; replace HT := Lib.hid (ownsB_has ho); have HO17 := Lib.hid (ownsB_base ho HB.out.size); replace HL := Lib.hid (len_step HL.out (fieldT_le [] 32)); replace HB := Lib.hid (below_next HB.out hb); clear ho hb))
  clear HO16
  go_upto_region 19 with (first | (go_at_call 21; refine (refTextF_any [] (by decide) 32 _ (by have := HL.out; omega) _ _ HT.out).mono ?_; rintro e w18 ⟨v18, rfl, ho, hb⟩; replace HT := Lib.hid (ownsB_has ho); have HO18 := Lib.hid (ownsB_base ho HB.out.size); replace HL := Lib.hid (len_step HL.out (fieldT_le [] 32)); replace HB := Lib.hid (below_next HB.out hb); clear ho hb))
  clear HO17
  go_upto_region 20 with (first | (go_at_call 22; refine (refNumber_any 0 8 (by omega) (by omega) _ (by have := HL.out; omega) _ _ HT.out).mono ?_; rintro e w19 ⟨v19, rfl, ho, hb⟩; replace HT := Lib.hid (ownsB_has ho); have HO19 := Lib.hid (ownsB_base ho HB.out.size); replace HL := Lib.hid (len_step HL.out (putT_le 0 8)); replace HB := Lib.hid (below_next HB.out hb); clear ho hb))
  clear HO18
  go_upto_region 21 with (first | (go_at_call 22; refine (refNumber_any 0 8 (by omega) (by omega) _ (by have := HL.out; omega) _ _ HT.out).mono ?_; rintro e w20 ⟨v20, rfl, ho, hb⟩; replace HT := Lib.hid (ownsB_has ho); have HO20 := Lib.hid (ownsB_base ho HB.out.size); replace HL := Lib.hid (len_step HL.out (putT_le 0 8)); replace HB := Lib.hid (below_next HB.out hb); clear ho hb))
  clear HO19
  go_upto_region 22 with (first | (go_at_call 21; refine (refTextF_any pre hpre 155 _ (by have := HL.out; omega) _ _ HT.out).mono ?_; rintro e w21 ⟨v21, rfl, ho, hb⟩; replace HT := Lib.hid (ownsB_has ho); have HO21 := Lib.hid (ownsB_base ho HB.out.size); replace HL := Lib.hid (len_step HL.out (fieldT_le pre 155)); replace HB := Lib.hid (below_next HB.out hb); clear ho hb))
  clear HO20
  go_upto_region 23 with (first | (go_at_call 21; refine (refTextF_any [] (by decide) 12 _ (by have := HL.out; omega) _ _ HT.out).mono ?_; rintro e w22 ⟨v22, rfl, ho, hb⟩; replace HT := Lib.hid (ownsB_has ho); have HO22 := Lib.hid (ownsB_base ho HB.out.size); replace HL := Lib.hid (len_step HL.out (fieldT_le [] 12)); replace HB := Lib.hid (below_next HB.out hb); clear ho hb))
  clear HO21
  have hL0 : (((((((((((((((((([] : List UInt8) ++ fieldT name 100) ++ putT 420 8) ++ putT 0 8) ++ putT 0 8) ++ putT size 12) ++ putT 0 12) ++ fieldT [32, 32, 32, 32, 32, 32, 32, 32] 8) ++ fieldT [48] 1) ++ fieldT [] 100) ++ fieldT [117, 115, 116, 97, 114] 6) ++ fieldT [48, 48] 2) ++ fieldT [] 32) ++ fieldT [] 32) ++ putT 0 8) ++ putT 0 8) ++ fieldT pre 155) ++ fieldT [] 12) = hdr0 pre name size := by simp only [hdr0, hdrA, hdrC, blank8, List.nil_append, List.append_assoc]
  rw [hL0] at HT HO22
  clear hL0 HL
  have C1 := Lib.hid (show ∀ w v, HasText w v (hdr0 pre name size) → Calls Tryd.prog 14 #[v] w fun e w' => e = .returned (.int .i64 (hdrS pre name size : Int)) ∧ w = w' from fun w v hv => by
    have h := refCheck_any (hdr0 pre name size) (by rw [hdr0_len HF.out]; omega) v w hv
    rwa [← hdrS, check_sum (hdrS_lt HF.out)] at h)
  have hS := hdrS_lt HF.out
  have HSum := Lib.hid (show putT (hdrS pre name size) 7 ++ [32] = sumB (hdrS pre name size) from rfl)
  have H7 := Lib.hid ((get_put _ 7 (put7 hS)).2.2)
  clear hS
  obtain ⟨g1, cap1, rfl, hg1⟩ := ownsB_slice HO22.out
  have HG1 := Lib.hid (And.intro hg1 (ownsB_lt HO22.out g1 rfl).2)
  rw [hdr0_len HF.out] at HO22 HT ⊢
  clear hg1
  have h7 : (putT (hdrS pre name size : Int) 7).length = 7 := H7.out
  go_upto_region 26 with (first
    | (go_at_call 14; refine (C1.out _ _ HT.out).mono ?_; rintro e w23 ⟨rfl, rfl⟩)
    | (go_at_call 22; refine (refNumber_any _ 7 (by omega) (by have := hdrS_lt HF.out; omega) [] (Nat.zero_le _) _ _ (hasText_nil _)).mono ?_; rintro e w23 ⟨v23, rfl, ho, hb⟩; obtain ⟨g2, cap2, rfl, hg2⟩ := ownsB_slice ho; have HO23 := Lib.hid (show OwnsB w23 w22.heap.size 5 (.slice (some ⟨g2, 0, none⟩) 7 cap2) (putT (hdrS pre name size : Int) 7) from (by have h := ho; rw [List.nil_append, H7.out] at h; exact h)); have HP23 := Lib.hid (ownsB_same HO22.out fun k hk => hb.block k (ownsB_lt HO22.out k hk).2); have HB23 := Lib.hid (below_next HB.out hb); have HG2 := Lib.hid (And.intro hg2 hb.size); clear ho hb hg2)
    | (at_builtin; refine append_owns_list rfl (.tmp 66) (.tmp 67) 22 rfl w22.heap.size 5 i0 Tryd.underlying22 hi hz0 hz1 hz2 _ (putT (hdrS pre name size : Int) 7) [32] rfl (ownsB_alloc HO23.out _) _ rfl (text_byte w23 5 32 32 rfl) (by rw [H7.out]; decide) (by have := HG2.out.2; simp; omega) ?_; intro v24 w24 ho24 hg24; obtain ⟨g3, cap3, rfl, hg3⟩ := ownsB_slice ho24; have HO24 := Lib.hid ho24; have HP24 := Lib.hid (ownsB_same (ownsB_alloc HP23.out _) fun k hk => hg24.block k (ownsB_lt (ownsB_alloc HP23.out _) k hk).2 (fun e => by have h1 := (ownsB_lt HO23.out k e.symm).1; have h2 := (ownsB_lt HO22.out k hk).2; omega)); have HB24 := Lib.hid (below_grown (HB23.out.alloc HB23.out.size _) hg24 (by have := HB23.out.size; simp; omega) (fun k hk => by have h1 := (ownsB_lt HO23.out k hk).1; have h2 := HB.out.size; omega)); have HG3 := Lib.hid hg3; clear ho24 hg24 hg3))
  have HQ24 := Lib.hid (show OwnsB w24 w22.heap.size 5 (.slice (some ⟨g3, 0, none⟩) 8 cap3) (sumB (hdrS pre name size)) by
    have h := HO24.out
    rw [HSum.out, sumB_len (hdrS_lt HF.out)] at h; exact h)
  clear h7
  rw [← mixH_zero] at HP24
  clear HT HO22 C1 HSum H7 HO23 HP23 HB23 HO24 HB HG2
  go_loopw [11] (fun c wr => ∃ k : Nat, k ≤ 8 ∧ c = .int .i64 k ∧ OwnsB wr w.heap.size 5 (.slice (some ⟨g1, 0, none⟩) 512 cap1) (mixS pre name size k) ∧ OwnsB wr w22.heap.size 5 (.slice (some ⟨g3, 0, none⟩) 8 cap3) (sumB (hdrS pre name size)) ∧ Below w.heap.size w wr) (fun c _ => 8 - (intOf c).toNat)
  case atStart => exact ⟨0, by omega, rfl, HP24.out, HQ24.out, HB24.out⟩
  case round =>
    clear HP24 HQ24 HB24
    obtain ⟨k, hk, rfl, ho, hq, hb⟩ := hrel
    have HO := Lib.hid ho
    have HQ := Lib.hid hq
    have HB := Lib.hid hb
    clear ho hq hb
    by_cases hlt : k < 8
    · have hS := sumB_len (hdrS_lt HF.out)
      obtain ⟨c, hc⟩ : ∃ c, (sumB (hdrS pre name size))[k]? = some c := ⟨(sumB (hdrS pre name size))[k]'(by omega), List.getElem?_eq_getElem _⟩
      obtain ⟨_, e1, c1, -, -⟩ := ownsB_cell HQ.out k (by omega) c (by rw [List.getD_eq_getElem?_getD, hc]; rfl)
      cases e1
      obtain ⟨_, e2, c2, f2, -⟩ := ownsB_cell HO.out (148 + k) (by rw [mixH_len HF.out hk]; omega) 32 (mixH_at HF.out hlt)
      cases e2
      obtain ⟨hset, hsolo⟩ := ownsB_set HO.out (148 + k) c (.int .u8 (c.toNat : Int)) rfl
      rw [mixH_next HF.out hlt hc] at hset
      have hne : g1 ≠ g3 := by have h1 := HG1.out.2; have h2 := HG3.out; omega
      have HO' := Lib.hid hset
      have HQ' := Lib.hid (ownsB_same HQ.out fun j hj => hsolo.block j (fun e => by subst e; cases hj; exact hne rfl))
      have HB' := Lib.hid (solo_below HB.out hsolo HG1.out.1)
      obtain ⟨j, hj⟩ : ∃ j, j = 148 + k := ⟨_, rfl⟩
      rw [← hj] at c2 f2 HO' HQ' HB'
      have q0 : (k : Int) < 8 := by omega
      have q1 : (148 : Int) + (k : Int) = (j : Int) := by omega
      have q2 : wrap64 (j : Int) = (j : Int) := by rw [wrap64]; omega
      have q3 : IntKind.i64.wrap (j : Int) = (j : Int) := by rw [IntKind.wrap_i64]; omega
      have q4 : (j : Int) < 512 := by omega
      obtain ⟨x, hx⟩ : ∃ x : Nat, x = c.toNat := ⟨_, rfl⟩
      rw [← hx] at c1 HO' HQ' HB'
      have w1 : wrap64 ((k : Int) + 1) = ((k + 1 : Nat) : Int) := next64 k (by omega)
      clear hset hsolo hj hx hc
      go_wp2
      clear q1 q2 q3 q4
      refine ⟨⟨k + 1, hlt, by rw [w1], HO'.out, HQ'.out, HB'.out⟩, ?_⟩
      rw [w1]; simp only [intOf, Int.toNat_natCast]; omega
    · obtain rfl : k = 8 := by omega
      have q0 : ¬ ((8 : Nat) : Int) < 8 := by omega
      have HE := Lib.hid (ownsB_has HO.out)
      rw [mixH_eight HF.out] at HE
      go_wp2
      go_ret2
      exact ⟨_, rfl, HE.out, HB.out⟩
end Go.Proofs.YtbjekhhefepnlaaDoor
