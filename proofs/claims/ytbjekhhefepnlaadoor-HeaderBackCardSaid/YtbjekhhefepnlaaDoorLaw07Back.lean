/-
The walk of the statement that a header that was put is got, and what is got is put as it stood.
-/
import Derived.Test.YtbjekhhefepnlaaDoorHeaderFace
namespace Go.Proofs.YtbjekhhefepnlaaDoor
open Go.RowKit
theorem getHPath_le (b : List UInt8) : (getHPath b).length ≤ 256 := by
  unfold getHPath
  by_cases h : getHErr b = 0
  · rw [if_pos h]; exact rawPath_le b (by rw [getH_len h]; omega)
  · rw [if_neg h]; exact Nat.zero_le _
theorem getHSize_bd (b : List UInt8) : -9223372036854775808 ≤ getHSize b ∧ getHSize b < 9223372036854775808 := by
  unfold getHSize; split
  · exact getN_bds _
  · omega
theorem putH_lt (p : List UInt8) (n : Int) : (putH p n).length < 4611686018427387904 := by
  by_cases h : putHErr p n = 0
  · rw [putH_len h]; decide
  · rw [putH, if_neg h]; decide
set_option maxRecDepth 100000 in
set_option maxHeartbeats 8000000 in
theorem headerBack_walk (F : HeaderFace) (s : List UInt8) (n : Int) (b : List UInt8) (hs : s.length < 1152921504606846976) (hn : -9223372036854775808 ≤ n ∧ n < 9223372036854775808) (hb : b.length < 4611686018427387904) (v : Value) (w : World) (hv : HasText w v b) :
    Calls Tryd.prog 4 #[.string (str s), .int .i64 n, v] w fun e w' => e = .returned (.bool true) ∧ Below w.heap.size w w' := by
  have hg := getHSize_bd b
  have hp := getHPath_le b
  have P1 := Lib.hid (fun w => F.put w s n hs hn.1 hn.2)
  have G1 := Lib.hid (fun w v hv => F.get w v (putH s n) (putH_lt s n) hv)
  have G2 := Lib.hid (fun w hv => F.get w v b hb hv)
  have P2 := Lib.hid (fun w => F.put w (getHPath b) (getHSize b) (by omega) hg.1 hg.2)
  have HX := Lib.hid (fun h : putHErr s n = 0 => And.intro (get_putH h) (putH_len h))
  have HY := Lib.hid (fun h : getHErr b = 0 => put_getH h)
  have HZ := Lib.hid (fun h : getHErr b ≠ 0 => getH_bad h)
  have HV := Lib.hid hv
  have hs1 : (str s).toList = s := str_toList s
  have hb1 : (str b).toList = b := str_toList b
  clear hs hn hb hv hg hp
  generalize putHErr s n = E at *
  generalize putH s n = X at *
  generalize putHErr (getHPath b) (getHSize b) = E2 at *
  generalize putH (getHPath b) (getHSize b) = Y at *
  generalize getHErr b = ge at *
  generalize getHPath b = gp at *
  generalize getHSize b = gs at *
  by_cases hE : E = 0
  · subst hE
    obtain ⟨⟨x1, x2, x3⟩, x4⟩ := HX.out rfl
    rw [x1, x2, x3] at G1
    have HX1 := Lib.hid x4
    clear x1 x2 x3 x4 HX
    by_cases hG : ge = 0
    · subst hG
      obtain ⟨y1, y2⟩ := HY.out rfl
      rw [y1, y2] at P2
      clear y1 y2 HY HZ
      go_enter Tryd.func4, Tryd.ntmps4
      go_upto_region 2 with (first | (go_at_call 9; refine (awake7_any F _).mono ?_; rintro e w1 ⟨rfl, hb⟩; have H1 := Lib.hid hb; clear hb))
      go_upto_region 3 with (first | (go_at_call 10; refine (P1.out _).mono ?_; rintro e w2 ⟨v1, rfl, ⟨ht, -⟩, hb⟩; obtain ⟨ao1, cap1, rfl⟩ := text_shape ht 512 HX1.out; have T1 := Lib.hid ht; have H2 := Lib.hid (below_next H1.out hb); clear ht hb H1))
      go_upto_region 5 with (first | (go_at_call 12; refine (G1.out _ _ T1.out).mono ?_; rintro e w3 ⟨rfl, hb⟩; replace H2 := Lib.hid (below_next H2.out hb); clear hb))
      go_upto_region 8 with (first | (go_at_call 12; refine (G2.out _ (text_keep HV.out H2.out)).mono ?_; rintro e w4 ⟨rfl, hb⟩; have H4 := Lib.hid (below_next H2.out hb); clear hb H2))
      go_upto_region 11 with (first | (go_at_call 10; refine (P2.out _).mono ?_; rintro e w5 ⟨v5, rfl, ⟨ht, -⟩, hb⟩; have H5 := Lib.hid (below_next H4.out hb); have cv1 := conv_text Tryd.underlying22 Tryd.underlying5 Tryd.underlying9 ht; have cv2 := conv_text Tryd.underlying22 Tryd.underlying5 Tryd.underlying9 (text_keep HV.out H5.out); clear ht hb H4))
      go_wp2
      go_ret
      exact ⟨rfl, H5.out⟩
    · have dG : (ge != 0) = true := by simp; exact hG
      obtain ⟨y1, y2⟩ := HZ.out hG
      subst y1; subst y2
      have e0 : (str ([] : List UInt8)).toList = [] := str_toList []
      clear HY HZ hG P2
      go_enter Tryd.func4, Tryd.ntmps4
      go_upto_region 2 with (first | (go_at_call 9; refine (awake7_any F _).mono ?_; rintro e w1 ⟨rfl, hb⟩; have H1 := Lib.hid hb; clear hb))
      go_upto_region 3 with (first | (go_at_call 10; refine (P1.out _).mono ?_; rintro e w2 ⟨v1, rfl, ⟨ht, -⟩, hb⟩; obtain ⟨ao1, cap1, rfl⟩ := text_shape ht 512 HX1.out; have T1 := Lib.hid ht; have H2 := Lib.hid (below_next H1.out hb); clear ht hb H1))
      go_upto_region 5 with (first | (go_at_call 12; refine (G1.out _ _ T1.out).mono ?_; rintro e w3 ⟨rfl, hb⟩; replace H2 := Lib.hid (below_next H2.out hb); clear hb))
      go_upto_region 8 with (first | (go_at_call 12; refine (G2.out _ (text_keep HV.out H2.out)).mono ?_; rintro e w4 ⟨rfl, hb⟩; have H4 := Lib.hid (below_next H2.out hb); clear hb H2))
      go_wp2
      go_ret
      exact ⟨rfl, H4.out⟩
  · have dE : (E == 0) = false := by simp; exact hE
    clear HX hE G1
    by_cases hG : ge = 0
    · subst hG
      obtain ⟨y1, y2⟩ := HY.out rfl
      rw [y1, y2] at P2
      clear y1 y2 HY HZ
      go_enter Tryd.func4, Tryd.ntmps4
      go_upto_region 2 with (first | (go_at_call 9; refine (awake7_any F _).mono ?_; rintro e w1 ⟨rfl, hb⟩; have H1 := Lib.hid hb; clear hb))
      go_upto_region 3 with (first | (go_at_call 10; refine (P1.out _).mono ?_; rintro e w2 ⟨v1, rfl, ⟨ht, -⟩, hb⟩; have T1 := Lib.hid ht; have H2 := Lib.hid (below_next H1.out hb); clear ht hb H1))
      go_upto_region 8 with (first | (go_at_call 12; refine (G2.out _ (text_keep HV.out H2.out)).mono ?_; rintro e w4 ⟨rfl, hb⟩; have H4 := Lib.hid (below_next H2.out hb); clear hb H2))
      go_upto_region 11 with (first | (go_at_call 10; refine (P2.out _).mono ?_; rintro e w5 ⟨v5, rfl, ⟨ht, -⟩, hb⟩; have H5 := Lib.hid (below_next H4.out hb); have cv1 := conv_text Tryd.underlying22 Tryd.underlying5 Tryd.underlying9 ht; have cv2 := conv_text Tryd.underlying22 Tryd.underlying5 Tryd.underlying9 (text_keep HV.out H5.out); clear ht hb H4))
      go_wp2
      go_ret
      exact ⟨rfl, H5.out⟩
    · have dG : (ge != 0) = true := by simp; exact hG
      obtain ⟨y1, y2⟩ := HZ.out hG
      subst y1; subst y2
      have e0 : (str ([] : List UInt8)).toList = [] := str_toList []
      clear HY HZ hG P2
      go_enter Tryd.func4, Tryd.ntmps4
      go_upto_region 2 with (first | (go_at_call 9; refine (awake7_any F _).mono ?_; rintro e w1 ⟨rfl, hb⟩; have H1 := Lib.hid hb; clear hb))
      go_upto_region 3 with (first | (go_at_call 10; refine (P1.out _).mono ?_; rintro e w2 ⟨v1, rfl, ⟨ht, -⟩, hb⟩; have T1 := Lib.hid ht; have H2 := Lib.hid (below_next H1.out hb); clear ht hb H1))
      go_upto_region 8 with (first | (go_at_call 12; refine (G2.out _ (text_keep HV.out H2.out)).mono ?_; rintro e w4 ⟨rfl, hb⟩; have H4 := Lib.hid (below_next H2.out hb); clear hb H2))
      go_wp2
      go_ret
      exact ⟨rfl, H4.out⟩
end Go.Proofs.YtbjekhhefepnlaaDoor
