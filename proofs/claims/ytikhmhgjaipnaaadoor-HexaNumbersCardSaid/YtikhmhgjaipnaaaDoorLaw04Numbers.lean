/-
The walks of the statements of layer 4 on numbers, out of the contracts of package hexa.
-/
import Derived.Test.YtikhmhgjaipnaaaDoorHexaFace
import Derived.Test.YtikhmhgjaipnaaaDoorRef04Read
namespace Go.Proofs.YtikhmhgjaipnaaaDoor
open Go.RowKit
set_option maxHeartbeats 2000000 in
theorem hexaNumbers_walk (F : HexaFace) (n : Int) (s : List UInt8) (most : Int) (hn : -9223372036854775808 ≤ n ∧ n < 9223372036854775808) (hs : s.length < 9223372036854775808) (hm : -9223372036854775808 ≤ most ∧ most < 9223372036854775808) (w : World) (hT : PowTab w) :
    Calls Tryd.prog 4 #[.int .i64 n, .string (str s), .int .i64 most] w fun e w' => e = .returned (.bool true) ∧ Below w.heap.size w w' := by
  have R1 := Lib.hid (fun w => F.read w s most hs hm.1 hm.2)
  have R2 := Lib.hid (refRead_any s most hs)
  have N1 := Lib.hid (fun w => F.number w n hn.1 hn.2)
  have N2 := Lib.hid (refNumber_any n hn.1 hn.2)
  have HT := Lib.hid hT
  clear hn hs hm hT
  generalize readN s most = x at *
  generalize readErr s most = y at *
  generalize numL n = l at *
  go_enter Tryd.func4, Tryd.ntmps4
  go_wp2_with (first
    | (go_at_call 9; refine (awake4_any F _ HT.out).mono ?_; rintro e w1 ⟨rfl, hb⟩; have H1 := Lib.hid hb; clear hb)
    | (go_at_call 14; refine (R1.out _).mono ?_; rintro e w2 ⟨rfl, hb⟩; have H2 := Lib.hid (below_next H1.out hb); clear hb H1)
    | (go_at_call 15; refine (R2.out _).mono ?_; rintro e w3 ⟨rfl, hb⟩; have H3 := Lib.hid (below_next H2.out hb); clear hb H2)
    | (go_at_call 16; refine (N1.out _ (powTab_below HT.out H3.out)).mono ?_; rintro e w4 ⟨rfl, hb⟩; have H4 := Lib.hid (below_next H3.out hb); clear hb H3)
    | (go_at_call 17; refine (N2.out _).mono ?_; rintro e w5 ⟨rfl, hb⟩; have H5 := Lib.hid (below_next H4.out hb); clear hb H4))
  go_ret
  exact ⟨rfl, H5.out⟩
theorem reads_neg (n : Int) (h : n < 0) (most : Int) : readN (numL n) most = 0 ∧ readErr (numL n) most = 2 := by
  have : isNum (numL n) = false := by unfold numL; rw [if_pos h]; exact isNum_neg _
  simp [readN, readErr, this]
theorem reads_pos (m : Nat) (hm : m < 9223372036854775808) (most : Int) : readN (numL m) most = (if most < m then 0 else (m : Int)) ∧ readErr (numL m) most = (if most < m then 8 else 0) := by
  have := isNum_digs m hm
  rw [numL_nonneg]
  simp [readN, readErr, this, valN_digs]
theorem reads_back (s : List UInt8) (most : Int) : readErr s most ≠ 0 ∨ numL (readN s most) = s := by
  by_cases h : isNum s = true
  · by_cases hm : most < valN s
    · left; rw [(read_over h hm).2]; decide
    · right; rw [(read_good h hm).1, numL_nonneg]; exact (isNum_val h).2
  · left; rw [(read_bad (by simpa using h) most).2]; decide
set_option maxHeartbeats 2000000 in
theorem hexaReads_walk (F : HexaFace) (n : Int) (s : List UInt8) (hn : -9223372036854775808 ≤ n ∧ n < 9223372036854775808) (hs : s.length < 9223372036854775808) (w : World) (hT : PowTab w) :
    Calls Tryd.prog 6 #[.int .i64 n, .string (str s)] w fun e w' => e = .returned (.bool true) ∧ Below w.heap.size w w' := by
  obtain ⟨p, hp⟩ : ∃ p, IntKind.i64.wrap (n - 1) = p := ⟨_, rfl⟩
  have hp2 := hp
  rw [IntKind.wrap_i64] at hp2
  have hl := numL_length n hn.1 hn.2
  have R1 := Lib.hid (fun w => F.read w (numL n) n (by omega) hn.1 hn.2)
  have R2 := Lib.hid (fun w => F.read w (numL n) p (by omega) (by omega) (by omega))
  have R3 := Lib.hid (fun w => F.read w s 4611686018427387904 hs (by decide) (by decide))
  have N1 := Lib.hid (fun w => F.number w n hn.1 hn.2)
  obtain ⟨y, hy⟩ : ∃ y, readN s 4611686018427387904 = y := ⟨_, rfl⟩
  obtain ⟨ye, hye⟩ : ∃ ye, readErr s 4611686018427387904 = ye := ⟨_, rfl⟩
  have hb := reads_back s 4611686018427387904
  rw [hy, hye] at hb R3
  have hyb : -9223372036854775808 ≤ y ∧ y < 9223372036854775808 := by
    rw [← hy]; unfold readN
    by_cases h : isNum s = true
    · have := (isNum_val h).1
      rw [if_pos h]; split <;> omega
    · rw [if_neg h]; omega
  have N2 := Lib.hid (fun w => F.number w y hyb.1 hyb.2)
  have HB := Lib.hid hb
  have HT := Lib.hid hT
  clear hp2 hl hs hy hye hyb hb hT
  by_cases hneg : n < 0
  · obtain ⟨h1, h2⟩ := reads_neg n hneg n
    obtain ⟨h3, h4⟩ := reads_neg n hneg p
    rw [h1, h2] at R1
    rw [h3, h4] at R2
    have hd : decide (n < 0) = true := decide_eq_true hneg
    clear h1 h2 h3 h4 hneg hn
    generalize numL n = l at *
    by_cases hz : ye = 0
    · subst hz
      have hy2 : numL y = s := HB.out.resolve_left (fun h => h rfl)
      rw [hy2] at N2
      clear hy2 HB
      go_enter Tryd.func6, Tryd.ntmps6
      go_wp2_with (first
        | (go_at_call 9; refine (awake4_any F _ HT.out).mono ?_; rintro e w1 ⟨rfl, hb⟩; have H1 := Lib.hid hb; clear hb)
        | (go_at_call 16; with_reducible refine (N1.out w1 (powTab_below HT.out H1.out)).mono ?_; rintro e w2 ⟨rfl, hb⟩; have H2 := Lib.hid (below_next H1.out hb); clear hb H1)
        | (go_at_call 14; with_reducible refine (R1.out w2).mono ?_; rintro e w3 ⟨rfl, hb⟩; have H3 := Lib.hid (below_next H2.out hb); clear hb H2)
        | (go_at_call 16; with_reducible refine (N1.out w3 (powTab_below HT.out H3.out)).mono ?_; rintro e w4 ⟨rfl, hb⟩; have H4 := Lib.hid (below_next H3.out hb); clear hb H3)
        | (go_at_call 14; with_reducible refine (R2.out w4).mono ?_; rintro e w5 ⟨rfl, hb⟩; have H5 := Lib.hid (below_next H4.out hb); clear hb H4)
        | (go_at_call 14; with_reducible refine (R3.out w5).mono ?_; rintro e w6 ⟨rfl, hb⟩; have H6 := Lib.hid (below_next H5.out hb); clear hb H5)
        | (go_at_call 16; with_reducible refine (N2.out w6 (powTab_below HT.out H6.out)).mono ?_; rintro e w7 ⟨rfl, hb⟩; have H7 := Lib.hid (below_next H6.out hb); clear hb H6))
      go_ret
      exact ⟨rfl, H7.out⟩
    · have hz' : (ye == 0) = false := by simpa using hz
      clear hz HB N2
      go_enter Tryd.func6, Tryd.ntmps6
      go_wp2_with (first
        | (go_at_call 9; refine (awake4_any F _ HT.out).mono ?_; rintro e w1 ⟨rfl, hb⟩; have H1 := Lib.hid hb; clear hb)
        | (go_at_call 16; with_reducible refine (N1.out w1 (powTab_below HT.out H1.out)).mono ?_; rintro e w2 ⟨rfl, hb⟩; have H2 := Lib.hid (below_next H1.out hb); clear hb H1)
        | (go_at_call 14; with_reducible refine (R1.out w2).mono ?_; rintro e w3 ⟨rfl, hb⟩; have H3 := Lib.hid (below_next H2.out hb); clear hb H2)
        | (go_at_call 16; with_reducible refine (N1.out w3 (powTab_below HT.out H3.out)).mono ?_; rintro e w4 ⟨rfl, hb⟩; have H4 := Lib.hid (below_next H3.out hb); clear hb H3)
        | (go_at_call 14; with_reducible refine (R2.out w4).mono ?_; rintro e w5 ⟨rfl, hb⟩; have H5 := Lib.hid (below_next H4.out hb); clear hb H4)
        | (go_at_call 14; with_reducible refine (R3.out w5).mono ?_; rintro e w6 ⟨rfl, hb⟩; have H6 := Lib.hid (below_next H5.out hb); clear hb H5))
      go_ret
      exact ⟨rfl, H6.out⟩
  · obtain ⟨m, rfl⟩ : ∃ m : Nat, n = (m : Int) := ⟨n.natAbs, by omega⟩
    have hp' : p = (m : Int) - 1 := by rw [← hp, IntKind.wrap_i64]; omega
    obtain ⟨h1, h2⟩ := reads_pos m (by omega) m
    obtain ⟨h3, h4⟩ := reads_pos m (by omega) p
    rw [if_neg (by omega)] at h1 h2
    rw [if_pos (by omega)] at h3 h4
    rw [h1, h2] at R1
    rw [h3, h4] at R2
    have hd : decide ((m : Int) < 0) = false := decide_eq_false (by omega)
    clear h1 h2 h3 h4 hneg hn hp'
    generalize numL (m : Int) = l at *
    by_cases hz : ye = 0
    · subst hz
      have hy2 : numL y = s := HB.out.resolve_left (fun h => h rfl)
      rw [hy2] at N2
      clear hy2 HB
      go_enter Tryd.func6, Tryd.ntmps6
      go_wp2_with (first
        | (go_at_call 9; refine (awake4_any F _ HT.out).mono ?_; rintro e w1 ⟨rfl, hb⟩; have H1 := Lib.hid hb; clear hb)
        | (go_at_call 16; with_reducible refine (N1.out w1 (powTab_below HT.out H1.out)).mono ?_; rintro e w2 ⟨rfl, hb⟩; have H2 := Lib.hid (below_next H1.out hb); clear hb H1)
        | (go_at_call 14; with_reducible refine (R1.out w2).mono ?_; rintro e w3 ⟨rfl, hb⟩; have H3 := Lib.hid (below_next H2.out hb); clear hb H2)
        | (go_at_call 16; with_reducible refine (N1.out w3 (powTab_below HT.out H3.out)).mono ?_; rintro e w4 ⟨rfl, hb⟩; have H4 := Lib.hid (below_next H3.out hb); clear hb H3)
        | (go_at_call 14; with_reducible refine (R2.out w4).mono ?_; rintro e w5 ⟨rfl, hb⟩; have H5 := Lib.hid (below_next H4.out hb); clear hb H4)
        | (go_at_call 14; with_reducible refine (R3.out w5).mono ?_; rintro e w6 ⟨rfl, hb⟩; have H6 := Lib.hid (below_next H5.out hb); clear hb H5)
        | (go_at_call 16; with_reducible refine (N2.out w6 (powTab_below HT.out H6.out)).mono ?_; rintro e w7 ⟨rfl, hb⟩; have H7 := Lib.hid (below_next H6.out hb); clear hb H6))
      go_ret
      exact ⟨rfl, H7.out⟩
    · have hz' : (ye == 0) = false := by simpa using hz
      clear hz HB N2
      go_enter Tryd.func6, Tryd.ntmps6
      go_wp2_with (first
        | (go_at_call 9; refine (awake4_any F _ HT.out).mono ?_; rintro e w1 ⟨rfl, hb⟩; have H1 := Lib.hid hb; clear hb)
        | (go_at_call 16; with_reducible refine (N1.out w1 (powTab_below HT.out H1.out)).mono ?_; rintro e w2 ⟨rfl, hb⟩; have H2 := Lib.hid (below_next H1.out hb); clear hb H1)
        | (go_at_call 14; with_reducible refine (R1.out w2).mono ?_; rintro e w3 ⟨rfl, hb⟩; have H3 := Lib.hid (below_next H2.out hb); clear hb H2)
        | (go_at_call 16; with_reducible refine (N1.out w3 (powTab_below HT.out H3.out)).mono ?_; rintro e w4 ⟨rfl, hb⟩; have H4 := Lib.hid (below_next H3.out hb); clear hb H3)
        | (go_at_call 14; with_reducible refine (R2.out w4).mono ?_; rintro e w5 ⟨rfl, hb⟩; have H5 := Lib.hid (below_next H4.out hb); clear hb H4)
        | (go_at_call 14; with_reducible refine (R3.out w5).mono ?_; rintro e w6 ⟨rfl, hb⟩; have H6 := Lib.hid (below_next H5.out hb); clear hb H5))
      go_ret
      exact ⟨rfl, H6.out⟩
end Go.Proofs.YtikhmhgjaipnaaaDoor
