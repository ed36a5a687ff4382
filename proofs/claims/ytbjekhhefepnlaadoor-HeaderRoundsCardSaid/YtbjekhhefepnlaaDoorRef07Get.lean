/-
What the document's own answers for layer 7 return: Put whole, Get, Round.
-/
import Derived.Test.YtbjekhhefepnlaaDoorRef07Put
namespace Go.Proofs.YtbjekhhefepnlaaDoor
open Go.RowKit
set_option maxRecDepth 100000 in
set_option maxHeartbeats 4000000 in
theorem refPut7_any (p : List UInt8) (hp : p.length < 4611686018427387904) (n : Int) (w : World) :
    Calls Tryd.prog 11 #[.string (str p), .int .i64 n] w fun e w' => ∃ v, e = .returned (.tuple #[v, .int .i64 (putHErr p n)]) ∧ HasText w' v (putH p n) ∧ Below w.heap.size w w' := by
  have SP := Lib.hid (fun w => refSplit_any p hp w)
  rcases splitErr_cases p with ⟨h0, hr⟩ | ⟨h9, hr⟩
  · by_cases hn : 0 ≤ n ∧ n ≤ 4194304
    · have h := (putHErr_ok p n).2 ⟨hr, hn.1, hn.2⟩
      rw [h, putH, if_pos h]
      exact refPut7_fields _ _ n (fit_of h) hn p hr hp w
    · have h8 : putHErr p n = 8 := by unfold putHErr; rw [if_neg (by omega), if_pos (by omega)]
      have HE := Lib.hid (show putHErr p n = 8 ∧ putH p n = [] from ⟨h8, by rw [putH, if_neg (by omega)]⟩)
      rw [h0] at SP
      clear h8 h0 hr hp
      by_cases h1 : n < 0
      · have d1 : decide (n < 0) = true := decide_eq_true h1
        clear h1 hn
        go_enter Tryd.func11, Tryd.ntmps11
        go_wp2_with (first | (go_at_call 20; refine (SP.out _).mono ?_; rintro e w1 ⟨rfl, hb⟩; have HB := Lib.hid hb; clear hb))
        go_ret2
        rw [HE.out.1, HE.out.2]
        exact ⟨_, rfl, hasText_nil _, HB.out⟩
      · have d1 : decide (n < 0) = false := decide_eq_false h1
        have d2 : decide (n > 4194304) = true := decide_eq_true (by omega)
        clear h1 hn
        go_enter Tryd.func11, Tryd.ntmps11
        go_wp2_with (first | (go_at_call 20; refine (SP.out _).mono ?_; rintro e w1 ⟨rfl, hb⟩; have HB := Lib.hid hb; clear hb))
        go_ret2
        rw [HE.out.1, HE.out.2]
        exact ⟨_, rfl, hasText_nil _, HB.out⟩
  · have h9' : putHErr p n = 9 := by unfold putHErr; rw [if_pos (by omega), h9]
    have HE := Lib.hid (show putHErr p n = 9 ∧ putH p n = [] from ⟨h9', by rw [putH, if_neg (by omega)]⟩)
    rw [h9] at SP
    clear h9' h9 hr hp
    go_enter Tryd.func11, Tryd.ntmps11
    go_wp2_with (first | (go_at_call 20; refine (SP.out _).mono ?_; rintro e w1 ⟨rfl, hb⟩; have HB := Lib.hid hb; clear hb))
    go_ret2
    rw [HE.out.1, HE.out.2]
    exact ⟨_, rfl, hasText_nil _, HB.out⟩
/-- A piece of a slice of bytes. -/
theorem text_mid {w : World} {ad : Addr} {n cap : Nat} {l : List UInt8} (h : HasText w (.slice (some ad) n cap) l) (lo hi : Nat) (h1 : lo ≤ hi) (h2 : hi ≤ l.length) : HasText w (.slice (some (ad.add lo)) (hi - lo) (cap - lo)) ((l.take hi).drop lo) := by
  obtain ⟨ao', cap', e, hnil, hc⟩ := h
  cases e
  have hl : (((l.take hi).drop lo).map w8).length = hi - lo := by rw [List.length_map, List.length_drop, List.length_take]; omega
  refine ⟨_, _, by rw [hl], (fun h => by cases h), fun ad' had => ⟨?_, fun j u hu => ?_⟩⟩
  · have := (hc ad rfl).1
    rw [List.length_map] at this; omega
  · cases had
    rw [bytesL_map, List.getElem?_map, List.getElem?_drop, List.getElem?_take] at hu
    have := (hc ad rfl).2 (lo + j) u (by
      rw [bytesL_map, List.getElem?_map]
      split at hu
      · exact hu
      · cases hu)
    rwa [← Addr.add_add] at this
theorem nameT_le (b : List UInt8) : (nameT b).length ≤ b.length := by
  unfold nameT; split
  · unfold headL; exact (List.takeWhile_sublist _).length_le
  · exact Nat.zero_le _
theorem getN_bds (b : List UInt8) : -9223372036854775808 ≤ getN b ∧ getN b < 9223372036854775808 := by
  unfold getN
  by_cases h : isOct b = true
  · rw [if_pos h]
    obtain ⟨h1, h2, h3, h4⟩ := isOct_of h
    have h5 : 8 ^ (b.length - 1) ≤ 8 ^ 11 := Nat.pow_le_pow_right (by decide) (by omega)
    have h8 : (8 : Nat) ^ 11 = 8589934592 := by decide
    omega
  · rw [if_neg h]; omega
theorem joinT_le (p n : List UInt8) : (joinT p n).length ≤ p.length + n.length + 1 := by
  unfold joinT joinS; split
  · split
    · omega
    · simp; omega
  · exact Nat.zero_le _
theorem rawPath_le (b : List UInt8) (h : 512 ≤ b.length) : (rawPath b).length ≤ 256 := by
  have h1 := joinT_le (nameT ((b.take 500).drop 345)) (nameT (b.take 100))
  have h2 := nameT_le ((b.take 500).drop 345)
  have h3 := nameT_le (b.take 100)
  rw [List.length_drop, List.length_take] at h2
  rw [List.length_take] at h3
  rw [rawPath]; omega
set_option maxRecDepth 100000 in
set_option maxHeartbeats 8000000 in
theorem refGet7_any (b : List UInt8) (hb : b.length < 4611686018427387904) (v : Value) (w : World) (hv : HasText w v b) :
    Calls Tryd.prog 13 #[v] w fun e w' => e = .returned (.tuple #[.string (str (getHPath b)), .int .i64 (getHSize b), .int .i64 (getHErr b)]) ∧ Below w.heap.size w w' := by
  have HV := Lib.hid hv
  obtain ⟨n, hn⟩ : ∃ n, n = b.length := ⟨_, rfl⟩
  obtain ⟨ao, cap, rfl⟩ := text_shape hv n hn.symm
  have HN := Lib.hid hn
  rw [← hn] at hb
  clear hv hn
  by_cases hs : n < 512
  · have q0 : (n : Int) < 512 := by omega
    have h3 := shorter (x := b) (by rw [← HN.out]; exact hs)
    have hbad := getH_bad (b := b) (by omega)
    have HR := Lib.hid (And.intro h3 hbad)
    clear h3 hbad hs hb
    go_enter Tryd.func13, Tryd.ntmps13
    go_wp2
    go_ret3
    rw [HR.out.1, HR.out.2.1, HR.out.2.2]
    exact ⟨rfl, Below.refl _ _⟩
  · have q0 : ¬ (n : Int) < 512 := by omega
    have hbl : 512 ≤ b.length := by rw [← HN.out]; omega
    obtain ⟨ad, cap', hsl, hcc⟩ : ∃ ad cap', Value.slice ao n cap = .slice (some ad) n cap' ∧ True := by
      obtain ⟨ad, cap', e, -⟩ := text_pos HV.out n 0 HN.out.symm (by omega) _ rfl
      exact ⟨ad, cap', e, trivial⟩
    cases hsl
    have hcap := (text_cap HV.out).2
    have qc : (100 : Int) ≤ (cap : Int) := by omega
    have qc2 : (500 : Int) ≤ (cap : Int) := by omega
    have qc3 : (136 : Int) ≤ (cap : Int) := by omega
    have T1 := Lib.hid (text_take HV.out 100 (by omega))
    have T2 := Lib.hid (text_mid HV.out 345 500 (by omega) (by omega))
    have T3 := Lib.hid (text_mid HV.out 124 136 (by omega) (by omega))
    have N1 := Lib.hid (fun w hv => refName_any (b.take 100) (by rw [List.length_take]; omega) (.slice (some ad) 100 cap) w hv)
    have N2 := Lib.hid (fun w hv => refName_any ((b.take 500).drop 345) (by rw [List.length_drop, List.length_take]; omega) (.slice (some (ad.add 345)) 155 (cap - 345)) w hv)
    have G3 := Lib.hid (fun w hv => refGet_any ((b.take 136).drop 124) (by rw [List.length_drop, List.length_take]; omega) (.slice (some (ad.add 124)) 12 (cap - 124)) w hv)
    have J1 := Lib.hid (show ∀ w, Calls Tryd.prog 29 #[.string (str (nameT ((b.take 500).drop 345))), .string (str (nameT (b.take 100)))] w fun e w' => e = .returned (.tuple #[.string (str (rawPath b)), .int .i64 (rawErr b)]) ∧ Below w.heap.size w w' from fun w => refJoin_any (nameT ((b.take 500).drop 345)) (nameT (b.take 100)) (by have h := nameT_le ((b.take 500).drop 345); rw [List.length_drop, List.length_take] at h; omega) (by have h := nameT_le (b.take 100); rw [List.length_take] at h; omega) w)
    have P1 := Lib.hid (fun w => refPut7_any (rawPath b) (by have := rawPath_le b hbl; omega) (rawSize b) w)
    have hg2 : ¬ isHdr b = true → getHErr b = 2 ∧ getHPath b = [] ∧ getHSize b = 0 := fun h => by
      have h2 : getHErr b = 2 := by unfold getHErr; rw [if_neg (by omega), if_neg h]
      exact ⟨h2, (getH_bad (b := b) (by omega)).1, (getH_bad (b := b) (by omega)).2⟩
    have hg0 : isHdr b = true → getHErr b = 0 ∧ getHPath b = rawPath b ∧ getHSize b = rawSize b := fun h => by
      have h0 := getHErr_zero.2 h
      exact ⟨h0, by rw [getHPath, if_pos h0], by rw [getHSize, if_pos h0]⟩
    have hdef : isHdr b = (rawErr b == 0 && (putHErr (rawPath b) (rawSize b) == 0 && putH (rawPath b) (rawSize b) == b)) := rfl
    have HGG := Lib.hid (And.intro hg2 hg0)
    have HDD := Lib.hid hdef
    have hb1 : (str b).toList = b := str_toList b
    obtain ⟨E, hE⟩ : ∃ E, E = rawErr b := ⟨_, rfl⟩
    obtain ⟨F, hF⟩ : ∃ F, F = putHErr (rawPath b) (rawSize b) := ⟨_, rfl⟩
    obtain ⟨X, hX⟩ : ∃ X, X = putH (rawPath b) (rawSize b) := ⟨_, rfl⟩
    have hX1 : (str X).toList = X := str_toList X
    rw [← hE] at J1 HDD
    rw [← hF, ← hX] at P1
    rw [← hF, ← hX] at HDD
    clear hE hF hX hg2 hg0 hdef hcap hbl hs hb
    by_cases hE0 : E = 0
    · subst hE0
      by_cases hF0 : F = 0
      · subst hF0
        by_cases hXb : X = b
        · have te : (X == b) = true := by rw [beq_iff_eq]; exact hXb
          have HR := Lib.hid (HGG.out.2 (by rw [HDD.out, te]; rfl))
          clear hXb
          go_enter Tryd.func13, Tryd.ntmps13
          go_upto_region 4 with (first | (go_at_call 27; refine (N1.out _ T1.out).mono ?_; rintro e w1 ⟨rfl, rfl⟩))
          go_upto_region 5 with (first | (go_at_call 27; refine (N2.out _ T2.out).mono ?_; rintro e w1 ⟨rfl, rfl⟩))
          go_upto_region 6 with (first | (go_at_call 28; refine (G3.out _ T3.out).mono ?_; rintro e w1 ⟨rfl, hb⟩; have HB := Lib.hid hb; clear hb))
          go_upto_region 7 with (first | (go_at_call 29; refine (J1.out _).mono ?_; rintro e w2 ⟨rfl, hb⟩; have HB2 := Lib.hid (below_next HB.out hb); clear hb))
          go_upto_region 10 with (first | (go_at_call 11; refine (P1.out _).mono ?_; rintro e w3 ⟨v3, rfl, ht, hb⟩; have HB3 := Lib.hid (below_next HB2.out hb); have cv1 := conv_text Tryd.underlying22 Tryd.underlying5 Tryd.underlying9 ht; have cv2 := conv_text Tryd.underlying22 Tryd.underlying5 Tryd.underlying9 (text_below HV.out HB3.out); clear ht hb))
          go_wp2
          go_ret3
          rw [HR.out.1, HR.out.2.1, HR.out.2.2]
          exact ⟨rfl, HB3.out⟩
        · have te : (X == b) = false := by rw [beq_eq_false_iff_ne]; exact hXb
          have HR := Lib.hid (HGG.out.1 (by rw [HDD.out, te]; simp))
          clear hXb
          go_enter Tryd.func13, Tryd.ntmps13
          go_upto_region 4 with (first | (go_at_call 27; refine (N1.out _ T1.out).mono ?_; rintro e w1 ⟨rfl, rfl⟩))
          go_upto_region 5 with (first | (go_at_call 27; refine (N2.out _ T2.out).mono ?_; rintro e w1 ⟨rfl, rfl⟩))
          go_upto_region 6 with (first | (go_at_call 28; refine (G3.out _ T3.out).mono ?_; rintro e w1 ⟨rfl, hb⟩; have HB := Lib.hid hb; clear hb))
          go_upto_region 7 with (first | (go_at_call 29; refine (J1.out _).mono ?_; rintro e w2 ⟨rfl, hb⟩; have HB2 := Lib.hid (below_next HB.out hb); clear hb))
          go_upto_region 10 with (first | (go_at_call 11; refine (P1.out _).mono ?_; rintro e w3 ⟨v3, rfl, ht, hb⟩; have HB3 := Lib.hid (below_next HB2.out hb); have cv1 := conv_text Tryd.underlying22 Tryd.underlying5 Tryd.underlying9 ht; have cv2 := conv_text Tryd.underlying22 Tryd.underlying5 Tryd.underlying9 (text_below HV.out HB3.out); clear ht hb))
          go_wp2
          go_ret3
          rw [HR.out.1, HR.out.2.1, HR.out.2.2]
          exact ⟨rfl, HB3.out⟩
      · have dF : (F != 0) = true := by simp; exact hF0
        have HR := Lib.hid (HGG.out.1 (by rw [HDD.out]; simp; intro h; exact absurd h hF0))
        clear hF0
        go_enter Tryd.func13, Tryd.ntmps13
        go_upto_region 4 with (first | (go_at_call 27; refine (N1.out _ T1.out).mono ?_; rintro e w1 ⟨rfl, rfl⟩))
        go_upto_region 5 with (first | (go_at_call 27; refine (N2.out _ T2.out).mono ?_; rintro e w1 ⟨rfl, rfl⟩))
        go_upto_region 6 with (first | (go_at_call 28; refine (G3.out _ T3.out).mono ?_; rintro e w1 ⟨rfl, hb⟩; have HB := Lib.hid hb; clear hb))
        go_upto_region 7 with (first | (go_at_call 29; refine (J1.out _).mono ?_; rintro e w2 ⟨rfl, hb⟩; have HB2 := Lib.hid (below_next HB.out hb); clear hb))
        go_upto_region 10 with (first | (go_at_call 11; refine (P1.out _).mono ?_; rintro e w3 ⟨v3, rfl, ht, hb⟩; have HB3 := Lib.hid (below_next HB2.out hb); have cv1 := conv_text Tryd.underlying22 Tryd.underlying5 Tryd.underlying9 ht; have cv2 := conv_text Tryd.underlying22 Tryd.underlying5 Tryd.underlying9 (text_below HV.out HB3.out); clear ht hb))
        go_wp2
        go_ret3
        rw [HR.out.1, HR.out.2.1, HR.out.2.2]
        exact ⟨rfl, HB3.out⟩
    · have dE : (E != 0) = true := by simp; exact hE0
      have HR := Lib.hid (HGG.out.1 (by rw [HDD.out]; simp; intro h; exact absurd h hE0))
      clear hE0
      go_enter Tryd.func13, Tryd.ntmps13
      go_upto_region 4 with (first | (go_at_call 27; refine (N1.out _ T1.out).mono ?_; rintro e w1 ⟨rfl, rfl⟩))
      go_upto_region 5 with (first | (go_at_call 27; refine (N2.out _ T2.out).mono ?_; rintro e w1 ⟨rfl, rfl⟩))
      go_upto_region 6 with (first | (go_at_call 28; refine (G3.out _ T3.out).mono ?_; rintro e w1 ⟨rfl, hb⟩; have HB := Lib.hid hb; clear hb))
      go_upto_region 7 with (first | (go_at_call 29; refine (J1.out _).mono ?_; rintro e w2 ⟨rfl, hb⟩; have HB2 := Lib.hid (below_next HB.out hb); clear hb))
      go_wp2
      go_ret3
      rw [HR.out.1, HR.out.2.1, HR.out.2.2]
      exact ⟨rfl, HB2.out⟩
/-- The sum over whole blocks. -/
theorem round_next {k : Nat} {z : Int} (h : ((512 * k : Nat) : Int) < z) (hz : z < 100000) : k < 196 := by omega
set_option maxHeartbeats 4000000 in
theorem refRound_any (z : Int) (hz : z < 100000) (w : World) : Calls Tryd.prog 16 #[.int .i64 z] w fun e w' => e = .returned (.int .i64 (roundZ z)) ∧ w = w' := by
  go_enter Tryd.func16, Tryd.ntmps16
  go_wp2
  go_loopw [3] (fun c wr => wr = w ∧ ∃ k : Nat, k ≤ 196 ∧ c = .int .i64 ((512 * k : Nat) : Int) ∧ (k = 0 ∨ ((512 * k : Nat) : Int) - 512 < z)) (fun c _ => (200 * 512 - intOf c).toNat)
  case atStart => exact ⟨rfl, 0, by omega, rfl, .inl rfl⟩
  case round =>
    obtain ⟨rfl, k, hk, rfl, hz1⟩ := hrel
    have HZ := Lib.hid hz1
    clear hz1
    by_cases hlt : ((512 * k : Nat) : Int) < z
    · obtain ⟨m, hm⟩ : ∃ m, m = 512 * k := ⟨_, rfl⟩
      have hk2 := round_next hlt hz
      rw [← hm] at hlt ⊢
      have w1 : wrap64 ((m : Int) + 512) = ((512 * (k + 1) : Nat) : Int) := by rw [wrap64]; omega
      have HM := Lib.hid hm
      have HK := Lib.hid (show k + 1 ≤ 196 ∧ ((512 * (k + 1) : Nat) : Int) - 512 < z by omega)
      have HME := Lib.hid (show (200 * 512 - ((512 * (k + 1) : Nat) : Int)).toNat < (200 * 512 - (m : Int)).toNat by omega)
      clear hm hk2 hz
      go_wp2
      refine ⟨⟨trivial, k + 1, HK.out.1, by rw [w1], .inr HK.out.2⟩, ?_⟩
      rw [w1]; exact HME.out
    · have HR := Lib.hid (show roundZ z = ((512 * k : Nat) : Int) by
        unfold roundZ
        by_cases h0 : k = 0
        · subst h0; rw [if_pos (by omega)]; rfl
        · have h := HZ.out.resolve_left h0
          rw [if_neg (by omega)]; omega)
      go_wp2
      go_ret
      exact ⟨by rw [HR.out, Int.natCast_mul]; rfl, rfl⟩
end Go.Proofs.YtbjekhhefepnlaaDoor
