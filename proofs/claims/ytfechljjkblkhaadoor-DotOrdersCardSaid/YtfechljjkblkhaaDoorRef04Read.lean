/-
What the document's own Read returns: the number of a text, up to a bound.
-/
import Derived.Test.YtfechljjkblkhaaDoorRef04Num
namespace Go.Proofs.YtfechljjkblkhaaDoor
open Go.RowKit
theorem read_bad {s : List UInt8} (h : isNum s = false) (most : Int) : readN s most = 0 ∧ readErr s most = 2 := by simp [readN, readErr, h]
theorem read_over {s : List UInt8} {most : Int} (h : isNum s = true) (hm : most < valN s) : readN s most = 0 ∧ readErr s most = 8 := by simp [readN, readErr, h, hm]
theorem read_good {s : List UInt8} {most : Int} (h : isNum s = true) (hm : ¬ most < valN s) : readN s most = valN s ∧ readErr s most = 0 := by simp [readN, readErr, h, hm]
/-- A number's text begins with no hyphen. -/
theorem num_isNum (s : List UInt8) (hl : 0 < s.length) (h19 : s.length ≤ 19) (hd : ∀ c ∈ s, isDig c = true) (x : Int) (hx : x = IntKind.i64.wrap (valN s)) :
    (numL x == s) = isNum s ∧ (isNum s = true → x = valN s) := by
  have hv := valN_lt s hd
  have h10 : 10 ^ s.length ≤ 10 ^ 19 := Nat.pow_le_pow_right (by decide) h19
  have he : s.isEmpty = false := by cases s with | nil => simp at hl | cons a l => rfl
  have hall : s.all isDig = true := List.all_eq_true.2 hd
  rw [IntKind.wrap_i64] at hx
  by_cases hm : valN s < 9223372036854775808
  · have hx' : x = valN s := by omega
    subst hx'
    exact ⟨by simp [isNum, he, h19, hall, hm, numL_nonneg], fun _ => rfl⟩
  · have hneg : x < 0 := by
      have : (10 : Nat) ^ 19 = 10000000000000000000 := by decide
      omega
    have hn : isNum s = false := by simp [isNum, hm]
    refine ⟨?_, fun h => by rw [hn] at h; cases h⟩
    rw [hn]
    have : numL x = 45 :: digs x.natAbs := by unfold numL; rw [if_pos hneg]
    rw [this]
    cases s with
    | nil => rfl
    | cons a l =>
      have ha := hd a (by simp)
      have : (45 : UInt8) ≠ a := fun h => by rw [← h] at ha; exact absurd ha (by decide)
      simp [this]
theorem wrap_val (s : List UInt8) (k : Nat) (c : UInt8) (hc : s[k]? = some c) (hd : ∀ j, j < k → ∀ c, s[j]? = some c → isDig c = true) (h18 : k ≤ 18) :
    ∃ v : Nat, v = valN (s.take k) ∧ v < 1000000000000000000 ∧ IntKind.i64.wrap (valN (s.take k)) = (v : Int) ∧ valN (s.take (k + 1)) = 10 * v + (c.toNat - 48) := by
  have hk : k < s.length := (List.getElem?_eq_some_iff.1 hc).1
  have hl : (s.take k).length = k := by rw [List.length_take]; omega
  have hv := valN_lt (s.take k) (fun c hc' => by
    obtain ⟨j, hj, rfl⟩ := List.mem_iff_getElem.1 hc'
    rw [hl] at hj
    exact hd j hj _ (by simp [List.getElem_take, show j < s.length from by omega]))
  rw [hl] at hv
  have h10 : 10 ^ k ≤ 10 ^ 18 := Nat.pow_le_pow_right (by decide) h18
  have h18' : (10 : Nat) ^ 18 = 1000000000000000000 := by decide
  refine ⟨_, rfl, by omega, by rw [IntKind.wrap_i64]; omega, ?_⟩
  obtain ⟨_, rfl⟩ := List.getElem?_eq_some_iff.1 hc
  rw [List.take_succ_eq_append_getElem hk, valN_snoc]
theorem wrap_two (v d : Nat) : IntKind.i64.wrap (IntKind.i64.wrap (10 * (v : Int)) + (d : Int)) = IntKind.i64.wrap ((10 * v + d : Nat) : Int) := by
  rw [IntKind.wrap_i64, IntKind.wrap_i64, IntKind.wrap_i64]
  generalize (18446744073709551616 : Int) = M
  generalize (9223372036854775808 : Int) = H
  rw [show (10 * (v : Int) + H) % M - H + (d : Int) + H = (10 * (v : Int) + H) % M + (d : Int) from by omega, Int.emod_add_emod]
  congr 2
  omega
set_option maxHeartbeats 4000000 in
theorem refRead_any (s : List UInt8) (most : Int) (hs : s.length < 9223372036854775808) (w : World) : Calls Tryd.prog 26 #[.string (str s), .int .i64 most] w fun e w' => e = .returned (.tuple #[.int .i64 (readN s most), .int .i64 (readErr s most)]) ∧ Below w.heap.size w w' := by
  have hsz : (str s).size = s.length := str_size s
  by_cases h0 : s.length = 0
  · obtain ⟨h1, h2⟩ := read_bad (s := s) (by obtain rfl := List.eq_nil_of_length_eq_zero h0; rfl) most
    have HP := Lib.hid (And.intro h1 h2)
    clear h1 h2 hs
    go_enter Tryd.func26, Tryd.ntmps26
    go_wp2_with fail
    go_ret2
    exact ⟨by rw [HP.out.1, HP.out.2]; rfl, Below.refl _ _⟩
  have hne : ((s.length : Int) == 0) = false := by
    rw [beq_eq_false_iff_ne]; omega
  by_cases h19 : 19 < s.length
  · obtain ⟨h1, h2⟩ := read_bad (s := s) (by simp [isNum]; omega) most
    have HP := Lib.hid (And.intro h1 h2)
    have hd : decide (19 < (s.length : Int)) = true := decide_eq_true (by omega)
    clear h1 h2 hs
    go_enter Tryd.func26, Tryd.ntmps26
    go_wp2_with fail
    go_ret2
    exact ⟨by rw [HP.out.1, HP.out.2]; rfl, Below.refl _ _⟩
  have hd19 : decide (19 < (s.length : Int)) = false := decide_eq_false (by omega)
  clear hs
  go_enter Tryd.func26, Tryd.ntmps26
  go_wp2_with fail
  go_loopw [6, 7] (fun x c wr => wr = w ∧ ∃ k : Nat, k ≤ s.length ∧ c = .int .i64 k ∧ x = .int .i64 (IntKind.i64.wrap (valN (s.take k))) ∧ ∀ j, j < k → ∀ c, s[j]? = some c → isDig c = true) (fun _ c _ => s.length - (intOf c).toNat)
  case atStart => exact ⟨rfl, 0, by omega, rfl, by rw [List.take_zero, valN_nil]; rfl, fun j hj => by omega⟩
  case round =>
    obtain ⟨rfl, k, hk, rfl, rfl, hall⟩ := hrel
    have HA := Lib.hid hall
    by_cases hlt : k < s.length
    · obtain ⟨c, hc⟩ : ∃ c, s[k]? = some c := ⟨s[k], List.getElem?_eq_getElem hlt⟩
      obtain ⟨v, hv, hv18, hw1, hv2⟩ := wrap_val s k c hc hall (by omega)
      have i1 := fun w => index_str (P := Tryd.prog) w s .i64 k c hc Tryd.underlying9
      obtain ⟨cn, hcn⟩ : ∃ cn, c.toNat = cn := ⟨_, rfl⟩
      rw [hcn] at i1 hv2
      rw [hw1]
      have HV := Lib.hid (And.intro hc (And.intro hv2 hcn))
      have q0 : (k : Int) < (s.length : Int) := by omega
      by_cases hdg : isDig c = true
      · have hdg' := hdg
        simp only [isDig, hcn, Bool.and_eq_true, decide_eq_true_eq] at hdg'
        have b1 : decide ((cn : Int) < 48) = false := decide_eq_false (by omega)
        have b2 : decide (57 < (cn : Int)) = false := decide_eq_false (by omega)
        obtain ⟨d, hd⟩ : ∃ d : Nat, d = cn - 48 := ⟨_, rfl⟩
        have e1 : (cn : Int) - 48 = (d : Int) := by omega
        have e2 : IntKind.u8.wrap (d : Int) = (d : Int) := by rw [IntKind.wrap_u8]; omega
        have e3 : IntKind.i64.wrap (d : Int) = (d : Int) := by rw [IntKind.wrap_i64]; omega
        obtain ⟨y1, hy1⟩ : ∃ y1, IntKind.i64.wrap (10 * (v : Int)) = y1 := ⟨_, rfl⟩
        obtain ⟨y2, hy2⟩ : ∃ y2, IntKind.i64.wrap (y1 + (d : Int)) = y2 := ⟨_, rfl⟩
        have HY := Lib.hid (show y2 = IntKind.i64.wrap (valN (s.take (k + 1))) by
          rw [hv2, ← hd, ← hy2, ← hy1]; exact wrap_two v d)
        have HDG := Lib.hid hdg
        clear hall hc hv hw1 hv2 hcn hdg hdg' hv18 hd
        go_wp2_with fail
        obtain ⟨hc, hv2, hcn⟩ := HV.out
        refine ⟨⟨trivial, k + 1, by omega, by go_num, by rw [HY.out], fun j hj c' hc' => ?_⟩, by simp [intOf]; omega⟩
        rcases Nat.lt_or_ge j k with h | h
        · exact HA.out j h c' hc'
        · obtain rfl : j = k := by omega
          rw [hc] at hc'; cases hc'; exact HDG.out
      · have hbad : isNum s = false := by
          cases h : isNum s with
          | false => rfl
          | true =>
            simp only [isNum, Bool.and_eq_true, List.all_eq_true] at h
            exact absurd (h.2.1 c (List.mem_of_getElem? hc)) hdg
        obtain ⟨h1, h2⟩ := read_bad hbad most
        have HP := Lib.hid (And.intro h1 h2)
        clear h1 h2 hbad
        have hdg' : cn < 48 ∨ 57 < cn := by
          simp only [isDig, hcn, Bool.and_eq_true, decide_eq_true_eq] at hdg; omega
        clear hall hc hv hw1 hv2 hcn hdg hv18
        rcases hdg' with h | h
        · have b1 : decide ((cn : Int) < 48) = true := decide_eq_true (by omega)
          clear h
          go_wp2_with fail
          go_ret2
          exact ⟨by rw [HP.out.1, HP.out.2]; rfl, Below.refl _ _⟩
        · have b1 : decide ((cn : Int) < 48) = false := decide_eq_false (by omega)
          have b2 : decide (57 < (cn : Int)) = true := decide_eq_true (by omega)
          clear h
          go_wp2_with fail
          go_ret2
          exact ⟨by rw [HP.out.1, HP.out.2]; rfl, Below.refl _ _⟩
    · obtain rfl : k = s.length := by omega
      have hd : ∀ c ∈ s, isDig c = true := fun c hc => by
        obtain ⟨j, hj, rfl⟩ := List.mem_iff_getElem.1 hc
        exact hall j hj _ (List.getElem?_eq_getElem hj)
      rw [List.take_length]
      obtain ⟨x, hx⟩ : ∃ x, x = IntKind.i64.wrap (valN s) := ⟨_, rfl⟩
      obtain ⟨n1, n2⟩ := num_isNum s (by omega) (by omega) hd x hx
      have hxb : -9223372036854775808 ≤ x ∧ x < 9223372036854775808 := by rw [hx, IntKind.wrap_i64]; omega
      have HN := Lib.hid (refNumber_any x hxb.1 hxb.2)
      rw [← hx]
      have hq : decide ((s.length : Int) < (s.length : Int)) = false := decide_eq_false (by omega)
      have hb : ((str (numL x)).toList == (str s).toList) = isNum s := by rw [str_toList, str_toList]; exact n1
      have N2 := Lib.hid n2
      clear hall hd hx n1 n2 hxb HA
      cases hnum : isNum s with
      | false =>
        rw [hnum] at hb
        obtain ⟨h1, h2⟩ := read_bad hnum most
        have HP := Lib.hid (And.intro h1 h2)
        clear h1 h2 hnum
        go_wp2_with (first | (go_at_call 28; refine (HN.out _).mono ?_; rintro e w1 ⟨rfl, hb1⟩))
        go_ret2
        exact ⟨by rw [HP.out.1, HP.out.2]; rfl, hb1⟩
      | true =>
        rw [hnum] at hb
        have hxv := N2.out hnum
        by_cases hmo : most < x
        · obtain ⟨h1, h2⟩ := read_over hnum (show most < (valN s : Int) from hxv ▸ hmo)
          have HP := Lib.hid (And.intro h1 h2)
          have hd : decide (most < x) = true := decide_eq_true hmo
          clear h1 h2 hnum hxv hmo
          go_wp2_with (first | (go_at_call 28; refine (HN.out _).mono ?_; rintro e w1 ⟨rfl, hb1⟩))
          go_ret2
          exact ⟨by rw [HP.out.1, HP.out.2]; rfl, hb1⟩
        · obtain ⟨h1, h2⟩ := read_good hnum (show ¬ most < (valN s : Int) from hxv ▸ hmo)
          rw [← hxv] at h1
          have HP := Lib.hid (And.intro h1 h2)
          have hd : decide (most < x) = false := decide_eq_false hmo
          clear h1 h2 hnum hxv hmo
          go_wp2_with (first | (go_at_call 28; refine (HN.out _).mono ?_; rintro e w1 ⟨rfl, hb1⟩))
          go_ret2
          exact ⟨by rw [HP.out.1, HP.out.2]; rfl, hb1⟩
end Go.Proofs.YtfechljjkblkhaaDoor
