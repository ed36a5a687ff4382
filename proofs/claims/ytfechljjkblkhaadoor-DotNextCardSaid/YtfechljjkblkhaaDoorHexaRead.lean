/-
What hexa.Read answers, walked over the landed code; what is no number is left by goto: what holds at the jump is laid ahead of the scope.
-/
import Derived.Test.YtfechljjkblkhaaDoorHexaCode
import Derived.WalkMore
import Derived.ScopeJumps
namespace Go.Proofs.YtfechljjkblkhaaDoor
open Go.RowKit
theorem worth_dig {c : UInt8} (h : isDig c = true) : worthI c = c.toNat - 48 ∧ worthI c ≤ 9 := by
  simp only [isDig, Bool.and_eq_true, decide_eq_true_eq] at h
  have : worthI c = c.toNat - 48 := by unfold worthI fig; rw [if_pos h]
  omega
theorem worth_nodig {c : UInt8} (h : ¬ isDig c = true) : 9 < worthI c := by
  simp only [isDig, Bool.and_eq_true, decide_eq_true_eq] at h
  unfold worthI fig
  rw [if_neg h]
  by_cases h2 : 97 ≤ c.toNat ∧ c.toNat ≤ 102
  · rw [if_pos h2]; show 9 < c.toNat - 87; omega
  · rw [if_neg h2]; decide
theorem val_next (s : List UInt8) (k : Nat) (c : UInt8) (hc : s[k]? = some c) : valN (s.take (k + 1)) = 10 * valN (s.take k) + (c.toNat - 48) := by
  obtain ⟨hk, rfl⟩ := List.getElem?_eq_some_iff.1 hc
  rw [List.take_succ_eq_append_getElem hk, valN_snoc]
theorem val_take_le (s : List UInt8) (k m : Nat) (h : k ≤ m) : valN (s.take k) ≤ valN (s.take m) := by
  induction m with
  | zero => obtain rfl : k = 0 := by omega
            exact Nat.le_refl _
  | succ m ih =>
    rcases Nat.lt_or_ge k (m + 1) with h' | h'
    · have h1 := ih (by omega)
      rcases Nat.lt_or_ge m s.length with hm | hm
      · have := val_next s m s[m] (List.getElem?_eq_getElem hm); omega
      · rw [List.take_of_length_le (show s.length ≤ m + 1 by omega)]
        rwa [List.take_of_length_le hm] at h1
    · obtain rfl : k = m + 1 := by omega
      exact Nat.le_refl _
theorem num_over (s : List UInt8) (k : Nat) (c : UInt8) (hc : s[k]? = some c) (h : 9223372036854775808 ≤ 10 * valN (s.take k) + (c.toNat - 48)) : isNum s = false := by
  have h1 := val_next s k c hc
  have hk := (List.getElem?_eq_some_iff.1 hc).1
  have h2 := val_take_le s (k + 1) s.length (by omega)
  rw [List.take_length] at h2
  cases hn : isNum s with
  | false => rfl
  | true => have := (isNum_val hn).1; omega
theorem num_nodig (s : List UInt8) (c : UInt8) (hc : c ∈ s) (h : ¬ isDig c = true) : isNum s = false := by
  cases hn : isNum s with
  | false => rfl
  | true =>
    simp only [isNum, Bool.and_eq_true, List.all_eq_true] at hn
    exact absurd (hn.2.1 c hc) h
theorem digs_first (m : Nat) (h : (digs m)[0]? = some 48) : m = 0 := by
  induction m using Nat.strongRecOn with
  | _ m ih =>
    by_cases h10 : m < 10
    · rw [digs_lo m h10] at h
      have h1 : UInt8.ofNat (48 + m) = 48 := by simpa using h
      have h2 := dig_toNat m h10
      rw [h1, show (48 : UInt8).toNat = 48 from rfl] at h2
      omega
    · rw [digs_hi m (by omega), List.getElem?_append_left (digs_pos _)] at h
      have := ih (m / 10) (by omega) h
      omega
theorem num_lead (s : List UInt8) (h : s[0]? = some 48) (hs : s ≠ [48]) : isNum s = false := by
  cases hn : isNum s with
  | false => rfl
  | true =>
    have h1 := (isNum_val hn).2
    rw [← h1] at h
    have h2 := digs_first _ h
    rw [h2, digs_lo 0 (by omega)] at h1
    exact absurd h1.symm hs
theorem digs_val (n : Nat) : ∀ s : List UInt8, s.length = n → s ≠ [] → (∀ c ∈ s, isDig c = true) → (s[0]? = some 48 → s = [48]) → digs (valN s) = s := by
  induction n with
  | zero => intro s hl hne; exact absurd (List.eq_nil_of_length_eq_zero hl) hne
  | succ n ih =>
    intro s hl hne hd h0
    rcases List.eq_nil_or_concat s with rfl | ⟨t, c, rfl⟩
    · exact absurd rfl hne
    · rw [List.concat_eq_append] at *
      have hc := hd c (by simp)
      simp only [isDig, Bool.and_eq_true, decide_eq_true_eq] at hc
      have hcc : UInt8.ofNat (48 + (c.toNat - 48)) = c := by
        apply UInt8.toNat_inj.1
        rw [dig_toNat _ (by omega)]; omega
      rw [valN_snoc]
      by_cases ht : t = []
      · subst ht
        rw [valN_nil, digs_lo _ (by omega)]
        simp [hcc]
      · have ht0 : 0 < t.length := List.length_pos_iff.2 ht
        have hlt : t.length = n := by simpa using hl
        have hf : t[0]? ≠ some 48 := fun h => by
          have := h0 (by rw [List.getElem?_append_left ht0]; exact h)
          have := congrArg List.length this
          exact ht (by simpa using this)
        have h1 := ih t hlt ht (fun c hc => hd c (by simp [hc])) (fun h => absurd h hf)
        have hpos : 0 < valN t := by
          rcases Nat.eq_zero_or_pos (valN t) with h | h
          · rw [h, digs_lo 0 (by omega)] at h1
            rw [← h1] at hf
            exact absurd rfl hf
          · exact h
        rw [digs_hi _ (by omega), show (10 * valN t + (c.toNat - 48)) / 10 = valN t from by omega, show (10 * valN t + (c.toNat - 48)) % 10 = c.toNat - 48 from by omega, h1, hcc]
theorem num_good (s : List UInt8) (hne : s ≠ []) (hd : ∀ c ∈ s, isDig c = true) (h0 : s[0]? = some 48 → s = [48]) (hv : valN s < 9223372036854775808) : isNum s = true := by
  have h1 := digs_val s.length s rfl hne hd h0
  have h2 := digs_length 19 (valN s) (by omega) (by omega)
  rw [h1] at h2
  have he : s.isEmpty = false := by cases s with | nil => exact absurd rfl hne | cons a l => rfl
  have hall : s.all isDig = true := List.all_eq_true.2 hd
  simp [isNum, he, h2, hall, hv, h1]
theorem wrap_nat (p : Nat) (h : p < 9223372036854775808) : IntKind.i64.wrap (p : Int) = (p : Int) := by rw [IntKind.wrap_i64]; omega
theorem next_i64 (k : Nat) (h : k + 1 < 9223372036854775808) : wrap64 ((k : Int) + 1) = ((k + 1 : Nat) : Int) := by rw [wrap64]; omega
theorem read_step (v g : Nat) (hg : g ≤ 9) : ∃ M D : Int, (9223372036854775807 : Int) - (g : Int) = M ∧ IntKind.i64.wrap M = M ∧ M / (10 : Int) = D ∧ IntKind.i64.wrap D = D ∧ M.tdiv 10 = D ∧
    (D < (v : Int) → 9223372036854775808 ≤ 10 * v + g) ∧ (¬ D < (v : Int) → 10 * v + g < 9223372036854775808) := by
  refine ⟨_, _, rfl, by rw [IntKind.wrap_i64]; omega, rfl, by rw [IntKind.wrap_i64]; omega, Int.tdiv_eq_ediv_of_nonneg (by omega), fun h => by omega, fun h => by omega⟩
/-- What holds where a text that is no number's is left. -/
def LeftRead (s : List UInt8) (w : World) : Act → World → Prop := fun a' w' => (∃ u0' u1' u2' u3' u4' u5' u6' u7' u8' u9' u10' u11' u12' u13' u14' u15' u16' u17' u18' u19' u20' u21' u22' u23' u24' u25' u26' u27' u28' u29' u30' u31' u32' u33' u34' u35' u36' u37' u38' u39' u40' u41' u42' u43' u44' u45' u46' : Value, a' = { tmps := #[u0', u1', u2', u3', u4', u5', u6', u7', u8', u9', u10', u11', u12', u13', u14', u15', u16', u17', u18', u19', u20', u21', u22', u23', u24', u25', u26', u27', u28', u29', u30', u31', u32', u33', u34', u35', u36', u37', u38', u39', u40', u41', u42', u43', u44', u45', u46'], defers := [] }) ∧ isNum s = false ∧ w' = w
set_option maxHeartbeats 8000000 in
theorem read_any (w : World) (s : List UInt8) (most : Int) (hs : s.length < 9223372036854775808) : Calls Tryd.prog 25 #[.string (str s), .int .i64 most] w fun e w' => e = .returned (.tuple #[.int .i64 (readN s most), .int .i64 (readErr s most)]) ∧ Below w.heap.size w w' := by
  obtain ⟨n, hn⟩ : ∃ n, n = s.length := ⟨_, rfl⟩
  have HN := Lib.hid hn
  have hsz : (str s).size = n := by rw [str_size, hn]
  have hl : (str s).toList = s := str_toList s
  have HS := Lib.hid hs
  clear hn hs
  go_enter Tryd.func25, Tryd.ntmps25
  go_wp2
  refine wp_scope_jumps 0 (LeftRead s w) (fun _ _ => 0) rfl ?_ ?_
  · by_cases he : s = []
    · subst he
      go_wp2
      go_step3
      exact ⟨rfl, ⟨_, _, _, _, _, _, _, _, _, _, _, _, _, _, _, _, _, _, _, _, _, _, _, _, _, _, _, _, _, _, _, _, _, _, _, _, _, _, _, _, _, _, _, _, _, _, _, rfl⟩, rfl, rfl⟩
    · obtain ⟨c0, hc0⟩ : ∃ c, s[0]? = some c := by cases s with | nil => exact absurd rfl he | cons a l => exact ⟨a, rfl⟩
      obtain ⟨x, hx⟩ : ∃ x, c0.toNat = x := ⟨_, rfl⟩
      have i0 : ∀ w, (Instr.index 9 (.string (str s)) (.int .i64 0)).run Tryd.prog w = .ok (.int .u8 (x : Int)) w := fun w => by rw [← hx]; exact index_str (P := Tryd.prog) w s .i64 0 c0 hc0 Tryd.underlying9
      have te : (s == []) = false := by rw [beq_eq_false_iff_ne]; exact he
      have HX := Lib.hid (And.intro hx hc0)
      have HE := Lib.hid he
      clear hx hc0 he
      by_cases h48 : x = 48
      · have hc48 : s[0]? = some 48 := by
          rw [HX.out.2]; congr 1; exact UInt8.toNat_inj.1 (by rw [HX.out.1, h48]; rfl)
        replace i0 : ∀ w, (Instr.index 9 (.string (str s)) (.int .i64 0)).run Tryd.prog w = .ok (.int .u8 48) w := fun w => by have := i0 w; rwa [h48] at this
        clear HX h48
        by_cases hs48 : s = [48]
        · have HL := Lib.hid (show s[0]? = some 48 → s = [48] from fun _ => hs48)
          have tb : (s == [48]) = true := by rw [beq_iff_eq]; exact hs48
          clear hs48 hc48
          go_wp2
          clear tb te i0
          go_loopw [6, 22] (fun x c wr => wr = w ∧ ∃ k : Nat, k ≤ n ∧ c = .int .i64 k ∧ (∃ v : Nat, v = valN (s.take k) ∧ v < 9223372036854775808 ∧ x = .int .i64 v) ∧ ∀ j, j < k → ∀ c, s[j]? = some c → isDig c = true) (fun _ c _ => n - (intOf c).toNat)
          case atStart => exact ⟨rfl, 0, by omega, rfl, ⟨0, by rw [List.take_zero, valN_nil], by omega, rfl⟩, fun j hj => by omega⟩
          case round =>
            obtain ⟨rfl, k, hk, rfl, ⟨v, hv, hv63, rfl⟩, hall⟩ := hrel
            have HA := Lib.hid hall
            have HV := Lib.hid (And.intro hv hv63)
            clear hall hv hv63
            by_cases hlt : k < n
            · obtain ⟨c, hc⟩ : ∃ c, s[k]? = some c := ⟨s[k]'(by have := HN.out; omega), List.getElem?_eq_getElem _⟩
              have i1 := fun w => index_str (P := Tryd.prog) w s .i64 k c hc Tryd.underlying9
              have HC := Lib.hid hc
              have q0 : (k : Int) < (n : Int) := by omega
              have w64 := next_i64 k (by have := HS.out; have := HN.out; omega)
              obtain ⟨g, hg⟩ : ∃ g, worthI c = g := ⟨_, rfl⟩
              have HW := Lib.hid (show ∀ w, Calls Tryd.prog 31 #[.int .u8 (c.toNat : Int)] w fun e w' => e = .returned (.int .u8 (g : Int)) ∧ w = w' from fun w => by have := worth_any c w; rwa [hg] at this)
              have HG := Lib.hid hg
              clear hc hg
              by_cases hdg : isDig c = true
              · have hw9 := worth_dig hdg
                rw [HG.out] at hw9
                have hg9 : g ≤ 9 := hw9.2
                have t1 : decide ((9 : Int) < (g : Int)) = false := decide_eq_false (by omega)
                have e1 := wrap_nat g (by omega)
                obtain ⟨M, D, hM, e2, hD, e3, e3', hlow, hhigh⟩ := read_step v g hg9
                have HDG := Lib.hid hdg
                by_cases hov : D < (v : Int)
                · have t2 : decide (D < (v : Int)) = true := decide_eq_true hov
                  have HBAD := Lib.hid (show isNum s = false from num_over s k c HC.out (by rw [← HV.out.1, ← hw9.1]; exact hlow hov))
                  clear hov hg9 hw9 hdg hlow hhigh
                  go_wp2_with (first | (go_at_call 31; refine (HW.out _).mono ?_; rintro e w' ⟨rfl, rfl⟩))
                  go_step3
                  exact ⟨rfl, ⟨_, _, _, _, _, _, _, _, _, _, _, _, _, _, _, _, _, _, _, _, _, _, _, _, _, _, _, _, _, _, _, _, _, _, _, _, _, _, _, _, _, _, _, _, _, _, _, rfl⟩, HBAD.out, rfl⟩
                · have t2 : decide (D < (v : Int)) = false := decide_eq_false hov
                  obtain ⟨p, hp⟩ : ∃ p : Nat, p = 10 * v := ⟨_, rfl⟩
                  obtain ⟨q, hq⟩ : ∃ q : Nat, q = p + g := ⟨_, rfl⟩
                  have f1 : (10 : Int) * (v : Int) = (p : Int) := by omega
                  have hpq := hhigh hov
                  have f2 := wrap_nat p (by omega)
                  have f3 : (p : Int) + (g : Int) = (q : Int) := by omega
                  have f4 := wrap_nat q (by omega)
                  have HQ := Lib.hid (show q = valN (s.take (k + 1)) ∧ q < 9223372036854775808 from ⟨by rw [val_next s k c HC.out, ← HV.out.1, ← hw9.1, hq, hp], by omega⟩)
                  clear hov hg9 hw9 hdg hp hq hlow hhigh hpq
                  go_wp2_with (first | (go_at_call 31; refine (HW.out _).mono ?_; rintro e w' ⟨rfl, rfl⟩))
                  clear hM e2 hD e3 e3' f1 f2 f3 f4 e1 t1 t2
                  refine ⟨⟨trivial, k + 1, by omega, by go_num, ⟨q, HQ.out.1, HQ.out.2, rfl⟩, fun j hj c' hc' => ?_⟩, by rw [w64]; show n - ((k + 1 : Nat) : Int).toNat < n - (k : Int).toNat; rw [Int.toNat_natCast, Int.toNat_natCast]; omega⟩
                  rcases Nat.lt_or_ge j k with h | h
                  · exact HA.out j h c' hc'
                  · obtain rfl : j = k := by omega
                    rw [HC.out] at hc'; cases hc'; exact HDG.out
              · have hw9 := worth_nodig hdg
                rw [HG.out] at hw9
                have t1 : decide ((9 : Int) < (g : Int)) = true := decide_eq_true (by omega)
                have HBAD := Lib.hid (show isNum s = false from num_nodig s c (List.mem_of_getElem? HC.out) hdg)
                clear hw9 hdg
                go_wp2_with (first | (go_at_call 31; refine (HW.out _).mono ?_; rintro e w' ⟨rfl, rfl⟩))
                go_step3
                exact ⟨rfl, ⟨_, _, _, _, _, _, _, _, _, _, _, _, _, _, _, _, _, _, _, _, _, _, _, _, _, _, _, _, _, _, _, _, _, _, _, _, _, _, _, _, _, _, _, _, _, _, _, rfl⟩, HBAD.out, rfl⟩
            · obtain rfl : k = n := by omega
              have hq : decide ((k : Int) < (k : Int)) = false := decide_eq_false (by omega)
              have hnum : isNum s = true ∧ v = valN s := by
                have hv := HV.out.1
                rw [HN.out, List.take_length] at hv
                exact ⟨num_good s HE.out (fun c hc => by
                  obtain ⟨j, hj, rfl⟩ := List.mem_iff_getElem.1 hc
                  exact HA.out j (by rw [HN.out]; exact hj) _ (List.getElem?_eq_getElem hj)) HL.out (by rw [← hv]; exact HV.out.2), hv⟩
              by_cases hmo : most < (v : Int)
              · obtain ⟨h1, h2⟩ := read_over hnum.1 (show most < (valN s : Int) from hnum.2 ▸ hmo)
                have HP := Lib.hid (And.intro h1 h2)
                have t2 : decide (most < (v : Int)) = true := decide_eq_true hmo
                clear h1 h2 hnum hmo
                go_wp2
                simp only [Exit.jump]
                go_ret2
                exact ⟨by rw [HP.out.1, HP.out.2]; try rfl, Below.refl _ _⟩
              · obtain ⟨h1, h2⟩ := read_good hnum.1 (show ¬ most < (valN s : Int) from hnum.2 ▸ hmo)
                rw [← hnum.2] at h1
                have HP := Lib.hid (And.intro h1 h2)
                have t2 : decide (most < (v : Int)) = false := decide_eq_false hmo
                clear h1 h2 hnum hmo
                go_wp2
                simp only [Exit.jump]
                go_ret2
                exact ⟨by rw [HP.out.1, HP.out.2]; try rfl, Below.refl _ _⟩
        · have HBAD := Lib.hid (num_lead s hc48 hs48)
          have tb : (s == [48]) = false := by rw [beq_eq_false_iff_ne]; exact hs48
          clear hs48 hc48
          go_wp2
          go_step3
          exact ⟨rfl, ⟨_, _, _, _, _, _, _, _, _, _, _, _, _, _, _, _, _, _, _, _, _, _, _, _, _, _, _, _, _, _, _, _, _, _, _, _, _, _, _, _, _, _, _, _, _, _, _, rfl⟩, HBAD.out, rfl⟩
      · have tb : ((x : Int) == 48) = false := by rw [beq_eq_false_iff_ne]; omega
        have HL := Lib.hid (show s[0]? = some 48 → s = [48] from fun h => by
          rw [HX.out.2] at h; have h1 := HX.out.1; cases h; exact absurd h1.symm h48)
        clear HX h48
        go_wp2
        clear tb te i0
        go_loopw [6, 22] (fun x c wr => wr = w ∧ ∃ k : Nat, k ≤ n ∧ c = .int .i64 k ∧ (∃ v : Nat, v = valN (s.take k) ∧ v < 9223372036854775808 ∧ x = .int .i64 v) ∧ ∀ j, j < k → ∀ c, s[j]? = some c → isDig c = true) (fun _ c _ => n - (intOf c).toNat)
        case atStart => exact ⟨rfl, 0, by omega, rfl, ⟨0, by rw [List.take_zero, valN_nil], by omega, rfl⟩, fun j hj => by omega⟩
        case round =>
          obtain ⟨rfl, k, hk, rfl, ⟨v, hv, hv63, rfl⟩, hall⟩ := hrel
          have HA := Lib.hid hall
          have HV := Lib.hid (And.intro hv hv63)
          clear hall hv hv63
          by_cases hlt : k < n
          · obtain ⟨c, hc⟩ : ∃ c, s[k]? = some c := ⟨s[k]'(by have := HN.out; omega), List.getElem?_eq_getElem _⟩
            have i1 := fun w => index_str (P := Tryd.prog) w s .i64 k c hc Tryd.underlying9
            have HC := Lib.hid hc
            have q0 : (k : Int) < (n : Int) := by omega
            have w64 := next_i64 k (by have := HS.out; have := HN.out; omega)
            obtain ⟨g, hg⟩ : ∃ g, worthI c = g := ⟨_, rfl⟩
            have HW := Lib.hid (show ∀ w, Calls Tryd.prog 31 #[.int .u8 (c.toNat : Int)] w fun e w' => e = .returned (.int .u8 (g : Int)) ∧ w = w' from fun w => by have := worth_any c w; rwa [hg] at this)
            have HG := Lib.hid hg
            clear hc hg
            by_cases hdg : isDig c = true
            · have hw9 := worth_dig hdg
              rw [HG.out] at hw9
              have hg9 : g ≤ 9 := hw9.2
              have t1 : decide ((9 : Int) < (g : Int)) = false := decide_eq_false (by omega)
              have e1 := wrap_nat g (by omega)
              obtain ⟨M, D, hM, e2, hD, e3, e3', hlow, hhigh⟩ := read_step v g hg9
              have HDG := Lib.hid hdg
              by_cases hov : D < (v : Int)
              · have t2 : decide (D < (v : Int)) = true := decide_eq_true hov
                have HBAD := Lib.hid (show isNum s = false from num_over s k c HC.out (by rw [← HV.out.1, ← hw9.1]; exact hlow hov))
                clear hov hg9 hw9 hdg hlow hhigh
                go_wp2_with (first | (go_at_call 31; refine (HW.out _).mono ?_; rintro e w' ⟨rfl, rfl⟩))
                go_step3
                exact ⟨rfl, ⟨_, _, _, _, _, _, _, _, _, _, _, _, _, _, _, _, _, _, _, _, _, _, _, _, _, _, _, _, _, _, _, _, _, _, _, _, _, _, _, _, _, _, _, _, _, _, _, rfl⟩, HBAD.out, rfl⟩
              · have t2 : decide (D < (v : Int)) = false := decide_eq_false hov
                obtain ⟨p, hp⟩ : ∃ p : Nat, p = 10 * v := ⟨_, rfl⟩
                obtain ⟨q, hq⟩ : ∃ q : Nat, q = p + g := ⟨_, rfl⟩
                have f1 : (10 : Int) * (v : Int) = (p : Int) := by omega
                have hpq := hhigh hov
                have f2 := wrap_nat p (by omega)
                have f3 : (p : Int) + (g : Int) = (q : Int) := by omega
                have f4 := wrap_nat q (by omega)
                have HQ := Lib.hid (show q = valN (s.take (k + 1)) ∧ q < 9223372036854775808 from ⟨by rw [val_next s k c HC.out, ← HV.out.1, ← hw9.1, hq, hp], by omega⟩)
                clear hov hg9 hw9 hdg hp hq hlow hhigh hpq
                go_wp2_with (first | (go_at_call 31; refine (HW.out _).mono ?_; rintro e w' ⟨rfl, rfl⟩))
                clear hM e2 hD e3 e3' f1 f2 f3 f4 e1 t1 t2
                refine ⟨⟨trivial, k + 1, by omega, by go_num, ⟨q, HQ.out.1, HQ.out.2, rfl⟩, fun j hj c' hc' => ?_⟩, by rw [w64]; show n - ((k + 1 : Nat) : Int).toNat < n - (k : Int).toNat; rw [Int.toNat_natCast, Int.toNat_natCast]; omega⟩
                rcases Nat.lt_or_ge j k with h | h
                · exact HA.out j h c' hc'
                · obtain rfl : j = k := by omega
                  rw [HC.out] at hc'; cases hc'; exact HDG.out
            · have hw9 := worth_nodig hdg
              rw [HG.out] at hw9
              have t1 : decide ((9 : Int) < (g : Int)) = true := decide_eq_true (by omega)
              have HBAD := Lib.hid (show isNum s = false from num_nodig s c (List.mem_of_getElem? HC.out) hdg)
              clear hw9 hdg
              go_wp2_with (first | (go_at_call 31; refine (HW.out _).mono ?_; rintro e w' ⟨rfl, rfl⟩))
              go_step3
              exact ⟨rfl, ⟨_, _, _, _, _, _, _, _, _, _, _, _, _, _, _, _, _, _, _, _, _, _, _, _, _, _, _, _, _, _, _, _, _, _, _, _, _, _, _, _, _, _, _, _, _, _, _, rfl⟩, HBAD.out, rfl⟩
          · obtain rfl : k = n := by omega
            have hq : decide ((k : Int) < (k : Int)) = false := decide_eq_false (by omega)
            have hnum : isNum s = true ∧ v = valN s := by
              have hv := HV.out.1
              rw [HN.out, List.take_length] at hv
              exact ⟨num_good s HE.out (fun c hc => by
                obtain ⟨j, hj, rfl⟩ := List.mem_iff_getElem.1 hc
                exact HA.out j (by rw [HN.out]; exact hj) _ (List.getElem?_eq_getElem hj)) HL.out (by rw [← hv]; exact HV.out.2), hv⟩
            by_cases hmo : most < (v : Int)
            · obtain ⟨h1, h2⟩ := read_over hnum.1 (show most < (valN s : Int) from hnum.2 ▸ hmo)
              have HP := Lib.hid (And.intro h1 h2)
              have t2 : decide (most < (v : Int)) = true := decide_eq_true hmo
              clear h1 h2 hnum hmo
              go_wp2
              simp only [Exit.jump]
              go_ret2
              exact ⟨by rw [HP.out.1, HP.out.2]; try rfl, Below.refl _ _⟩
            · obtain ⟨h1, h2⟩ := read_good hnum.1 (show ¬ most < (valN s : Int) from hnum.2 ▸ hmo)
              rw [← hnum.2] at h1
              have HP := Lib.hid (And.intro h1 h2)
              have t2 : decide (most < (v : Int)) = false := decide_eq_false hmo
              clear h1 h2 hnum hmo
              go_wp2
              simp only [Exit.jump]
              go_ret2
              exact ⟨by rw [HP.out.1, HP.out.2]; try rfl, Below.refl _ _⟩
  · rintro a' w1 ⟨⟨u0', u1', u2', u3', u4', u5', u6', u7', u8', u9', u10', u11', u12', u13', u14', u15', u16', u17', u18', u19', u20', u21', u22', u23', u24', u25', u26', u27', u28', u29', u30', u31', u32', u33', u34', u35', u36', u37', u38', u39', u40', u41', u42', u43', u44', u45', u46', rfl⟩, hbad, rfl⟩
    obtain ⟨hp1, hp2⟩ := read_bad hbad most
    have HP := Lib.hid (And.intro hp1 hp2)
    clear hbad hp1 hp2 hl hsz
    go_wp2
    simp only [Exit.jump]
    go_ret2
    exact ⟨by rw [HP.out.1, HP.out.2]; try rfl, Below.refl _ _⟩
end Go.Proofs.YtfechljjkblkhaaDoor
