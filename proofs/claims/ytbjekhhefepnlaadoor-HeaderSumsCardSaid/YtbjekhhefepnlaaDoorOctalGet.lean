/-
What package octal answers, walked over the landed code: Get.
-/
import Derived.Test.YtbjekhhefepnlaaDoorOctalFace
import Derived.Test.YtbjekhhefepnlaaDoorRef05Get
import Derived.Laws.BitsLemmas
namespace Go.Proofs.YtbjekhhefepnlaaDoor
open Go.RowKit
theorem octs_val8 (k : Nat) : ∀ l : List UInt8, l.length = k → (∀ c ∈ l, 48 ≤ c.toNat ∧ c.toNat ≤ 55) → octs k (val8 l) = l := by
  induction k with
  | zero => intro l hl _; rw [List.eq_nil_of_length_eq_zero hl, octs_zero]
  | succ k ih =>
    intro l hl hc
    rcases List.eq_nil_or_concat l with rfl | ⟨t, c, rfl⟩
    · simp at hl
    · rw [List.concat_eq_append] at hl hc ⊢
      rw [List.length_append, List.length_singleton] at hl
      have h1 := ih t (by omega) fun x hx => hc x (by simp [hx])
      have h2 := hc c (by simp)
      rw [octs_succ, val8_snoc, show (8 * val8 t + c.toNat % 8) / 8 = val8 t from by omega, h1, show 48 + (8 * val8 t + c.toNat % 8) % 8 = c.toNat from by omega]
      simp
theorem octs_mem (k : Nat) : ∀ (n : Nat) (c : UInt8), c ∈ octs k n → 48 ≤ c.toNat ∧ c.toNat ≤ 55 := by
  induction k with
  | zero => intro n c hc; rw [octs_zero] at hc; cases hc
  | succ k ih =>
    intro n c hc
    rw [octs_succ, List.mem_append] at hc
    rcases hc with hc | hc
    · exact ih _ c hc
    · rw [List.mem_singleton] at hc
      rw [hc, oct_toNat _ (by omega)]; omega
theorem isOct_iff (b : List UInt8) : isOct b = true ↔ 2 ≤ b.length ∧ b.length ≤ 12 ∧ b.getD (b.length - 1) 0 = 0 ∧ ∀ j, j < b.length - 1 → 48 ≤ (b.getD j 0).toNat ∧ (b.getD j 0).toNat ≤ 55 := by
  constructor
  · intro h
    obtain ⟨h1, h2, h3, -⟩ := isOct_of h
    obtain ⟨k, hk⟩ : ∃ k, k = b.length - 1 := ⟨_, rfl⟩
    refine ⟨h1, h2, ?_⟩
    rw [← hk]
    have e : b = octs k (val8 b.dropLast) ++ [0] := by rw [putL, ← hk] at h3; exact h3.symm
    generalize val8 b.dropLast = V at e
    have hl := octs_length k V
    rw [e]
    constructor
    · rw [List.getD_eq_getElem?_getD, List.getElem?_append_right (by omega), hl, Nat.sub_self]; rfl
    · intro j hj
      rw [List.getD_eq_getElem?_getD, List.getElem?_append_left (by omega), List.getElem?_eq_getElem (by omega)]
      exact octs_mem k V _ (List.getElem_mem _)
  · rintro ⟨h1, h2, h3, h4⟩
    simp only [isOct, Bool.and_eq_true, decide_eq_true_eq, beq_iff_eq]
    refine ⟨h1, h2, ?_⟩
    have hne : b ≠ [] := by intro e; rw [e] at h1; simp at h1
    rw [putL, octs_val8 (b.length - 1) b.dropLast (by rw [List.length_dropLast]) fun c hc => ?_]
    · have e := List.dropLast_concat_getLast hne
      have h5 : b.getLast hne = 0 := by
        rw [List.getLast_eq_getElem, ← h3, List.getD_eq_getElem?_getD, List.getElem?_eq_getElem (by omega)]; rfl
      rw [h5] at e; exact e
    · obtain ⟨j, hj, rfl⟩ := List.mem_iff_getElem.1 hc
      rw [List.length_dropLast] at hj
      have := h4 j hj
      rw [List.getD_eq_getElem?_getD, List.getElem?_eq_getElem (by omega), Option.getD_some] at this
      rw [List.getElem_dropLast]; exact this
theorem get_no {b : List UInt8} (h : ¬ isOct b = true) : getN b = 0 ∧ getErr b = 2 := by rw [getN, getErr, if_neg h, if_neg h]; exact ⟨rfl, rfl⟩
theorem get_yes {b : List UInt8} (h : isOct b = true) : getN b = val8 (b.take (b.length - 1)) ∧ getErr b = 0 := by rw [getN, getErr, if_pos h, if_pos h, List.dropLast_eq_take]; exact ⟨rfl, rfl⟩
theorem or_join (V d q : Nat) (h1 : V < 68719476736) (hd : d < 8) (hq : q = 8 * V + d) : bits .or .i64 ((8 * V : Nat) : Int) (d : Int) = (q : Int) := by
  rw [bits_join .i64 62 (by decide) (fun n h0 h1 => by rw [IntKind.wrap_i64]; omega) 3 _ _ (by omega) (by omega) (by omega) (by omega) (by omega) (by omega)]
  omega
theorem get_nums (V y : Nat) (hV : V < 68719476736) (h1 : 48 ≤ y) (h2 : y ≤ 55) : ∃ d p8 q : Nat, (V : Int) * 8 = (p8 : Int) ∧ IntKind.i64.wrap (p8 : Int) = (p8 : Int) ∧ wrap64 (p8 : Int) = (p8 : Int) ∧ (y : Int) - 48 = (d : Int) ∧ IntKind.u8.wrap (d : Int) = (d : Int) ∧ (d : Int) % 256 = (d : Int) ∧ IntKind.i64.wrap (d : Int) = (d : Int) ∧ wrap64 (d : Int) = (d : Int) ∧ bits .or .i64 (p8 : Int) (d : Int) = (q : Int) ∧ q = 8 * V + y % 8 := by
  refine ⟨y - 48, 8 * V, 8 * V + (y - 48), by omega, wrap_small _ (by omega), by rw [wrap64]; omega, by omega, by rw [IntKind.wrap_u8]; omega, by omega, wrap_small _ (by omega), by rw [wrap64]; omega, or_join V (y - 48) _ hV (by omega) rfl, by omega⟩
theorem measure_up (p k : Nat) (h : k < p) : p - (intOf (.int .i64 ((k + 1 : Nat) : Int))).toNat < p - (intOf (.int .i64 (k : Int))).toNat := by
  simp only [intOf, Int.toNat_natCast]; omega
set_option maxHeartbeats 4000000 in
theorem get_any (b : List UInt8) (hb : b.length < 4611686018427387904) (v : Value) (w : World) (hv : HasText w v b) : Calls Tryd.prog 24 #[v] w fun e w' => e = .returned (.tuple #[.int .i64 (getN b), .int .i64 (getErr b)]) ∧ Below w.heap.size w w' := by
  have HV := Lib.hid hv
  obtain ⟨ao, cap, rfl, -⟩ := hv
  obtain ⟨n, hn⟩ : ∃ n, n = (b.map w8).length := ⟨_, rfl⟩
  rw [← hn] at HV ⊢
  have hnl : n = b.length := by rw [hn, List.length_map]
  have HN := Lib.hid hnl
  clear hn
  have hn : n < 4611686018427387904 := by omega
  clear hnl hb
  obtain ⟨z1, hz1⟩ : ∃ z : Int, z = (n : Int) - 1 := ⟨_, rfl⟩
  have e0 : (n : Int) - 1 = z1 := hz1.symm
  have e0' : wrap64 z1 = z1 := by rw [wrap64]; omega
  have e0'' : IntKind.i64.wrap z1 = z1 := by rw [IntKind.wrap_i64]; omega
  have HZ := Lib.hid hz1
  clear hz1
  by_cases h2 : n < 2
  · have d1 : decide ((n : Int) < 2) = true := decide_eq_true (by omega)
    have HR := Lib.hid (get_no (b := b) fun h => by have := ((isOct_iff b).1 h).1; have := HN.out; omega)
    clear hn h2
    go_enter Tryd.func24, Tryd.ntmps24
    go_wp2
    go_ret2
    exact ⟨by rw [HR.out.1, HR.out.2]; try rfl, Below.refl _ _⟩
  · by_cases h12 : 12 < n
    · have d1 : decide ((n : Int) < 2) = false := decide_eq_false (by omega)
      have d2 : decide ((n : Int) > 12) = true := decide_eq_true (by omega)
      have HR := Lib.hid (get_no (b := b) fun h => by have := ((isOct_iff b).1 h).2.1; have := HN.out; omega)
      clear hn h2 h12
      go_enter Tryd.func24, Tryd.ntmps24
      go_wp2
      go_ret2
      exact ⟨by rw [HR.out.1, HR.out.2]; try rfl, Below.refl _ _⟩
    · obtain ⟨p, hp⟩ : ∃ p : Nat, p = n - 1 := ⟨_, rfl⟩
      obtain rfl : z1 = (p : Int) := by rw [HZ.out]; omega
      have hpn : p + 1 = n := by omega
      have HP := Lib.hid hpn
      obtain ⟨ad, c, rfl, hc, hcd, c0⟩ := text_at HV.out p (by rw [← HN.out]; omega)
      obtain ⟨x, hx⟩ : ∃ x : Nat, x = c.toNat := ⟨_, rfl⟩
      have HX := Lib.hid hx
      rw [← hx] at c0
      have HC := Lib.hid hcd
      have d1 : decide ((n : Int) < 2) = false := decide_eq_false (by omega)
      have d2 : decide ((n : Int) > 12) = false := decide_eq_false (by omega)
      have q0 : (p : Int) < (n : Int) := by omega
      have hp12 : p < 12 := by omega
      have HP1 := Lib.hid (show 1 ≤ p by omega)
      clear hc hcd hx hp hn h2 h12
      by_cases hx0 : x = 0
      · subst hx0
        have hlast : b.getD p 0 = 0 := by rw [HC.out]; exact UInt8.toNat_inj.1 HX.out.symm
        have qc : (p : Int) ≤ (cap : Int) := by have := text_cap HV.out; omega
        have HL := Lib.hid hlast
        have HPP := Lib.hid hp12
        clear hlast hp12 hpn
        go_enter Tryd.func24, Tryd.ntmps24
        go_wp2
        go_loopw [5, 30] (fun x c wr => wr = w ∧ ∃ k : Nat, k ≤ p ∧ c = .int .i64 k ∧ x = .int .i64 ((val8 (b.take k) : Nat) : Int) ∧ ∀ j, j < k → 48 ≤ (b.getD j 0).toNat ∧ (b.getD j 0).toNat ≤ 55) (fun _ c _ => p - (intOf c).toNat)
        case atStart => exact ⟨rfl, 0, by omega, rfl, by rw [List.take_zero, val8_nil]; rfl, fun j hj => by omega⟩
        case round =>
          obtain ⟨rfl, k, hk, rfl, rfl, hall⟩ := hrel
          have HA := Lib.hid hall
          obtain ⟨V, hV⟩ : ∃ V, V = val8 (b.take k) := ⟨_, rfl⟩
          have hVlt := val8_take_lt b k (by have := HPP.out; omega)
          rw [← hV] at hVlt ⊢
          have HVV := Lib.hid hV
          clear hV hall
          by_cases hlt : k < p
          · have q1 : (k : Int) < (p : Int) := by omega
            obtain ⟨ad', c', ea, hc, hcd, c1⟩ := text_at HV.out k (by have := HN.out; have := HP.out; omega)
            obtain rfl : ad' = ad := (Option.some.inj ea).symm
            obtain ⟨y, hy⟩ : ∃ y : Nat, y = c'.toNat := ⟨_, rfl⟩
            have HY := Lib.hid hy
            have HD := Lib.hid hcd
            have HC1 := Lib.hid hc
            have hy2 := UInt8.toNat_lt c'
            rw [← hy] at c1 hy2
            clear ea hc hcd hy
            by_cases h48 : y < 48
            · have d3 : decide ((y : Int) < 48) = true := decide_eq_true (by omega)
              have HR := Lib.hid (get_no (b := b) fun h => by
                have h := (((isOct_iff b).1 h).2.2.2 k (by have := HN.out; have := HP.out; omega)).1
                rw [HD.out, ← HY.out] at h; omega)
              clear h48 hy2 hVlt
              go_wp2
              go_ret2
              exact ⟨by rw [HR.out.1, HR.out.2]; try rfl, Below.refl _ _⟩
            · have d3 : decide ((y : Int) < 48) = false := decide_eq_false (by omega)
              by_cases h55 : 55 < y
              · have d4 : decide ((y : Int) > 55) = true := decide_eq_true (by omega)
                have HR := Lib.hid (get_no (b := b) fun h => by
                  have h := (((isOct_iff b).1 h).2.2.2 k (by have := HN.out; have := HP.out; omega)).2
                  rw [HD.out, ← HY.out] at h; omega)
                clear h48 h55 hy2 hVlt
                go_wp2
                go_ret2
                exact ⟨by rw [HR.out.1, HR.out.2]; try rfl, Below.refl _ _⟩
              · have d4 : decide ((y : Int) > 55) = false := decide_eq_false (by omega)
                have HA' := Lib.hid (show ∀ j, j < k + 1 → 48 ≤ (b.getD j 0).toNat ∧ (b.getD j 0).toNat ≤ 55 from fun j hj => by
                  rcases Nat.lt_or_ge j k with h | h
                  · exact HA.out j h
                  · obtain rfl : j = k := by omega
                    rw [HD.out, ← HY.out]; omega)
                have w1 := next64 k (by have := HPP.out; omega)
                obtain ⟨d, p8, q, f0, f1, f1', f2, f3, f3', f4, f4', f5, hq⟩ := get_nums V y hVlt (by omega) (by omega)
                have HQ := Lib.hid (show q = val8 (b.take (k + 1)) by rw [val8_next b k c' HC1.out, ← HVV.out, ← HY.out]; exact hq)
                clear h48 h55 hy2 hVlt hq
                go_wp2
                clear f0 f1 f1' f2 f3 f3' f4 f4' f5 e0 e0' e0''
                refine ⟨⟨trivial, k + 1, hlt, by rw [w1], by rw [← HQ.out], HA'.out⟩, ?_⟩
                rw [w1]
                exact measure_up p k hlt
          · obtain rfl : k = p := by omega
            have HR := Lib.hid (get_yes (b := b) ((isOct_iff b).2 ⟨by have := HN.out; have := HP.out; have := HP1.out; omega, by have := HN.out; have := HP.out; have := HPP.out; omega, by rw [← HN.out, ← HP.out]; exact HL.out, fun j hj => HA.out j (by have := HN.out; have := HP.out; omega)⟩))
            have HE := Lib.hid (show getN b = (V : Int) by rw [HR.out.1, HVV.out, ← HN.out, ← HP.out]; rfl)
            clear hVlt
            go_wp2
            go_ret2
            exact ⟨by rw [HE.out, HR.out.2]; try rfl, Below.refl _ _⟩
      · have d3 : ((x : Int) == 0) = false := by simp; omega
        have HR := Lib.hid (get_no (b := b) fun h => by
          have h := ((isOct_iff b).1 h).2.2.1
          rw [← HN.out, ← HP.out, Nat.add_sub_cancel, HC.out] at h
          rw [h] at HX; exact hx0 HX.out)
        clear hp12 hpn hx0
        go_enter Tryd.func24, Tryd.ntmps24
        go_wp2
        go_ret2
        exact ⟨by rw [HR.out.1, HR.out.2]; try rfl, Below.refl _ _⟩
end Go.Proofs.YtbjekhhefepnlaaDoor
