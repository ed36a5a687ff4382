/-
What the document's own Put returns for layer 5: a number as a field of some width.
-/
import Derived.Test.YtbjekhhefepnlaaDoorRef05Text
namespace Go.Proofs.YtbjekhhefepnlaaDoor
open Go.RowKit
theorem ownsB_one (w : World) (e : TypeId) (c : UInt8) (n : Nat) (hn : c.toNat = n) (base : Nat) (hb : base ≤ w.heap.size) : OwnsB (w.alloc (.cells #[.int .u8 (n : Int)] e (0, 0))) base e (.slice (some ⟨w.heap.size, 0, none⟩) 1 1) [c] := by
  subst hn
  exact ⟨w.heap.size, 1, _, (0, 0), rfl, hb, heap_last _ _, .inl rfl, Nat.le_refl 1, by decide, rfl, rfl⟩
theorem text_below {w w' : World} {v : Value} {l : List UInt8} (h : HasText w v l) (hb : Below w.heap.size w w') : HasText w' v l := has_below h hb
theorem put_bad {n w x : Int} (h : putErr n w = x) (hx : x ≠ 0) : putT n w = [] := by rw [putT, if_neg (by rw [h]; exact hx)]
set_option maxHeartbeats 4000000 in
theorem refPut_any (n width : Int) (hn1 : -9223372036854775808 ≤ n) (hn2 : n < 9223372036854775808) (w : World) :
    Calls Tryd.prog 37 #[.int .i64 n, .int .i64 width] w fun e w' => ∃ v, e = .returned (.tuple #[v, .int .i64 (putErr n width)]) ∧ HasText w' v (putT n width) ∧ Below w.heap.size w w' := by
  obtain ⟨i0, hi, hz0, hz1, hz2⟩ := info_parts infoByte
  by_cases h1 : width < 2
  · have HF := Lib.hid (show putErr n width = 1 from (putErr_width n width).2 (.inl h1))
    go_enter Tryd.func37, Tryd.ntmps37
    go_wp2
    go_ret2
    rw [HF.out, put_bad HF.out (by decide)]
    exact ⟨_, rfl, hasText_nil _, Below.refl _ _⟩
  · by_cases h12 : 12 < width
    · have HF := Lib.hid (show putErr n width = 1 from (putErr_width n width).2 (.inr h12))
      go_enter Tryd.func37, Tryd.ntmps37
      go_wp2
      go_ret2
      rw [HF.out, put_bad HF.out (by decide)]
      exact ⟨_, rfl, hasText_nil _, Below.refl _ _⟩
    · by_cases hneg : n < 0
      · have HF := Lib.hid (show putErr n width = 8 by rw [putErr, if_neg (by omega), if_pos hneg])
        go_enter Tryd.func37, Tryd.ntmps37
        go_wp2
        go_ret2
        rw [HF.out, put_bad HF.out (by decide)]
        exact ⟨_, rfl, hasText_nil _, Below.refl _ _⟩
      · obtain ⟨N, rfl⟩ : ∃ N : Nat, n = (N : Int) := ⟨n.toNat, by omega⟩
        obtain ⟨m, rfl⟩ : ∃ m : Nat, width = (m : Int) := ⟨width.toNat, by omega⟩
        have H0 := Lib.hid (ownsB_has (ownsB_one w 5 0 0 rfl w.heap.size (Nat.le_refl _)))
        have HB0 := Lib.hid ((Below.refl w.heap.size w).alloc (Nat.le_refl _) (.cells #[.int .u8 ((0 : Nat) : Int)] 5 (0, 0)))
        go_enter Tryd.func37, Tryd.ntmps37
        go_wp2
        go_loopw [0, 6, 7] (fun x v c wr => ∃ j : Nat, j + 1 ≤ m ∧ c = .int .i64 ((j + 1 : Nat) : Int) ∧ x = .int .i64 ((N / 8 ^ j : Nat) : Int) ∧ (∃ ao cap, v = .slice ao (j + 1) cap) ∧ HasText wr v (octs j N ++ [0]) ∧ Below w.heap.size w wr) (fun _ _ c _ => m - (intOf c).toNat)
        case atStart => exact ⟨0, by omega, rfl, by simp, ⟨_, _, rfl⟩, by rw [octs]; exact H0.out, HB0.out⟩
        case round =>
          clear H0 HB0
          obtain ⟨j, hj, rfl, rfl, ⟨ao, cap, rfl⟩, ho, hb⟩ := hrel
          have HO := Lib.hid ho
          have HB := Lib.hid hb
          have hbs := hb.size
          clear ho hb
          obtain ⟨y, hy⟩ : ∃ y, y = N / 8 ^ j := ⟨_, rfl⟩
          have hyN : y ≤ N := by rw [hy]; exact Nat.div_le_self _ _
          have HY := Lib.hid hy
          rw [← hy]
          have hy63 : (y : Int) < 9223372036854775808 := by omega
          clear hy hyN
          obtain ⟨i, hi1⟩ : ∃ i, i = j + 1 := ⟨_, rfl⟩
          have HI := Lib.hid hi1
          rw [← hi1] at hj HO ⊢
          clear hi1
          by_cases hlt : i < m
          · obtain ⟨S, hS⟩ : ∃ S, S = octs j N ++ [(0 : UInt8)] := ⟨_, rfl⟩
            rw [← hS] at HO
            have hSl : S.length = i := by rw [hS, List.length_append, octs_length, HI.out]; rfl
            have q0 : (i : Int) < (m : Int) := by omega
            obtain ⟨r, hr⟩ : ∃ r, r = 48 + y % 8 := ⟨_, rfl⟩
            obtain ⟨p, hp⟩ : ∃ p, p = y % 8 := ⟨_, rfl⟩
            have e0 : (y : Int) % 8 = (p : Int) := by omega
            have e0' : (y : Int).tmod 8 = (p : Int) := by rw [Int.tmod_eq_emod_of_nonneg (by omega)]; omega
            have e1 : (48 : Int) + (p : Int) = (r : Int) := by omega
            have e2 : IntKind.u8.wrap (r : Int) = (r : Int) := by rw [IntKind.wrap_u8]; omega
            have e7 : (r : Int) % 256 = (r : Int) := by omega
            have HC := Lib.hid (oct_toNat (y % 8) (by omega))
            rw [← hr] at HC
            have HS := Lib.hid (show octs (j + 1) N ++ [(0 : UInt8)] = [UInt8.ofNat r] ++ S by rw [octs_front, ← HY.out, ← hr, hS]; rfl)
            obtain ⟨q, hq⟩ : ∃ q, q = y / 8 := ⟨_, rfl⟩
            have e3 : (y : Int) / 8 = (q : Int) := by omega
            have e4 : IntKind.i64.wrap (q : Int) = (q : Int) := by rw [IntKind.wrap_i64]; omega
            have e5 : wrap64 (q : Int) = (q : Int) := by rw [wrap64]; omega
            have e6 : wrap64 (r : Int) = (r : Int) := by rw [wrap64]; omega
            have HQ := Lib.hid hq
            clear hS hr hq hp hy63 hn1 hn2
            have HT := Lib.hid (ownsB_one wr 5 (UInt8.ofNat r) r HC.out w.heap.size hbs)
            go_wp2_with (first | (at_builtin; refine append_owns_list rfl (.tmp 26) (.tmp 27) 22 rfl w.heap.size 5 i0 Tryd.underlying22 hi hz0 hz1 hz2 _ [UInt8.ofNat r] S rfl HT.out _ rfl (text_below HO.out ((Below.refl _ _).alloc (Nat.le_refl _) _)) (by simp; omega) (by simp; omega) ?_; intro v' w' ho' hg'; have hb' := below_grown (HB.out.alloc HB.out.size _) hg' (by simp; omega) (fun k hk => (ownsB_lt HT.out k hk).1); have HO' := Lib.hid ho'; have HB' := Lib.hid hb'; clear ho' hg' hb'))
            obtain ⟨g', cap', e, _⟩ := ownsB_slice HO'.out
            rw [List.length_append, hSl] at e
            subst e
            go_roundw
            case rel => exact ⟨i, by omega, by go_num, by rw [HI.out, Nat.pow_succ, ← Nat.div_div_eq_div_mul, ← HY.out, ← HQ.out], ⟨_, _, by rw [List.length_singleton, Nat.add_comm]⟩, by have h := ownsB_has HO'.out; rw [← HS.out, ← HI.out] at h; exact h, HB'.out⟩
            case measure => simp [intOf]; omega
          · obtain rfl : i = m := by omega
            by_cases hz : y = 0
            · subst hz
              have HF := Lib.hid (show putErr (N : Int) (i : Int) = 0 by rw [putErr, if_neg (by omega), if_neg (by omega), Int.toNat_natCast, Int.toNat_natCast, HI.out, Nat.add_sub_cancel, ← HY.out, if_neg (by omega)])
              have HE := Lib.hid (show putT (N : Int) (i : Int) = octs j N ++ [0] by rw [putT, if_pos HF.out, Int.toNat_natCast, Int.toNat_natCast, putL, HI.out, Nat.add_sub_cancel])
              go_wp2
              go_ret2
              rw [HF.out, HE.out]
              exact ⟨_, rfl, HO.out, HB.out⟩
            · have d1 : ((y : Int) == 0) = false := by simp; omega
              have HF := Lib.hid (show putErr (N : Int) (i : Int) = 8 by rw [putErr, if_neg (by omega), if_neg (by omega), Int.toNat_natCast, Int.toNat_natCast, HI.out, Nat.add_sub_cancel, ← HY.out, if_pos hz])
              clear hn1 hn2 hneg h1 h12 hy63
              go_wp2
              go_ret2
              rw [HF.out, put_bad HF.out (by decide)]
              exact ⟨_, rfl, hasText_nil _, HB.out⟩
end Go.Proofs.YtbjekhhefepnlaaDoor
