/-
The walk of the statement on a header's sum.
-/
import Derived.Test.YtbjekhhefepnlaaDoorHeaderFace
import Derived.Deep.DeepCutAuto
namespace Go.Proofs.YtbjekhhefepnlaaDoor
open Go.RowKit
/-- A byte of a slice that may be written. -/
theorem ownText_at {w : World} {base : Nat} {g o n cap : Nat} {l : List UInt8} (h : OwnText w base (.slice (some ⟨g, o, none⟩) n cap) l) (k : Nat) (hk : k < l.length) (c : UInt8) (hc : l.getD k 0 = c) :
    w.cell? ⟨g, o + k, none⟩ = some (.int .u8 (c.toNat : Int)) ∧ w.frozen? ⟨g, o + k, none⟩ = false ∧ base ≤ g := by
  obtain ⟨ad, c', e1, e2, e3, e4⟩ := text_at h.1 k hk
  cases e1
  obtain ⟨f1, f2, f3⟩ := h.2 _ _ _ rfl
  have f4 := f3 k hk
  rw [Addr.add_lit] at e4 f4
  rw [← hc, e3]
  exact ⟨e4, f4, f1⟩
/-- One byte of it written over. -/
theorem ownText_set {w : World} {base : Nat} {g o n cap : Nat} {l : List UInt8} (h : OwnText w base (.slice (some ⟨g, o, none⟩) n cap) l) (k : Nat) (hk : k < l.length) (c : UInt8) (v : Value) (hv : v = .int .u8 (c.toNat : Int)) :
    OwnText (w.setCell ⟨g, o + k, none⟩ v) base (.slice (some ⟨g, o, none⟩) n cap) (l.set k c) := by
  subst hv
  have h1 := (ownText_at h k hk _ rfl).1
  refine ⟨?_, fun ad n' cap' e => ?_⟩
  · obtain ⟨ao', cap', e, hnil, hc⟩ := h.1
    cases e
    refine ⟨_, _, by rw [List.length_map, List.length_map, List.length_set], (fun h => by cases h), fun ad had => ⟨by have := (hc _ rfl).1; rw [List.length_map] at this ⊢; rw [List.length_set]; exact this, fun j u hu => ?_⟩⟩
    cases had
    rw [Addr.add_lit]
    rw [bytesL_map, List.getElem?_map, List.getElem?_set] at hu
    split at hu
    · rename_i hjk
      subst hjk
      cases hu
      exact World.cell?_setCell_same' _ _ _ (by rw [h1]; rfl)
    · rename_i hjk
      have h2 := (hc _ rfl).2 j u (by rw [bytesL_map, List.getElem?_map]; exact hu)
      rw [Addr.add_lit] at h2
      exact (World.cell?_setCell_other _ _ _ _ (show (⟨g, o + k, none⟩ : Addr) ≠ ⟨g, o + j, none⟩ from fun e => by injection e with e1 e2; omega)).trans h2
  · cases e
    obtain ⟨f1, f2, f3⟩ := h.2 _ _ _ rfl
    refine ⟨f1, f2, fun j hj => ?_⟩
    rw [World.frozen?_setCell]
    rw [List.length_set] at hj
    exact f3 j hj
theorem ownText_keep {w w' : World} {base : Nat} {g o n cap : Nat} {l : List UInt8} (h : OwnText w base (.slice (some ⟨g, o, none⟩) n cap) l) (hl : 0 < l.length) (hb : Below w.heap.size w w') : OwnText w' base (.slice (some ⟨g, o, none⟩) n cap) l := by
  refine ⟨text_keep h.1 hb, fun ad n' cap' e => ?_⟩
  cases e
  obtain ⟨f1, f2, f3⟩ := h.2 _ _ _ rfl
  refine ⟨f1, f2, fun j hj => ?_⟩
  have hc := (ownText_at h 0 hl _ rfl).1
  have hlt := World.block_lt_of_cell? w _ hc
  have h5 := f3 j hj
  rw [Addr.add_lit] at h5 ⊢
  exact (World.frozen?_of_block (hb.block g hlt)).trans h5
/-- A byte and the next one. -/
theorem next_byte (c : UInt8) : ∃ (x y : Nat) (d : UInt8), x = c.toNat ∧ y = d.toNat ∧ d ≠ c ∧ IntKind.u8.wrap ((x : Int) + 1) = (y : Int) ∧ IntKind.u8.wrap ((y : Int) - 1) = (x : Int) ∧ ((x : Int) + 1) % 256 = (y : Int) ∧ ((y : Int) - 1) % 256 = (x : Int) := by
  have h := UInt8.toNat_lt c
  refine ⟨c.toNat, (c.toNat + 1) % 256, UInt8.ofNat ((c.toNat + 1) % 256), rfl, by rw [UInt8.toNat_ofNat', Nat.mod_eq_of_lt (Nat.mod_lt _ (by decide))], fun e => ?_, by rw [IntKind.wrap_u8]; omega, by rw [IntKind.wrap_u8]; omega, by omega, by omega⟩
  have := congrArg UInt8.toNat e
  rw [UInt8.toNat_ofNat', Nat.mod_eq_of_lt (Nat.mod_lt _ (by decide))] at this
  omega
theorem octs_mem6 (k : Nat) : ∀ (n : Nat) (c : UInt8), c ∈ octs k n → 48 ≤ c.toNat ∧ c.toNat ≤ 55 := by
  induction k with
  | zero => intro n c hc; rw [octs_zero] at hc; cases hc
  | succ k ih =>
    intro n c hc
    rw [octs_succ, List.mem_append] at hc
    rcases hc with hc | hc
    · exact ih _ c hc
    · rw [List.mem_singleton] at hc
      rw [hc, oct_toNat _ (by omega)]; omega
theorem val8_take6 (S i : Nat) : val8 ((octs 6 S).take i) < 262144 := by
  have h1 := val8_lt ((octs 6 S).take i)
  have h2 : 8 ^ ((octs 6 S).take i).length ≤ 8 ^ 6 := Nat.pow_le_pow_right (by decide) (by rw [List.length_take, octs_length]; exact Nat.min_le_right _ _)
  have h3 : (8 : Nat) ^ 6 = 262144 := by decide
  rw [h3] at h2
  exact Nat.lt_of_lt_of_le h1 h2
theorem place_nums (i j : Nat) (hi : i < 6) (hj : j = 148 + i) : (j : Int) < 154 ∧ (j : Int) < 512 ∧ wrap64 ((j : Int) + 1) = ((j + 1 : Nat) : Int) ∧ j < 154 ∧ j + 1 = 148 + (i + 1) := by
  refine ⟨by omega, by omega, next64 j (by omega), by omega, by omega⟩
theorem turn_nums (a k : Nat) (ha : a < 65536) (hk : k = a % 512) : (a : Int).tmod 512 = (k : Int) ∧ wrap64 (k : Int) = (k : Int) ∧ IntKind.i64.wrap (k : Int) = (k : Int) ∧ wrap64 (a : Int) = (a : Int) ∧ IntKind.i64.wrap (a : Int) = (a : Int) ∧ (k : Int) < 512 := by
  refine ⟨by rw [Int.tmod_eq_emod_of_nonneg (by omega)]; omega, by rw [wrap64]; omega, by rw [IntKind.wrap_i64]; omega, by rw [wrap64]; omega, by rw [IntKind.wrap_i64]; omega, by omega⟩
/-- The sum's own field. -/
theorem sum_field {X : List UInt8} {S : Nat} (hS : S ≤ 130560) (h : (X.drop 148).take 8 = sumB S) : sumB S = octs 6 S ++ [0, 32] ∧ ∀ i, i < 8 → X[148 + i]? = (octs 6 S ++ [0, 32])[i]? := by
  have e : sumB S = octs 6 S ++ [0, 32] := by
    rw [sumB, putT, if_pos (put7 hS), Int.toNat_natCast, show (7 : Int).toNat = 7 from rfl, putL, List.append_assoc]; rfl
  refine ⟨e, fun i hi => ?_⟩
  rw [← e, ← h, List.getElem?_take, if_pos hi, List.getElem?_drop]
theorem dig_nums (V y : Nat) (hV : V < 262144) (h1 : 48 ≤ y) (h2 : y ≤ 55) : ∃ d p q : Nat, (8 : Int) * (V : Int) = (p : Int) ∧ wrap64 (p : Int) = (p : Int) ∧ IntKind.i64.wrap (p : Int) = (p : Int) ∧ (y : Int) - 48 = (d : Int) ∧ IntKind.u8.wrap (d : Int) = (d : Int) ∧ (d : Int) % 256 = (d : Int) ∧ wrap64 (d : Int) = (d : Int) ∧ IntKind.i64.wrap (d : Int) = (d : Int) ∧ (p : Int) + (d : Int) = (q : Int) ∧ wrap64 (q : Int) = (q : Int) ∧ IntKind.i64.wrap (q : Int) = (q : Int) ∧ q = 8 * V + y % 8 := by
  refine ⟨y - 48, 8 * V, 8 * V + (y - 48), by omega, by rw [wrap64]; omega, by rw [IntKind.wrap_i64]; omega, by omega, by rw [IntKind.wrap_u8]; omega, by omega, by rw [wrap64]; omega, by rw [IntKind.wrap_i64]; omega, by omega, by rw [wrap64]; omega, by rw [IntKind.wrap_i64]; omega, by omega⟩
theorem measure_dn (j p : Nat) (h : j < p) : p - (intOf (.int .i64 ((j + 1 : Nat) : Int))).toNat < p - (intOf (.int .i64 (j : Int))).toNat := by
  simp only [intOf, Int.toNat_natCast]; omega
set_option maxRecDepth 100000 in
set_option maxHeartbeats 8000000 in
theorem headerSums_walk (F : HeaderFace) (s : List UInt8) (n : Int) (a : Nat) (ha : a < 65536) (hs : s.length < 1152921504606846976) (hn : -9223372036854775808 ≤ n ∧ n < 9223372036854775808) (w : World) :
    Calls Tryd.prog 6 #[.string (str s), .int .i64 n, .int .u16 (a : Int)] w fun e w' => e = .returned (.bool true) ∧ Below w.heap.size w w' := by
  have P1 := Lib.hid (fun w => F.put w s n hs hn.1 hn.2)
  by_cases hE : putHErr s n = 0
  · obtain ⟨S, hS⟩ : ∃ S, S = hdrS (splitA s) (splitB s) n := ⟨_, rfl⟩
    have hX : putH s n = hdrL (splitA s) (splitB s) n := by rw [putH, if_pos hE]
    have hf := fit_of hE
    have hlen := putH_len hE
    have hsum := hdrL_sum hf
    have hfld := hdr_sum hf
    have hle := hdrS_lt hf
    rw [← hX, ← hS] at hsum hfld
    rw [← hS] at hle
    obtain ⟨hb8, hat⟩ := sum_field hle hfld
    obtain ⟨k, hk⟩ : ∃ k, k = a % 512 := ⟨_, rfl⟩
    have hk512 : k < 512 := by omega
    obtain ⟨x, y, d, hx, hy, hd, u1, u2, u3, u4⟩ := next_byte ((putH s n).getD k 0)
    have hbad := one_more hE hk512 hd
    rw [hE] at P1
    have G1 := Lib.hid (fun w v hv => F.get w v ((putH s n).set k d) (by rw [List.length_set, hlen]; decide) hv)
    rw [hbad] at G1
    have hchk := fun w v hv => refCheck_any (putH s n) (by rw [hlen]; decide) v w hv
    rw [hsum, check_sum hle] at hchk
    have C1 := Lib.hid hchk
    have hback : ((putH s n).set k d).set k ((putH s n).getD k 0) = putH s n := by
      rw [List.set_set]
      apply List.ext_getElem?
      intro i
      rw [List.getElem?_set]
      split
      · rename_i e; subst e; rw [if_pos (by omega), List.getD_eq_getElem?_getD, List.getElem?_eq_getElem (by omega)]; rfl
      · rfl
    generalize putH s n = X at *
    generalize getHPath (X.set k d) = gp at *
    generalize getHSize (X.set k d) = gs at *
    have HK := Lib.hid (And.intro hk512 hlen)
    have HD := Lib.hid (And.intro hx hy)
    have HB := Lib.hid hback
    have HA := Lib.hid hat
    have HL := Lib.hid hle
    obtain ⟨e1, e2, e3, e4, e5, q0⟩ := turn_nums a k ha hk
    have HU := Lib.hid (show _ ∧ _ ∧ _ ∧ _ ∧ _ ∧ _ ∧ _ ∧ _ ∧ _ ∧ _ from ⟨e1, e2, e3, e4, e5, q0, u1, u2, u3, u4⟩)
    clear e1 e2 e3 e4 e5 q0 u1 u2 u3 u4
    clear hE hS hX hf hlen hsum hfld hle hb8 hat hk hk512 hd hbad hchk hback hx hy hs hn ha
    go_enter Tryd.func6, Tryd.ntmps6
    go_upto_region 9 with (first
      | (go_at_call 9; refine (awake7_any F _).mono ?_; rintro e w1 ⟨rfl, hb⟩; have H1 := Lib.hid hb; clear hb)
      | (go_at_call 10; refine (P1.out _).mono ?_; rintro e w2 ⟨v1, rfl, hO, hb⟩; obtain ⟨ad, cap, rfl, -⟩ := text_pos hO.1 512 0 HK.out.2 (by decide) _ rfl; obtain ⟨g, o, sp⟩ := ad; obtain rfl : sp = none := (hO.2 _ _ _ rfl).2.1; have O2 := Lib.hid hO; have hgb := H1.out.size; have H2 := Lib.hid (below_next H1.out hb); have HG := Lib.hid (Nat.le_trans hgb (hO.2 _ _ _ rfl).1); clear hO hb hgb))
    go_loopw [10, 11] (fun z c wr => wr = w2 ∧ ∃ i : Nat, i ≤ 6 ∧ c = .int .i64 ((148 + i : Nat) : Int) ∧ z = .int .i64 ((val8 ((octs 6 S).take i) : Nat) : Int)) (fun _ c _ => 154 - (intOf c).toNat)
    case atStart => exact ⟨rfl, 0, by omega, rfl, by rw [List.take_zero, val8_nil]; rfl⟩
    case round =>
      obtain ⟨rfl, i, hi, rfl, rfl⟩ := hrel
      by_cases hlt : i < 6
      · obtain ⟨c, hc⟩ : ∃ c, (octs 6 S)[i]? = some c := ⟨(octs 6 S)[i]'(by rw [octs_length]; exact hlt), List.getElem?_eq_getElem _⟩
        have hXc : X.getD (148 + i) 0 = c := by
          rw [List.getD_eq_getElem?_getD, HA.out i (by omega), List.getElem?_append_left (by rw [octs_length]; exact hlt), hc]; rfl
        obtain ⟨c0, -, -⟩ := ownText_at O2.out (148 + i) (by rw [HK.out.2]; omega) c hXc
        have hm := octs_mem6 6 S c (List.mem_of_getElem? hc)
        obtain ⟨V, hV⟩ : ∃ V, V = val8 ((octs 6 S).take i) := ⟨_, rfl⟩
        have hVlt : V < 262144 := by rw [hV]; exact val8_take6 S i
        have hnext := val8_next (octs 6 S) i c hc
        rw [← hV] at hnext ⊢
        obtain ⟨yy, hyy⟩ : ∃ yy : Nat, yy = c.toNat := ⟨_, rfl⟩
        rw [← hyy] at c0 hm hnext
        obtain ⟨j, hj⟩ : ∃ j, j = 148 + i := ⟨_, rfl⟩
        obtain ⟨q1, q2, w1, hj154, hj1⟩ := place_nums i j hlt hj
        have HJ := Lib.hid (And.intro hj154 hj1)
        rw [← hj] at c0 ⊢
        clear hj154 hj1
        obtain ⟨dd, p, q, f1, f2, f3, f4, f5, f6, f7, f8, f9, f10, f11, hq⟩ := dig_nums V yy hVlt hm.1 hm.2
        have HQ := Lib.hid (show q = val8 ((octs 6 S).take (i + 1)) by rw [hnext, hq])
        clear hj hc hXc hm hV hVlt hnext hyy hq
        go_wp2
        clear f1 f2 f3 f4 f5 f6 f7 f8 f9 f10 f11
        refine ⟨⟨trivial, i + 1, hlt, by rw [← HJ.out.2]; rfl, by rw [← HQ.out]⟩, ?_⟩
        exact measure_dn j 154 HJ.out.1
      · obtain rfl : i = 6 := by omega
        have hVS : val8 ((octs 6 S).take 6) = S := by
          rw [List.take_of_length_le (by rw [octs_length]; exact Nat.le_refl 6), val8_octs 6 S (by have h8 : (8 : Nat) ^ 6 = 262144 := (by decide); have := HL.out; omega)]
        rw [hVS]
        clear hVS
        obtain ⟨e1, e2, e3, e4, e5, q0, u1, u2, u3, u4⟩ := HU.out
        obtain ⟨c0, f0, -⟩ := ownText_at O2.out k (by rw [HK.out.2]; exact HK.out.1) _ rfl
        rw [← HD.out.1] at c0
        go_upto_region 14 with fail
        have O3 := Lib.hid (ownText_set O2.out k (by rw [HK.out.2]; exact HK.out.1) d (.int .u8 (y : Int)) (by rw [HD.out.2]))
        have H3 := Lib.hid (H2.out.setCell (p := ⟨g, o + k, none⟩) HG.out (.int .u8 (y : Int)))
        clear c0 f0
        generalize World.setCell _ ⟨g, o + k, none⟩ (.int .u8 (y : Int)) = w3 at *
        go_upto_region 15 with (first | (go_at_call 12; refine (G1.out _ _ O3.out.1).mono ?_; rintro e w4 ⟨rfl, hb⟩; have O4 := Lib.hid (ownText_keep O3.out (by rw [List.length_set, HK.out.2]; decide) hb); have H4 := Lib.hid (below_next H3.out hb); clear hb))
        obtain ⟨c1, f1, -⟩ := ownText_at O4.out k (by rw [List.length_set, HK.out.2]; exact HK.out.1) d (by rw [List.getD_eq_getElem?_getD, List.getElem?_set_self (by rw [HK.out.2]; exact HK.out.1)]; rfl)
        rw [← HD.out.2] at c1
        go_upto_region 16 with fail
        have O5 := Lib.hid (ownText_set O4.out k (by rw [List.length_set, HK.out.2]; exact HK.out.1) (X.getD k 0) (.int .u8 (x : Int)) (by rw [HD.out.1]))
        rw [HB.out] at O5
        have H5 := Lib.hid (H4.out.setCell (p := ⟨g, o + k, none⟩) HG.out (.int .u8 (x : Int)))
        clear c1 f1 u1 u2 u3 u4
        generalize World.setCell _ ⟨g, o + k, none⟩ (.int .u8 (x : Int)) = w5 at *
        obtain ⟨b1, -, -⟩ := ownText_at O5.out 154 (by rw [HK.out.2]; decide) 0 (by rw [List.getD_eq_getElem?_getD, HA.out 6 (by decide), List.getElem?_append_right (by rw [octs_length]; exact Nat.le_refl 6), octs_length]; rfl)
        obtain ⟨b2, -, -⟩ := ownText_at O5.out 155 (by rw [HK.out.2]; decide) 32 (by rw [List.getD_eq_getElem?_getD, HA.out 7 (by decide), List.getElem?_append_right (by rw [octs_length]; decide), octs_length]; rfl)
        have b1' : w5.cell? ⟨g, o + 154, none⟩ = some (.int .u8 0) := b1
        have b2' : w5.cell? ⟨g, o + 155, none⟩ = some (.int .u8 32) := b2
        clear b1 b2
        go_wp2_with (first | (go_at_call 14; refine (C1.out _ _ O5.out.1).mono ?_; rintro e w6 ⟨rfl, rfl⟩))
        go_ret
        exact ⟨rfl, H5.out⟩
  · have dE : (putHErr s n != 0) = true := by simp; exact hE
    generalize putHErr s n = E at *
    clear hE hs hn
    go_enter Tryd.func6, Tryd.ntmps6
    go_wp2_with (first
      | (go_at_call 9; refine (awake7_any F _).mono ?_; rintro e w1 ⟨rfl, hb⟩; have H1 := Lib.hid hb; clear hb)
      | (go_at_call 10; refine (P1.out _).mono ?_; rintro e w2 ⟨v1, rfl, -, hb⟩; have H2 := Lib.hid (below_next H1.out hb); clear hb H1))
    go_ret
    exact ⟨rfl, H2.out⟩
end Go.Proofs.YtbjekhhefepnlaaDoor
