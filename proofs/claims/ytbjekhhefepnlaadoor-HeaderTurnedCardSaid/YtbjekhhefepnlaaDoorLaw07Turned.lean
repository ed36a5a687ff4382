/-
The walk of the statement that no byte of a header may be another one.
-/
import Derived.Test.YtbjekhhefepnlaaDoorLaw07Sums
import Derived.Test.YtbjekhhefepnlaaDoorLaw07Back
namespace Go.Proofs.YtbjekhhefepnlaaDoor
open Go.RowKit
def turnC (s : List UInt8) (n : Int) (a m : Nat) : Array Value := #[.string (str s), .int .i64 n, .int .u16 (a : Int), .int .u8 (m : Int)]
theorem xor_u8 (c m : UInt8) : bits .xor .u8 (c.toNat : Int) (m.toNat : Int) = ((c ^^^ m).toNat : Int) := by
  have h1 := UInt8.toNat_lt c
  have h2 := UInt8.toNat_lt m
  have h3 := UInt8.toNat_lt (c ^^^ m)
  simp only [bits, BitVec.ofInt_natCast, BitVec.toNat_xor, BitVec.toNat_ofNat]
  rw [show c.toNat % 2 ^ IntKind.bits .u8 = c.toNat from Nat.mod_eq_of_lt h1, show m.toNat % 2 ^ IntKind.bits .u8 = m.toNat from Nat.mod_eq_of_lt h2, ← UInt8.toNat_xor, IntKind.wrap_u8]
  omega
theorem xor_byte (c m : UInt8) (hm : m ≠ 0) : ∃ (x y : Nat) (d : UInt8), x = c.toNat ∧ y = d.toNat ∧ d ≠ c ∧ bits .xor .u8 (x : Int) (m.toNat : Int) = (y : Int) ∧ bits .xor .u8 (y : Int) (m.toNat : Int) = (x : Int) := by
  refine ⟨c.toNat, (c ^^^ m).toNat, c ^^^ m, rfl, rfl, fun e => hm ?_, xor_u8 c m, ?_⟩
  · have := congrArg (fun z => c ^^^ z) e
    simpa [← UInt8.xor_assoc] using this
  · rw [xor_u8, UInt8.xor_assoc, UInt8.xor_self, UInt8.xor_zero]
theorem turned_set {s : List UInt8} {n : Int} {k : Nat} {d : UInt8} (h : putHErr s n = 0) (hk : k < 512) (hd : d ≠ (putH s n).getD k 0) : getHErr ((putH s n).set k d) = 2 ∨ (getHErr ((putH s n).set k d) = 0 ∧ (getHPath ((putH s n).set k d) ≠ s ∨ getHSize ((putH s n).set k d) ≠ n)) := by
  have hl := putH_len h
  refine turned (by rw [List.length_set, hl]) fun e => hd ?_
  have := congrArg (fun l : List UInt8 => l[k]?) e
  rw [List.getElem?_set_self (by omega)] at this
  rw [List.getD_eq_getElem?_getD, ← this]; rfl
theorem set_back {X : List UInt8} {k : Nat} {d : UInt8} (hk : k < X.length) : (X.set k d).set k (X.getD k 0) = X := by
  rw [List.set_set]
  apply List.ext_getElem?
  intro i
  rw [List.getElem?_set]
  split
  · rename_i e; subst e; rw [List.getD_eq_getElem?_getD, List.getElem?_eq_getElem hk]; rfl
  · rfl
set_option maxRecDepth 100000 in
set_option maxHeartbeats 8000000 in
theorem headerTurned_walk (F : HeaderFace) (s : List UInt8) (n : Int) (a : Nat) (m : UInt8) (ha : a < 65536) (hs : s.length < 1152921504606846976) (hn : -9223372036854775808 ≤ n ∧ n < 9223372036854775808) (w : World) :
    Calls Tryd.prog 5 #[.agg (turnC s n a m.toNat)] w fun e w' => e = .returned (.bool true) ∧ Below w.heap.size w w' := by
  have P1 := Lib.hid (fun w => F.put w s n hs hn.1 hn.2)
  have T0 := Lib.hid (heap_last w (.cells (turnC s n a m.toNat) 36 (0, 0)))
  have B0 := Lib.hid ((Below.refl w.heap.size w).alloc (Nat.le_refl _) (.cells (turnC s n a m.toNat) 36 (0, 0)))
  have Z0 := Lib.hid (show (w.alloc (.cells (turnC s n a m.toNat) 36 (0, 0))).heap.size = w.heap.size + 1 from size_of_alloc _ _)
  by_cases hE : putHErr s n = 0
  · by_cases hm : m = 0
    · have HM0 := Lib.hid (show m.toNat = 0 by rw [hm]; rfl)
      clear hm
      rw [hE] at P1
      generalize putH s n = X at *
      clear hE hs hn
      go_enter Tryd.func5, Tryd.ntmps5
      go_upto_region 2 with (first | (go_at_call 9; refine (awake7_any F _).mono ?_; rintro e w1 ⟨rfl, hb⟩; have H1 := Lib.hid (below_next B0.out hb); have A1 := Lib.hid ((hb.block w.heap.size (by rw [Z0.out]; omega)).trans T0.out); clear hb))
      have c0 := cell_of_row w1 w.heap.size 0 _ _ _ A1.out
      have c1 := cell_of_row w1 w.heap.size 1 _ _ _ A1.out
      have c2 := cell_of_row w1 w.heap.size 2 _ _ _ A1.out
      have c3 := cell_of_row w1 w.heap.size 3 _ _ _ A1.out
      simp only [turnC, List.getElem?_toArray, List.getElem?_cons_zero, List.getElem?_cons_succ] at c0 c1 c2 c3
      rw [HM0.out] at c3
      go_wp2_with (first | (go_at_call 10; refine (P1.out _).mono ?_; rintro e w2 ⟨v1, rfl, -, hb⟩; have H2 := Lib.hid (below_next H1.out hb); clear hb))
      go_ret
      exact ⟨rfl, H2.out⟩
    · obtain ⟨i0, hi, hz0, hz1, hz2⟩ := info_parts infoByte
      obtain ⟨k, hk⟩ : ∃ k, k = a % 512 := ⟨_, rfl⟩
      have hk512 : k < 512 := by omega
      have hlen := putH_len hE
      obtain ⟨x, y, d, hx, hy, hd, u1, u2⟩ := xor_byte ((putH s n).getD k 0) m hm
      have hturn := turned_set hE hk512 hd
      have G1 := Lib.hid (fun w v hv => F.get w v ((putH s n).set k d) (by rw [List.length_set, hlen]; decide) hv)
      have hlong := longer (x := putH s n ++ [m]) (by rw [List.length_append, hlen]; simp)
      have hlb := getH_bad (b := putH s n ++ [m]) (by omega)
      have G2 := Lib.hid (fun w v hv => F.get w v (putH s n ++ [m]) (by rw [List.length_append, hlen]; simp) hv)
      rw [hlong, hlb.1, hlb.2] at G2
      have htk : ((putH s n).take k).length = k := by rw [List.length_take]; omega
      have hshort := shorter (x := (putH s n).take k) (by omega)
      have hsb := getH_bad (b := (putH s n).take k) (by omega)
      have G3 := Lib.hid (fun w v hv => F.get w v ((putH s n).take k) (by omega) hv)
      rw [hshort, hsb.1, hsb.2] at G3
      have HBk := Lib.hid (set_back (X := putH s n) (k := k) (d := d) (by omega))
      rw [hE] at P1
      have dm : ((m.toNat : Int) == 0) = false := by
        rw [beq_eq_false_iff_ne]; intro h; exact hm (UInt8.toNat_inj.1 (by rw [show (0 : UInt8).toNat = 0 from rfl]; omega))
      have hs1 : (str s).toList = s := str_toList s
      generalize putH s n = X at *
      have HK := Lib.hid (And.intro hk512 hlen)
      have HD := Lib.hid (And.intro hx hy)
      obtain ⟨gp, hgp⟩ : ∃ gp, gp = getHPath (X.set k d) := ⟨_, rfl⟩
      obtain ⟨gs, hgs⟩ : ∃ gs, gs = getHSize (X.set k d) := ⟨_, rfl⟩
      obtain ⟨ge, hge⟩ : ∃ ge, ge = getHErr (X.set k d) := ⟨_, rfl⟩
      rw [← hgp, ← hgs, ← hge] at G1 hturn
      have hgp1 : (str gp).toList = gp := str_toList gp
      have HT := Lib.hid hturn
      obtain ⟨e1, e2, e3, e4, e5, q0⟩ := turn_nums a k ha hk
      clear hE hm hk hk512 hlen hx hy hd hturn hlong hlb htk hshort hsb hgp hgs hge hs hn ha
      go_enter Tryd.func5, Tryd.ntmps5
      go_upto_region 2 with (first | (go_at_call 9; refine (awake7_any F _).mono ?_; rintro e w1 ⟨rfl, hb⟩; have H1 := Lib.hid (below_next B0.out hb); have A1 := Lib.hid ((hb.block w.heap.size (by rw [Z0.out]; omega)).trans T0.out); clear hb))
      have c0 := cell_of_row w1 w.heap.size 0 _ _ _ A1.out
      have c1 := cell_of_row w1 w.heap.size 1 _ _ _ A1.out
      have c2 := cell_of_row w1 w.heap.size 2 _ _ _ A1.out
      have c3 := cell_of_row w1 w.heap.size 3 _ _ _ A1.out
      simp only [turnC, List.getElem?_toArray, List.getElem?_cons_zero, List.getElem?_cons_succ] at c0 c1 c2 c3
      go_upto_region 12 with (first | (go_at_call 10; refine (P1.out _).mono ?_; rintro e w2 ⟨v1, rfl, hO, hb⟩; obtain ⟨ad, cap, rfl, -⟩ := text_pos hO.1 512 0 HK.out.2 (by decide) _ rfl; obtain ⟨g, o, sp⟩ := ad; obtain rfl : sp = none := (hO.2 _ _ _ rfl).2.1; have O2 := Lib.hid hO; have hgb := H1.out.size; have H2 := Lib.hid (below_next H1.out hb); have HG := Lib.hid (Nat.le_trans hgb (hO.2 _ _ _ rfl).1); clear hO hb hgb c0 c1 c2 c3))
      obtain ⟨c0, f0, -⟩ := ownText_at O2.out k (by rw [HK.out.2]; exact HK.out.1) _ rfl
      rw [← HD.out.1] at c0
      go_upto_region 13 with fail
      have O3 := Lib.hid (ownText_set O2.out k (by rw [HK.out.2]; exact HK.out.1) d (.int .u8 (y : Int)) (by rw [HD.out.2]))
      have H3 := Lib.hid (H2.out.setCell (p := ⟨g, o + k, none⟩) HG.out (.int .u8 (y : Int)))
      clear c0 f0
      generalize World.setCell _ ⟨g, o + k, none⟩ (.int .u8 (y : Int)) = w3 at *
      go_upto_region 14 with (first | (go_at_call 12; refine (G1.out _ _ O3.out.1).mono ?_; rintro e w4 ⟨rfl, hb⟩; have O4 := Lib.hid (ownText_keep O3.out (by rw [List.length_set, HK.out.2]; decide) hb); have H4 := Lib.hid (below_next H3.out hb); clear hb))
      obtain ⟨c1, f1, -⟩ := ownText_at O4.out k (by rw [List.length_set, HK.out.2]; exact HK.out.1) d (by rw [List.getD_eq_getElem?_getD, List.getElem?_set_self (by rw [HK.out.2]; exact HK.out.1)]; rfl)
      rw [← HD.out.2] at c1
      go_upto_region 15 with fail
      have O5 := Lib.hid (ownText_set O4.out k (by rw [List.length_set, HK.out.2]; exact HK.out.1) (X.getD k 0) (.int .u8 (x : Int)) (by rw [HD.out.1]))
      rw [HBk.out] at O5
      have H5 := Lib.hid (H4.out.setCell (p := ⟨g, o + k, none⟩) HG.out (.int .u8 (x : Int)))
      clear c1 f1 u1 u2
      generalize World.setCell _ ⟨g, o + k, none⟩ (.int .u8 (x : Int)) = w5 at *
      have h512 := HK.out.2
      go_upto_region 16 with (first
        | (at_builtin; refine append_owns_list rfl (.tmp 73) (.tmp 74) 22 rfl w5.heap.size 5 i0 Tryd.underlying22 hi hz0 hz1 hz2 _ [] X rfl (ownsB_nil w5 5 w5.heap.size (Nat.le_refl _)) _ rfl (text_keep O5.out.1 ((Below.refl _ _).alloc (Nat.le_refl _) _)) (by rw [h512]; decide) (by simp) ?_; intro v6 w6 ho6 hg6; obtain ⟨g6, cap6, rfl, -⟩ := ownsB_slice ho6; have hb6 := below_grown ((Below.refl w5.heap.size w5).alloc (Nat.le_refl _) _) hg6 (by simp) (fun k hk => (ownsB_lt (ownsB_nil w5 5 w5.heap.size (Nat.le_refl _)) k hk).1); have O6 := Lib.hid (ownText_keep O5.out (by rw [h512]; decide) hb6); have H6 := Lib.hid (below_next H5.out hb6); have HW6 := Lib.hid (show OwnsB w6 w5.heap.size 5 (.slice (some ⟨g6, 0, none⟩) 512 cap6) X from (by have h := ho6; rw [List.nil_append, h512] at h; exact h)); have HB6 := Lib.hid hb6; clear ho6 hg6 hb6)
        | (at_builtin; refine append_owns_list rfl (.tmp 75) (.tmp 77) 22 rfl w5.heap.size 5 i0 Tryd.underlying22 hi hz0 hz1 hz2 _ X [m] rfl (ownsB_alloc HW6.out _) _ rfl (text_byte w6 5 m m.toNat rfl) (by rw [h512]; simp) (by have := HB6.out.size; simp; omega) ?_; intro v7 w7 ho7 hg7; have hb7 := below_grown (HB6.out.alloc HB6.out.size _) hg7 (by have := HB6.out.size; simp; omega) (fun k hk => (ownsB_lt HW6.out k hk).1); have O7 := Lib.hid (ownText_keep O5.out (by rw [h512]; decide) hb7); have H7 := Lib.hid (below_next H5.out hb7); have HW7 := Lib.hid (ownsB_has ho7); clear ho7 hg7 hb7)
        | (go_at_call 12; refine (G2.out _ _ HW7.out).mono ?_; rintro e w8 ⟨rfl, hb⟩; have O8 := Lib.hid (text_keep O7.out.1 hb); have H8 := Lib.hid (below_next H7.out hb); clear hb))
      have qc : (k : Int) ≤ (cap : Int) := by have h1 := (text_cap O8.out).2; have h2 := HK.out.1; omega
      have T9 := Lib.hid (text_take O8.out k (by rw [h512]; exact Nat.le_of_lt HK.out.1))
      go_upto_region 17 with (first | (go_at_call 12; refine (G3.out _ _ T9.out).mono ?_; rintro e w9 ⟨rfl, hb⟩; have H9 := Lib.hid (below_next H8.out hb); clear hb))
      clear h512 qc q0 e1 e2 e3 e4 e5 dm
      rcases HT.out with h2 | ⟨h0, h1⟩
      · subst h2
        go_wp2
        go_ret
        exact ⟨rfl, H9.out⟩
      · subst h0
        by_cases hps : gp = s
        · have t1 : (gp == s) = true := by rw [beq_iff_eq]; exact hps
          have t2 : (gs != n) = true := by simp; exact h1.resolve_left (fun h => h hps)
          clear h1 hps
          go_wp2
          go_ret
          exact ⟨rfl, H9.out⟩
        · have t1 : (gp == s) = false := by rw [beq_eq_false_iff_ne]; exact hps
          clear h1 hps
          go_wp2
          go_ret
          exact ⟨rfl, H9.out⟩
  · have dE : (putHErr s n != 0) = true := by simp; exact hE
    generalize putHErr s n = E at *
    clear hE hs hn
    go_enter Tryd.func5, Tryd.ntmps5
    go_upto_region 2 with (first | (go_at_call 9; refine (awake7_any F _).mono ?_; rintro e w1 ⟨rfl, hb⟩; have H1 := Lib.hid (below_next B0.out hb); have A1 := Lib.hid ((hb.block w.heap.size (by rw [Z0.out]; omega)).trans T0.out); clear hb))
    have c0 := cell_of_row w1 w.heap.size 0 _ _ _ A1.out
    have c1 := cell_of_row w1 w.heap.size 1 _ _ _ A1.out
    have c2 := cell_of_row w1 w.heap.size 2 _ _ _ A1.out
    have c3 := cell_of_row w1 w.heap.size 3 _ _ _ A1.out
    simp only [turnC, List.getElem?_toArray, List.getElem?_cons_zero, List.getElem?_cons_succ] at c0 c1 c2 c3
    go_wp2_with (first | (go_at_call 10; refine (P1.out _).mono ?_; rintro e w2 ⟨v1, rfl, -, hb⟩; have H2 := Lib.hid (below_next H1.out hb); clear hb))
    go_ret
    exact ⟨rfl, H2.out⟩
end Go.Proofs.YtbjekhhefepnlaaDoor
