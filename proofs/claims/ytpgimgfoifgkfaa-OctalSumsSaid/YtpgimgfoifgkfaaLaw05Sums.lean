/-
The walk of the statement on a header's sum: what it hangs on, and what a byte more, or bytes behind, make of it.
-/
import Derived.Test.YtpgimgfoifgkfaaOctalFace
import Derived.Test.YtpgimgfoifgkfaaRef05
import Derived.BigQuiet
import Derived.Deep.DeepCutAuto
namespace Go.Proofs.Ytpgimgfoifgkfaa
open Go.RowKit
theorem infoByteS : (Try.prog.info? 5).map (fun i => (i.zero, i.size, i.bytes)) = some (some (.int .u8 0), 1, 1) := by kernel_rfl
/-- An empty slice that was just written out. -/
theorem ownsB_nil (w : World) (e : TypeId) (base : Nat) (hb : base ≤ w.heap.size) : OwnsB (w.alloc (.cells #[] e (0, 0))) base e (.slice (some ⟨w.heap.size, 0, none⟩) 0 0) [] :=
  ⟨w.heap.size, 0, #[], (0, 0), rfl, hb, heap_last _ _, .inl rfl, Nat.le_refl 0, by decide, rfl, rfl⟩
/-- A byte of such a slice, and that it may be written. -/
theorem ownsB_cell {w : World} {base : Nat} {e : TypeId} {ao : Option Addr} {n cap : Nat} {l : List UInt8} (h : OwnsB w base e (.slice ao n cap) l) (k : Nat) (hk : k < l.length) (c : UInt8) (hc : l.getD k 0 = c) :
    ∃ g, ao = some ⟨g, 0, none⟩ ∧ w.cell? ⟨g, k, none⟩ = some (.int .u8 (c.toNat : Int)) ∧ w.frozen? ⟨g, k, none⟩ = false ∧ base ≤ g := by
  obtain ⟨g, cap', cur, fr, e1, hb, hg, hm, hn, hcm, hs, ht⟩ := h
  cases e1
  have hcell : cur[k]? = some (.int .u8 (c.toNat : Int)) := by
    have := congrArg (·[k]?) ht
    simp only [List.getElem?_take, if_pos hk, List.getElem?_map] at this
    rw [List.getElem?_eq_getElem hk] at this
    rw [← Array.getElem?_toList, this]
    subst hc
    simp [hk]
  refine ⟨g, rfl, by simp only [World.cell?, hg]; exact hcell, ?_, hb⟩
  rcases hm with rfl | hm
  · simp [World.frozen?, hg]
  · simp [World.frozen?, hg]; intro h; omega
/-- Such a slice with one byte written over. -/
theorem ownsB_set {w : World} {base : Nat} {e : TypeId} {g n cap : Nat} {l : List UInt8} (h : OwnsB w base e (.slice (some ⟨g, 0, none⟩) n cap) l) (k : Nat) (c : UInt8) (v : Value) (hv : v = .int .u8 (c.toNat : Int)) :
    OwnsB (w.setCell ⟨g, k, none⟩ v) base e (.slice (some ⟨g, 0, none⟩) n cap) (l.set k c) ∧ Solo g w (w.setCell ⟨g, k, none⟩ v) := by
  subst hv
  obtain ⟨g', cap', cur, fr, e1, hb, hg, hm, hn, hcm, hs, ht⟩ := h
  cases e1
  rw [setCell_eq_setRow w g k cur e fr _ hg]
  refine ⟨⟨g, cap, _, fr, by rw [List.length_set], hb, setRow_heap w g cur _ e _ hg, by simpa [Clear] using hm, by rw [List.length_set]; exact hn, hcm, by simpa using hs, ?_⟩, solo_setRow w g _⟩
  rw [List.length_set, Array.toList_setIfInBounds, List.take_set, ht, List.map_set]
theorem solo_below {g B : Nat} {w0 w w' : World} (hb : Below B w0 w) (h : Solo g w w') (hg : B ≤ g) : Below B w0 w' :=
  hb.trans ⟨h.os, h.tape, h.output, Nat.le_of_eq h.size.symm, fun j hj => h.block j (by omega)⟩
theorem plain_next (c : List UInt8) (k : Nat) : plainTo c (k + 1) = plainTo c k + (c.getD k 0).toNat := plainTo_succ c k
/-- What is known of the sums. -/
theorem sums_facts (b c : List UInt8) (k : Nat) (hk : k < b.length) (hb : b.length ≤ 2000) (hc : c.length ≤ 2000) (x y : Nat) (hx : x = (b.getD k 0).toNat) (d : UInt8) (hy : d.toNat = y) :
    ∃ S1 S2 S3 : Nat, IntKind.i64.wrap (sumL (b.set k d) : Int) = (S1 : Int) ∧ IntKind.i64.wrap (sumL b : Int) = (S2 : Int) ∧ IntKind.i64.wrap (sumL (b ++ c) : Int) = (S3 : Int) ∧
      (S1 : Int) - (S2 : Int) = (if 148 ≤ k ∧ k ≤ 155 then 0 else (y : Int) - (x : Int)) ∧ S1 < 1000000 ∧ S2 < 1000000 ∧ (156 ≤ b.length → S3 = S2 + plainTo c c.length) ∧ plainTo c c.length < 1000000 := by
  have h1 := sumTo_le (b.set k d) (b.set k d).length
  rw [List.length_set] at h1
  have h2 := sumTo_le b b.length
  have h3 := sumTo_le (b ++ c) (b ++ c).length
  rw [List.length_append] at h3
  have h4 := plainTo_le c c.length
  have e1 : sumL (b.set k d) = sumTo (b.set k d) b.length := by rw [sumL, List.length_set]
  have e2 : sumL b = sumTo b b.length := rfl
  have e3 : sumL (b ++ c) = sumTo (b ++ c) (b.length + c.length) := by rw [sumL, List.length_append]
  refine ⟨sumL (b.set k d), sumL b, sumL (b ++ c), by rw [IntKind.wrap_i64]; omega, by rw [IntKind.wrap_i64]; omega, by rw [IntKind.wrap_i64]; omega, ?_, by omega, by omega, fun h => sum_append b c h, by omega⟩
  rw [sum_set b k d hk, hy, hx]
theorem wrap_mid (z : Int) (h1 : -4611686018427387904 ≤ z) (h2 : z < 4611686018427387904) : IntKind.i64.wrap z = z := by rw [IntKind.wrap_i64]; omega
set_option maxRecDepth 100000 in
set_option maxHeartbeats 8000000 in
theorem octalSums_walk (F : OctalFace) (b c : List UInt8) (a : Nat) (ha : a < 65536) (hb : b.length < 4611686018427387904) (hc : c.length < 4611686018427387904) (v0 v1 : Value) (w : World) (hv0 : HasText w v0 b) (hv1 : HasText w v1 c) :
    Calls Try.prog 5 #[v0, v1, .int .u16 (a : Int)] w fun e w' => e = .returned (.bool true) ∧ Below w.heap.size w w' := by
  have HV0 := Lib.hid hv0
  have HV1 := Lib.hid hv1
  obtain ⟨n, hn⟩ : ∃ n, b.length = n := ⟨_, rfl⟩
  obtain ⟨m, hm⟩ : ∃ m, c.length = m := ⟨_, rfl⟩
  obtain ⟨ao0, cap0, rfl⟩ := text_shape hv0 n hn
  obtain ⟨ao1, cap1, rfl⟩ := text_shape hv1 m hm
  clear hv0 hv1
  have AW := Lib.hid (awake5_any F)
  by_cases hbad : n = 0 ∨ 2000 < n ∨ 2000 < m
  · have HP := Lib.hid (show ∀ Q : Prop, (((n : Int) == 0) = true → Q) → (((n : Int) == 0) = false → decide (2000 < (n : Int)) = true → Q) → (((n : Int) == 0) = false → decide (2000 < (n : Int)) = false → decide (2000 < (m : Int)) = true → Q) → Q from fun Q c1 c2 c3 => by
      by_cases x1 : n = 0
      · exact c1 (by rw [beq_iff_eq]; omega)
      · by_cases x2 : 2000 < n
        · exact c2 (beq_eq_false_iff_ne.2 (by omega)) (decide_eq_true (by omega))
        · exact c3 (beq_eq_false_iff_ne.2 (by omega)) (decide_eq_false (by omega)) (decide_eq_true (by omega)))
    clear hbad ha hb hc hn hm
    refine HP.out _ (fun d1 => ?_) (fun d1 d2 => ?_) (fun d1 d2 d3 => ?_)
    all_goals
      clear HP
      go_enter Try.func5, Try.ntmps5
      go_wp2_with (first | (go_at_call 7; refine (AW.out _).mono ?_; rintro e w1 ⟨rfl, hb⟩; have H1 := Lib.hid hb; clear hb))
      go_ret
      exact ⟨rfl, H1.out⟩
  · obtain ⟨i0, hi, hz0, hz1, hz2⟩ := info_parts infoByteS
    obtain ⟨k, hk⟩ : ∃ k : Nat, k = a % n := ⟨_, rfl⟩
    have hkn : k < n := by rw [hk]; exact Nat.mod_lt _ (by omega)
    obtain ⟨c0, hc0⟩ : ∃ c0, b.getD k 0 = c0 := ⟨_, rfl⟩
    obtain ⟨x, hx⟩ : ∃ x : Nat, x = c0.toNat := ⟨_, rfl⟩
    have hx2 := UInt8.toNat_lt c0
    obtain ⟨y, hy⟩ : ∃ y : Nat, y = (x + 1) % 256 := ⟨_, rfl⟩
    have hd : (UInt8.ofNat y).toNat = y := by rw [UInt8.toNat_ofNat', Nat.mod_eq_of_lt (by omega)]
    obtain ⟨S1, S2, S3, s1, s2, s3, s4, s5, s6, s7, s8⟩ := sums_facts b c k (by omega) (by omega) (by omega) x y (by rw [hx, hc0]) (UInt8.ofNat y) hd
    obtain ⟨D, hD⟩ : ∃ D : Int, (y : Int) - (x : Int) = D := ⟨_, rfl⟩
    obtain ⟨M, hM⟩ : ∃ M : Int, M = if 148 ≤ k ∧ k ≤ 155 then 0 else D := ⟨_, rfl⟩
    obtain ⟨L, hL⟩ : ∃ L : Nat, plainTo c m = L := ⟨_, rfl⟩
    rw [hD, ← hM] at s4
    rw [hn] at s7
    rw [hm, hL] at s7 s8
    have C1 := Lib.hid (fun w v hv => F.check w v (b.set k (UInt8.ofNat y)) (by rw [List.length_set]; omega) hv)
    have C2 := Lib.hid (fun w v hv => F.check w v b hb hv)
    have C3 := Lib.hid (fun w v hv => F.check w v (b ++ c) (by rw [List.length_append]; omega) hv)
    rw [s1] at C1
    rw [s2] at C2
    rw [s3] at C3
    have f1 := wrap_mid (a : Int) (by omega) (by omega)
    have f2 : (a : Int).tmod (n : Int) = (k : Int) := by rw [Int.tmod_eq_emod_of_nonneg (by omega), hk]; omega
    have f3 : ((n : Int) == 0) = false := beq_eq_false_iff_ne.2 (by omega)
    have f4 : decide (2000 < (n : Int)) = false := decide_eq_false (by omega)
    have f5 : decide (2000 < (m : Int)) = false := decide_eq_false (by omega)
    have f6 : (k : Int) < (n : Int) := by omega
    have f7 : (x : Int) + 1 = ((x + 1 : Nat) : Int) := by omega
    have f8 : IntKind.u8.wrap ((x : Int) + 1) = (y : Int) := by rw [IntKind.wrap_u8, hy]; omega
    have f9 := wrap_mid (y : Int) (by omega) (by omega)
    have f10 := wrap_mid (x : Int) (by omega) (by omega)
    have f11 := wrap_mid D (by omega) (by omega)
    have f12 : wrap64 D = D := by rw [wrap64]; omega
    have HF := Lib.hid (And.intro hn (And.intro hm (And.intro hkn (And.intro hc0 (And.intro hx (And.intro hd (And.intro hM (And.intro s4 (And.intro s5 (And.intro s6 (And.intro s7 (And.intro s8 hL))))))))))))
    have HL := Lib.hid (show n ≤ 2000 ∧ m ≤ 2000 by omega)
    clear hbad ha hb hc hn hm hk hkn hc0 hx hx2 hy hd s1 s2 s3 s4 s5 s6 s7 s8 hL hM f7
    go_enter Try.func5, Try.ntmps5
    go_upto_region 6 with (first
      | (go_at_call 7; refine (AW.out _).mono ?_; rintro e w1 ⟨rfl, hb⟩; have H1 := Lib.hid hb; clear hb)
      | (at_builtin; refine append_owns_list rfl (.tmp 33) (.tmp 34) 22 rfl w1.heap.size 5 i0 Try.underlying22 hi hz0 hz1 hz2 _ [] b rfl (ownsB_nil w1 _ _ (Nat.le_refl _)) _ rfl (text_keep (text_keep HV0.out H1.out) ((Below.refl _ _).alloc (Nat.le_refl _) _)) (by have := HF.out.1; have := HL.out; simp; omega) (by simp) ?_; intro v2 w2 ho hg; have hb2 := below_grown ((Below.refl w1.heap.size w1).alloc (Nat.le_refl _) (.cells #[] 5 (0, 0))) hg (by simp) (fun j hj => Nat.le_of_eq (Option.some.inj (show some w1.heap.size = some j from hj))); have HO := Lib.hid ho; have HB2 := Lib.hid hb2; clear ho hg hb2))
    have ho := HO.out
    rw [List.nil_append] at ho
    obtain ⟨g, cap2, rfl, hgB⟩ := ownsB_slice ho
    rw [HF.out.1] at ho
    rw [show b.length = n from HF.out.1]
    obtain ⟨g', e1, hcell, hfro, -⟩ := ownsB_cell ho k (by rw [HF.out.1]; exact HF.out.2.2.1) c0 HF.out.2.2.2.1
    cases e1
    rw [← HF.out.2.2.2.2.1] at hcell
    have HO2 := Lib.hid ho
    clear ho HO
    go_upto_region 7 with fail
    obtain ⟨ho3, hsolo⟩ := ownsB_set HO2.out k (UInt8.ofNat y) (.int .u8 (y : Int)) (by rw [HF.out.2.2.2.2.2.1])
    have hb3 := solo_below HB2.out hsolo hgB
    clear hcell hfro hsolo
    generalize w2.setCell ⟨g, k, none⟩ (.int .u8 (y : Int)) = w3 at *
    obtain ⟨g', e1, c1, -, -⟩ := ownsB_cell ho3 k (by rw [List.length_set, HF.out.1]; exact HF.out.2.2.1) (UInt8.ofNat y) (by
      have := HF.out.2.2.1
      rw [List.getD_eq_getElem?_getD, List.getElem?_set_self (by rw [HF.out.1]; exact this)]; rfl)
    cases e1
    rw [HF.out.2.2.2.2.2.1] at c1
    have HW0 := Lib.hid (text_keep (text_keep HV0.out H1.out) hb3)
    obtain ⟨ad, cap', e1, c2⟩ := text_pos HW0.out n k HF.out.1 HF.out.2.2.1 c0 HF.out.2.2.2.1
    cases e1
    rw [← HF.out.2.2.2.2.1] at c2
    have HO3 := Lib.hid ho3
    have HB3 := Lib.hid (below_next H1.out hb3)
    have HV1' := Lib.hid (text_keep (text_keep HV1.out H1.out) hb3)
    clear ho3 hb3 HO2 HB2 H1 HV0 HV1
    go_quiet (fail)
    have HO4 := Lib.hid (show OwnsB (w3.drewN nq) w1.heap.size 5 (.slice (some ⟨g, 0, none⟩) n cap2) (b.set k (UInt8.ofNat y)) from HO3.out)
    have HW4 := Lib.hid (text_keep HW0.out (below_draws (Below.refl _ _) nq))
    have HX4 := Lib.hid (text_keep HV1'.out (below_draws (Below.refl _ _) nq))
    have HB4 := Lib.hid (below_draws HB3.out nq)
    clear HO3 HW0 HV1' HB3 c1 c2
    generalize w3.drewN nq = w4 at *
    obtain ⟨B, hB⟩ : ∃ B : Bool, B = decide (148 ≤ k ∧ k ≤ 155) := ⟨_, rfl⟩
    have HBB := Lib.hid hB
    clear hB
    go_upto_region 8 with fail
    go_cut [60] (fun s60 wx => s60 = .bool B ∧ wx = w4)
    case first =>
      rename_i JJ KK hJJ hKK
      have HJJ := Lib.hid hJJ
      have HKK := Lib.hid hKK
      clear hJJ hKK
      by_cases h1 : 148 ≤ k
      · have d1 : decide ((148 : Int) ≤ (k : Int)) = true := decide_eq_true (by omega)
        by_cases h2 : k ≤ 155
        · have d2 : decide ((k : Int) ≤ 155) = true := decide_eq_true (by omega)
          have HM := Lib.hid (show B = true by rw [HBB.out]; exact decide_eq_true ⟨h1, h2⟩)
          clear h1 h2
          go_wp2_with fail
          refine HKK.out _ _ ?_
          have hJJ := HJJ.out
          go_meet
          exact ⟨by rw [HM.out], rfl⟩
        · have d2 : decide ((k : Int) ≤ 155) = false := decide_eq_false (by omega)
          have HM := Lib.hid (show B = false by rw [HBB.out]; exact decide_eq_false (by omega))
          clear h1 h2
          go_wp2_with fail
          refine HKK.out _ _ ?_
          have hJJ := HJJ.out
          go_meet
          exact ⟨by rw [HM.out], rfl⟩
      · have d1 : decide ((148 : Int) ≤ (k : Int)) = false := decide_eq_false (by omega)
        have HM := Lib.hid (show B = false by rw [HBB.out]; exact decide_eq_false (by omega))
        clear h1
        go_wp2_with fail
        refine HKK.out _ _ ?_
        have hJJ := HJJ.out
        go_meet
        exact ⟨by rw [HM.out], rfl⟩
    case rest =>
      obtain ⟨rfl, rfl⟩ := hcut
      go_upto_if 60 with fail
      go_cut [10] (fun s10 wx => s10 = .int .i64 M ∧ wx = wc)
      case first =>
        rename_i JJ KK hJJ hKK
        have HJJ := Lib.hid hJJ
        have HKK := Lib.hid hKK
        clear hJJ hKK
        cases hBv : B with
        | true =>
          have HM := Lib.hid (show M = 0 by rw [HF.out.2.2.2.2.2.2.1, if_pos (of_decide_eq_true (by rw [← HBB.out]; exact hBv))])
          clear hBv
          go_wp2_with fail
          refine HKK.out _ _ ?_
          have hJJ := HJJ.out
          go_meet
          exact ⟨by rw [HM.out], rfl⟩
        | false =>
          have HM := Lib.hid (show M = D by rw [HF.out.2.2.2.2.2.2.1, if_neg (of_decide_eq_false (by rw [← HBB.out]; exact hBv))])
          clear hBv
          go_wp2_with fail
          refine HKK.out _ _ ?_
          have hJJ := HJJ.out
          go_meet
          exact ⟨by rw [HM.out], rfl⟩
      case rest =>
      obtain ⟨rfl, rfl⟩ := hcut
      clear f8 f9 f10 f11 f12
      go_wp2
      go_loopw [11, 12] (fun s i wr => wr = wc ∧ ∃ j : Nat, j ≤ m ∧ i = .int .i64 j ∧ s = .int .i64 ((plainTo c j : Nat) : Int)) (fun _ i _ => m - (intOf i).toNat)
      case atStart => exact ⟨rfl, 0, by omega, rfl, by rw [plainTo_zero]; rfl⟩
      case round =>
        obtain ⟨rfl, j, hj, rfl, rfl⟩ := hrel
        by_cases hjm : j < m
        · obtain ⟨e0, he0⟩ : ∃ e0, c.getD j 0 = e0 := ⟨_, rfl⟩
          obtain ⟨ad1, cap', e1, c3⟩ := text_pos HX4.out m j HF.out.2.1 hjm e0 he0
          cases e1
          obtain ⟨p, hp⟩ : ∃ p, p = plainTo c j := ⟨_, rfl⟩
          obtain ⟨q, hq⟩ : ∃ q : Nat, q = p + e0.toNat := ⟨_, rfl⟩
          obtain ⟨z, hz⟩ : ∃ z : Nat, z = e0.toNat := ⟨_, rfl⟩
          have hz2 := UInt8.toNat_lt e0
          have hp2 : p ≤ 510000 := by have := plainTo_le c j; have := HL.out; omega
          rw [← hz] at c3 hq hz2
          rw [← hp]
          have HQ := Lib.hid (show q = plainTo c (j + 1) by rw [plainTo_succ, he0, hq, hp, hz])
          have q0 : (j : Int) < (m : Int) := by omega
          have g1 := wrap_mid (z : Int) (by omega) (by omega)
          have g2 : (p : Int) + (z : Int) = (q : Int) := by omega
          have g3 := wrap_mid (q : Int) (by omega) (by omega)
          have hm2 := HL.out.2
          clear hz2 hp2 hp hq hz he0
          go_wp2
          go_roundw
          case rel => exact ⟨trivial, j + 1, by omega, by go_num, by rw [HQ.out]⟩
          case measure => simp [intOf]; omega
        · obtain rfl : j = m := by omega
          rw [HF.out.2.2.2.2.2.2.2.2.2.2.2.2]
          have s4 := HF.out.2.2.2.2.2.2.2.1
          have s5 := HF.out.2.2.2.2.2.2.2.2.1
          have s6 := HF.out.2.2.2.2.2.2.2.2.2.1
          have s8 := HF.out.2.2.2.2.2.2.2.2.2.2.2.1
          have g1 := wrap_mid M (by omega) (by omega)
          by_cases h156 : n < 156
          · have d1 : decide ((n : Int) < 156) = true := decide_eq_true (by omega)
            clear s5 s6 s8 h156
            go_wp2_with (first
              | (go_at_call 12; with_reducible refine (C1.out wr _ (ownsB_has HO4.out)).mono ?_; rintro e w5 ⟨rfl, hb⟩; have HB5 := Lib.hid (below_next HB4.out hb); have HW5 := Lib.hid (text_keep HW4.out hb); clear hb)
              | (go_at_call 12; with_reducible refine (C2.out w5 _ HW5.out).mono ?_; rintro e w6 ⟨rfl, hb⟩; have HB6 := Lib.hid (below_next HB5.out hb); clear hb))
            go_ret
            exact ⟨rfl, HB6.out⟩
          · have d1 : decide ((n : Int) < 156) = false := decide_eq_false (by omega)
            have s7 := HF.out.2.2.2.2.2.2.2.2.2.2.1 (by omega)
            have g2 : (S2 : Int) + (L : Int) = (S3 : Int) := by omega
            have g3 := wrap_mid (S3 : Int) (by omega) (by omega)
            clear s5 s6 s8 s7 h156
            go_wp2_with (first
              | (go_at_call 12; with_reducible refine (C1.out wr _ (ownsB_has HO4.out)).mono ?_; rintro e w5 ⟨rfl, hb⟩; have HB5 := Lib.hid (below_next HB4.out hb); have HW5 := Lib.hid (text_keep HW4.out hb); have HX5 := Lib.hid (text_keep HX4.out hb); clear hb)
              | (go_at_call 12; with_reducible refine (C2.out w5 _ HW5.out).mono ?_; rintro e w6 ⟨rfl, hb⟩; have HB6 := Lib.hid (below_next HB5.out hb); have HW6 := Lib.hid (text_keep HW5.out hb); have HX6 := Lib.hid (text_keep HX5.out hb); clear hb)
              | (at_builtin; refine append_owns_on (by rfl) (.tmp 87) (.tmp 88) 22 rfl w6.heap.size 5 i0 Try.underlying22 hi hz0 hz1 hz2 _ [] b rfl (ownsB_nil w6 _ _ (Nat.le_refl _)) _ rfl (text_keep HW6.out ((Below.refl _ _).alloc (Nat.le_refl _) _)) (by have := HF.out.1; have := HL.out; simp; omega) (by simp) ?_; intro v7 w7 ho hg; have hb7 := below_grown ((Below.refl w6.heap.size w6).alloc (Nat.le_refl _) (.cells #[] 5 (0, 0))) hg (by simp) (fun j hj => Nat.le_of_eq (Option.some.inj (show some w6.heap.size = some j from hj))); have HO7 := Lib.hid ho; have HB7 := Lib.hid hb7; clear ho hg hb7)
              | (at_builtin; refine append_owns_on (by rfl) (.tmp 89) (.tmp 90) 22 rfl w6.heap.size 5 i0 Try.underlying22 hi hz0 hz1 hz2 _ ([] ++ b) c rfl HO7.out _ rfl (text_keep HX6.out HB7.out) (by have := HF.out.1; have := HF.out.2.1; have := HL.out; simp; omega) (by exact HB7.out.size) ?_; intro v8 w8 ho hg; have hb8 := below_grown HB7.out hg HB7.out.size (fun j hj => (ownsB_lt HO7.out j hj).1); have HO8 := Lib.hid ho; have HB8 := Lib.hid hb8; have HC8 := Lib.hid (below_next HB6.out hb8); clear ho hg hb8)
              | (go_at_call 12; with_reducible refine (C3.out w8 _ (by have h := ownsB_has HO8.out; rwa [List.nil_append] at h)).mono ?_; rintro e w9 ⟨rfl, hb⟩; have HB9 := Lib.hid (below_next HC8.out hb); have HW9 := Lib.hid (text_keep (text_keep HW6.out HB8.out) hb); clear hb)
              | (go_at_call 12; with_reducible refine (C2.out w9 _ HW9.out).mono ?_; rintro e w10 ⟨rfl, hb⟩; have HB10 := Lib.hid (below_next HB9.out hb); clear hb))
            go_ret
            exact ⟨rfl, HB10.out⟩
theorem octalSums_any (F : OctalFace) (b c : List UInt8) (a : Int) (ha : (Lit.int .u16 a).wf = true) (hb : b.length < 4611686018427387904) (hc : c.length < 4611686018427387904) (v0 v1 : Value) (w : World) (hv0 : HasText w v0 b) (hv1 : HasText w v1 c) :
    Calls Try.prog 5 #[v0, v1, .int .u16 a] w fun e w' => e = .returned (.bool true) ∧ Below w.heap.size w w' := by
  simp [Lit.wf, IntKind.min, IntKind.max, IntKind.signed, IntKind.bits] at ha
  obtain ⟨d, rfl⟩ : ∃ d : Nat, a = (d : Int) := ⟨a.toNat, by omega⟩
  exact octalSums_walk F b c d (by omega) hb hc v0 v1 w hv0 hv1
end Go.Proofs.Ytpgimgfoifgkfaa
