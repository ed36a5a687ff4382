/-
What package header owes, as the landed code gives it.
-/
import Derived.Test.YtbjekhhefepnlaaDoorHeaderPut
import Derived.Test.YtbjekhhefepnlaaDoorOctalMore
import Derived.Test.YtbjekhhefepnlaaDoorPathJoin
namespace Go.Proofs.YtbjekhhefepnlaaDoor
open Go.RowKit
theorem raw_ok {b : List UInt8} (h : putHErr (rawPath b) (rawSize b) = 0) : rawErr b = 0 := by
  rw [rawErr, joinErr]
  by_cases hj : joinOk (nameT ((b.take 500).drop 345)) (nameT (b.take 100)) = true
  · rw [if_pos hj]
  · exfalso
    rw [rawPath, joinT, if_neg hj] at h
    have h1 := ((putHErr_ok _ _).1 h).1
    revert h1; decide +kernel
theorem isHdr_eq (b : List UInt8) : isHdr b = (putHErr (rawPath b) (rawSize b) == 0 && putH (rawPath b) (rawSize b) == b) := by
  by_cases h : putHErr (rawPath b) (rawSize b) = 0
  · rw [isHdr, raw_ok h]; rfl
  · rw [isHdr, show (putHErr (rawPath b) (rawSize b) == 0) = false from beq_eq_false_iff_ne.2 h, Bool.false_and, Bool.and_false]
set_option maxHeartbeats 4000000 in
theorem names_any (p : List UInt8) (hp : p.length < 4611686018427387904) (n : Int) (w : World) :
    Calls Tryd.prog 18 #[.string (str p), .int .i64 n] w fun e w' => (putHErr p n = 0 → e = .returned (.tuple #[.string (str (splitA p)), .string (str (splitB p)), .int .i64 0])) ∧ (putHErr p n ≠ 0 → ∃ x y, e = .returned (.tuple #[.string x, .string y, .int .i64 (putHErr p n)])) ∧ Below w.heap.size w w' := by
  have SP := Lib.hid (fun w => split_any p hp w)
  rcases splitErr_cases p with ⟨h0, -⟩ | ⟨h9, -⟩
  · rw [h0] at SP
    by_cases hn : 0 ≤ n ∧ n ≤ 4194304
    · have h : putHErr p n = 0 := by unfold putHErr; rw [if_neg (by omega), if_neg (by omega)]
      have HE := Lib.hid h
      have d1 : decide (n < 0) = false := decide_eq_false (by omega)
      have d2 : decide (n > 4194304) = false := decide_eq_false (by omega)
      clear hn h h0 hp
      go_enter Tryd.func18, Tryd.ntmps18
      go_wp2_with (first | (go_at_call 30; refine (SP.out _).mono ?_; rintro e w1 ⟨rfl, hb⟩; have HB := Lib.hid hb; clear hb))
      go_ret3
      exact ⟨fun _ => rfl, fun h => absurd HE.out h, HB.out⟩
    · have h8 : putHErr p n = 8 := by unfold putHErr; rw [if_neg (by omega), if_pos (by omega)]
      have HE := Lib.hid h8
      clear h8 h0 hp
      by_cases h1 : n < 0
      · have d1 : decide (n < 0) = true := decide_eq_true h1
        clear h1 hn
        go_enter Tryd.func18, Tryd.ntmps18
        go_wp2_with (first | (go_at_call 30; refine (SP.out _).mono ?_; rintro e w1 ⟨rfl, hb⟩; have HB := Lib.hid hb; clear hb))
        go_ret3
        rw [HE.out]
        exact ⟨fun h => absurd h (by decide), fun _ => ⟨_, _, rfl⟩, HB.out⟩
      · have d1 : decide (n < 0) = false := decide_eq_false h1
        have d2 : decide (n > 4194304) = true := decide_eq_true (by omega)
        clear h1 hn
        go_enter Tryd.func18, Tryd.ntmps18
        go_wp2_with (first | (go_at_call 30; refine (SP.out _).mono ?_; rintro e w1 ⟨rfl, hb⟩; have HB := Lib.hid hb; clear hb))
        go_ret3
        rw [HE.out]
        exact ⟨fun h => absurd h (by decide), fun _ => ⟨_, _, rfl⟩, HB.out⟩
  · have h9' : putHErr p n = 9 := by unfold putHErr; rw [if_pos (by omega), h9]
    have HE := Lib.hid h9'
    rw [h9] at SP
    clear h9' h9 hp
    go_enter Tryd.func18, Tryd.ntmps18
    go_wp2_with (first | (go_at_call 30; refine (SP.out _).mono ?_; rintro e w1 ⟨rfl, hb⟩; have HB := Lib.hid hb; clear hb))
    go_ret3
    rw [HE.out]
    exact ⟨fun h => absurd h (by decide), fun _ => ⟨_, _, rfl⟩, HB.out⟩
set_option maxHeartbeats 4000000 in
theorem put7_any (p : List UInt8) (hp : p.length < 4611686018427387904) (n : Int) (w : World) :
    Calls Tryd.prog 10 #[.string (str p), .int .i64 n] w fun e w' => ∃ v, e = .returned (.tuple #[v, .int .i64 (putHErr p n)]) ∧ OwnText w' w.heap.size v (putH p n) ∧ Below w.heap.size w w' := by
  have NM := Lib.hid (fun w => names_any p hp n w)
  by_cases h : putHErr p n = 0
  · obtain ⟨-, h0, h1⟩ := (putHErr_ok p n).1 h
    have LY := Lib.hid (fun w => lay_any (splitA p) (splitB p) n (fit_of h) h0 h1 w)
    have HE := Lib.hid h
    have HP := Lib.hid (show putH p n = hdrL (splitA p) (splitB p) n by rw [putH, if_pos h])
    clear h h0 h1 hp
    go_enter Tryd.func10, Tryd.ntmps10
    go_wp2_with (first
      | (go_at_call 18; refine (NM.out _).mono ?_; rintro e w1 ⟨h, -, hb⟩; obtain rfl := h HE.out; have HB := Lib.hid hb; clear h hb)
      | (go_at_call 19; refine (LY.out w1).mono ?_; rintro e w2 ⟨v, rfl, ho, hb⟩; have HO := Lib.hid ho; have HB2 := Lib.hid (below_next HB.out hb); clear ho hb))
    go_ret2
    rw [HE.out, HP.out]
    exact ⟨_, rfl, ⟨HO.out.1, fun ad n cap e => ⟨Nat.le_trans HB.out.size (HO.out.2 ad n cap e).1, (HO.out.2 ad n cap e).2⟩⟩, HB2.out⟩
  · have HE := Lib.hid (show putH p n = [] by rw [putH, if_neg h])
    obtain ⟨E, hE⟩ : ∃ E, E = putHErr p n := ⟨_, rfl⟩
    rw [← hE] at NM h ⊢
    have dE : (E != 0) = true := by simp; exact h
    have H0 := Lib.hid h
    clear hE h hp
    go_enter Tryd.func10, Tryd.ntmps10
    go_wp2_with (first
      | (go_at_call 18; refine (NM.out _).mono ?_; rintro e w1 ⟨-, h, hb⟩; obtain ⟨x, y, rfl⟩ := h H0.out; have HB := Lib.hid hb; clear h hb))
    go_ret2
    rw [HE.out]
    exact ⟨_, rfl, ⟨hasText_nil _, fun ad n cap e => by cases e⟩, HB.out⟩
set_option maxHeartbeats 4000000 in
theorem equal_any (x y : List UInt8) (v u : Value) (w : World) (hx : HasText w v x) (hy : HasText w u y) : Calls Tryd.prog 26 #[v, u] w fun e w' => e = .returned (.bool (x == y)) ∧ w' = w := by
  have c1 := conv_text Tryd.underlying22 Tryd.underlying5 Tryd.underlying9 hx
  have c2 := conv_text Tryd.underlying22 Tryd.underlying5 Tryd.underlying9 hy
  obtain ⟨ao, cap, rfl⟩ := text_shape hx x.length rfl
  obtain ⟨ao', cap', rfl⟩ := text_shape hy y.length rfl
  obtain ⟨n, hn⟩ : ∃ n, n = x.length := ⟨_, rfl⟩
  obtain ⟨m, hm⟩ : ∃ m, m = y.length := ⟨_, rfl⟩
  rw [← hn] at c1 ⊢
  rw [← hm] at c2 ⊢
  have h1 : (str x).toList = x := str_toList x
  have h2 : (str y).toList = y := str_toList y
  obtain ⟨t, ht⟩ : ∃ t, (x == y) = t := ⟨_, rfl⟩
  rw [ht]
  clear hn hm hx hy
  go_enter Tryd.func26, Tryd.ntmps26
  go_wp2
  go_ret
  exact ⟨by rw [← ht]; rfl, rfl⟩
theorem round_num1 (n : Nat) (h : n < 100000) : ∃ a b c d : Nat, (n : Int) + 512 = (a : Int) ∧ (a : Int) - 1 = (b : Int) ∧ (b : Int) / 512 = (c : Int) ∧ (c : Int) * 512 = (d : Int) ∧ a < 200000 ∧ b < 200000 ∧ c < 200000 ∧ d < 200000 ∧ roundZ (n : Int) = (d : Int) := by
  refine ⟨n + 512, n + 511, (n + 511) / 512, (n + 511) / 512 * 512, by omega, by omega, by omega, by omega, by omega, by omega, by omega, by omega, ?_⟩
  unfold roundZ
  by_cases h0 : (n : Int) ≤ 0
  · rw [if_pos h0]; omega
  · rw [if_neg h0]; omega
theorem wrap_few (a : Nat) (h : a < 200000) : IntKind.i64.wrap (a : Int) = (a : Int) ∧ wrap64 (a : Int) = (a : Int) := by
  rw [IntKind.wrap_i64, wrap64]; omega
set_option maxHeartbeats 2000000 in
theorem round7_any (z : Int) (h1 : z < 100000) (w : World) : Calls Tryd.prog 15 #[.int .i64 z] w fun e w' => e = .returned (.int .i64 (roundZ z)) ∧ Below w.heap.size w w' := by
  by_cases h : z < 0
  · have d1 : decide (z < 0) = true := decide_eq_true h
    have HR := Lib.hid (show roundZ z = 0 by rw [roundZ, if_pos (by omega)])
    clear h h1
    go_enter Tryd.func15, Tryd.ntmps15
    go_wp2
    go_ret
    exact ⟨by rw [HR.out]; rfl, Below.refl _ _⟩
  · obtain ⟨n, rfl⟩ : ∃ n : Nat, z = (n : Int) := ⟨z.toNat, by omega⟩
    have d1 : decide ((n : Int) < 0) = false := decide_eq_false h
    obtain ⟨a, b, c, d, ha, hb, hc, hd, la, lb, lc, ld, hr⟩ := round_num1 n (by omega)
    obtain ⟨e1, f1⟩ := wrap_few a la
    obtain ⟨e2, f2⟩ := wrap_few b lb
    obtain ⟨e3, f3⟩ := wrap_few c lc
    obtain ⟨e4, f4⟩ := wrap_few d ld
    have HD := Lib.hid hr
    clear h h1 hr la lb lc ld
    go_enter Tryd.func15, Tryd.ntmps15
    go_wp2
    go_ret
    exact ⟨by rw [HD.out]; rfl, Below.refl _ _⟩
theorem all_zero_at {b : List UInt8} {k : Nat} (hk : k < b.length) (h : (b.take k).all (· == 0) = true) : (b.take (k + 1)).all (· == 0) = (b.getD k 0 == 0) := by
  rw [List.take_add_one, List.all_append, h, Bool.true_and, List.getElem?_eq_getElem hk, List.getD_eq_getElem?_getD, List.getElem?_eq_getElem hk]
  simp
theorem all_take {b : List UInt8} (k : Nat) (h : (b.take k).all (· == 0) = false) : b.all (· == 0) = false := by
  rw [← List.take_append_drop k b, List.all_append, h, Bool.false_and]
set_option maxHeartbeats 2000000 in
theorem blank_any (b : List UInt8) (hb : b.length < 4611686018427387904) (v : Value) (w : World) (hv : HasText w v b) : Calls Tryd.prog 17 #[v] w fun e w' => e = .returned (.bool (b.all (· == 0))) ∧ Below w.heap.size w w' := by
  have HV := Lib.hid hv
  obtain ⟨ao, cap, rfl⟩ := text_shape hv b.length rfl
  obtain ⟨n, hn⟩ : ∃ n, n = b.length := ⟨_, rfl⟩
  rw [← hn] at HV ⊢
  have HN := Lib.hid hn
  have hn4 : n < 4611686018427387904 := by omega
  clear hn hv
  go_enter Tryd.func17, Tryd.ntmps17
  go_wp2
  go_loopw [7] (fun c wr => wr = w ∧ ∃ k : Nat, k ≤ n ∧ c = .int .i64 k ∧ (b.take k).all (· == 0) = true) (fun c _ => n - (intOf c).toNat)
  case atStart => exact ⟨rfl, 0, by omega, rfl, rfl⟩
  case round =>
    obtain ⟨rfl, k, hk, rfl, hz⟩ := hrel
    have HZ := Lib.hid hz
    clear hz
    by_cases hlt : k < n
    · have q0 : (k : Int) < (n : Int) := by omega
      obtain ⟨ad, c, rfl, hc, hcd, c0⟩ := text_at HV.out k (by rw [← HN.out]; exact hlt)
      obtain ⟨x, hx⟩ : ∃ x : Nat, x = c.toNat := ⟨_, rfl⟩
      have HA := Lib.hid (show (b.take (k + 1)).all (· == 0) = decide (x = 0) by
        rw [all_zero_at (by rw [← HN.out]; exact hlt) HZ.out, hcd, Bool.eq_iff_iff, beq_iff_eq, decide_eq_true_eq, hx]
        constructor
        · intro e; rw [e]; rfl
        · intro e; exact UInt8.toNat_inj.1 e)
      rw [← hx] at c0
      clear hc hcd hx
      by_cases hx0 : x = 0
      · subst hx0
        go_wp2
        go_roundw
        case rel => exact ⟨trivial, k + 1, by omega, by go_num, by rw [HA.out]; rfl⟩
        case measure => simp [intOf]; omega
      · have t1 : ((x : Int) != 0) = true := by rw [bne_iff_ne]; omega
        have HR := Lib.hid (all_take (k + 1) (by rw [HA.out]; exact decide_eq_false hx0))
        clear hx0
        go_wp2
        go_ret
        exact ⟨by rw [HR.out]; rfl, Below.refl _ _⟩
    · have q0 : ¬ (k : Int) < (n : Int) := by omega
      have HR := Lib.hid (show b.all (· == 0) = true by
        have h := HZ.out
        rwa [show k = b.length by rw [← HN.out]; omega, List.take_length] at h)
      go_wp2
      go_ret
      exact ⟨by rw [HR.out]; rfl, Below.refl _ _⟩
set_option maxRecDepth 100000 in
set_option maxHeartbeats 8000000 in
theorem get7_any (b : List UInt8) (hb : b.length < 4611686018427387904) (v : Value) (w : World) (hv : HasText w v b) :
    Calls Tryd.prog 12 #[v] w fun e w' => e = .returned (.tuple #[.string (str (getHPath b)), .int .i64 (getHSize b), .int .i64 (getHErr b)]) ∧ Below w.heap.size w w' := by
  have HV := Lib.hid hv
  obtain ⟨n, hn⟩ : ∃ n, n = b.length := ⟨_, rfl⟩
  obtain ⟨ao, cap, rfl⟩ := text_shape hv n hn.symm
  have HN := Lib.hid hn
  rw [← hn] at hb
  clear hv hn
  by_cases hs : n < 512
  · have q0 : (n : Int) < 512 := by omega
    have h3 := shorter (x := b) (by rw [← HN.out]; exact hs)
    have hbad := getH_bad (b := b) (by omega)
    have HR := Lib.hid (And.intro h3 hbad)
    clear h3 hbad hs hb
    go_enter Tryd.func12, Tryd.ntmps12
    go_wp2
    go_ret3
    rw [HR.out.1, HR.out.2.1, HR.out.2.2]
    exact ⟨rfl, Below.refl _ _⟩
  · have q0 : ¬ (n : Int) < 512 := by omega
    have hbl : 512 ≤ b.length := by rw [← HN.out]; omega
    obtain ⟨ad, cap', hsl, hcc⟩ : ∃ ad cap', Value.slice ao n cap = .slice (some ad) n cap' ∧ True := by
      obtain ⟨ad, cap', e, -⟩ := text_pos HV.out n 0 HN.out.symm (by omega) _ rfl
      exact ⟨ad, cap', e, trivial⟩
    cases hsl
    have hcap := (text_cap HV.out).2
    have qc : (100 : Int) ≤ (cap : Int) := by omega
    have qc2 : (500 : Int) ≤ (cap : Int) := by omega
    have qc3 : (136 : Int) ≤ (cap : Int) := by omega
    have T1 := Lib.hid (text_take HV.out 100 (by omega))
    have T2 := Lib.hid (text_mid HV.out 345 500 (by omega) (by omega))
    have T3 := Lib.hid (text_mid HV.out 124 136 (by omega) (by omega))
    have N1 := Lib.hid (fun w hv => nameFace.name w (.slice (some ad) 100 cap) (b.take 100) (by rw [List.length_take]; omega) hv)
    have N2 := Lib.hid (fun w hv => nameFace.name w (.slice (some (ad.add 345)) 155 (cap - 345)) ((b.take 500).drop 345) (by rw [List.length_drop, List.length_take]; omega) hv)
    have G3 := Lib.hid (fun w hv => octalFace.get w (.slice (some (ad.add 124)) 12 (cap - 124)) ((b.take 136).drop 124) (by rw [List.length_drop, List.length_take]; omega) hv)
    have J1 := Lib.hid (show ∀ w, Calls Tryd.prog 25 #[.string (str (nameT ((b.take 500).drop 345))), .string (str (nameT (b.take 100)))] w fun e w' => e = .returned (.tuple #[.string (str (rawPath b)), .int .i64 (rawErr b)]) ∧ Below w.heap.size w w' from fun w => join_any (nameT ((b.take 500).drop 345)) (nameT (b.take 100)) (by have h := nameT_le ((b.take 500).drop 345); rw [List.length_drop, List.length_take] at h; omega) (by have h := nameT_le (b.take 100); rw [List.length_take] at h; omega) w)
    have P1 := Lib.hid (fun w => put7_any (rawPath b) (by have := rawPath_le b hbl; omega) (rawSize b) w)
    have E1 := Lib.hid (fun w v hv => equal_any (putH (rawPath b) (rawSize b)) b v (.slice (some ad) n cap) w hv)
    have hg2 : ¬ isHdr b = true → getHErr b = 2 ∧ getHPath b = [] ∧ getHSize b = 0 := fun h => by
      have h2 : getHErr b = 2 := by unfold getHErr; rw [if_neg (by omega), if_neg h]
      exact ⟨h2, (getH_bad (b := b) (by omega)).1, (getH_bad (b := b) (by omega)).2⟩
    have hg0 : isHdr b = true → getHErr b = 0 ∧ getHPath b = rawPath b ∧ getHSize b = rawSize b := fun h => by
      have h0 := getHErr_zero.2 h
      exact ⟨h0, by rw [getHPath, if_pos h0], by rw [getHSize, if_pos h0]⟩
    have HGG := Lib.hid (And.intro hg2 hg0)
    have HDD := Lib.hid (isHdr_eq b)
    obtain ⟨F, hF⟩ : ∃ F, F = putHErr (rawPath b) (rawSize b) := ⟨_, rfl⟩
    obtain ⟨X, hX⟩ : ∃ X, X = putH (rawPath b) (rawSize b) := ⟨_, rfl⟩
    obtain ⟨Y, hY⟩ : ∃ Y, Y = (X == b) := ⟨_, rfl⟩
    rw [← hX, ← hY] at E1
    rw [← hF, ← hX] at P1
    rw [← hF, ← hX, ← hY] at HDD
    clear hF hX hY hg2 hg0 hcap hbl hs hb
    have part : ∀ Q : Prop, (F = 0 → Y = true → Q) → (F = 0 → Y = false → Q) → ((F != 0) = true → Q) → Q := fun Q c1 c2 c3 => by
      by_cases h : F = 0
      · cases Y with
        | true => exact c1 h rfl
        | false => exact c2 h rfl
      · exact c3 (by rw [bne_iff_ne]; exact h)
    refine part _ (fun h1 h2 => ?_) (fun h1 h2 => ?_) (fun h1 => ?_)
    · subst h1; subst h2
      have HR := Lib.hid (HGG.out.2 HDD.out)
      clear part
      go_enter Tryd.func12, Tryd.ntmps12
      go_upto_region 4 with (first | (go_at_call 23; refine (N1.out _ T1.out).mono ?_; rintro e w1 ⟨rfl, hb⟩; have B1 := Lib.hid hb; clear hb))
      go_upto_region 5 with (first | (go_at_call 23; refine (N2.out _ (text_keep T2.out B1.out)).mono ?_; rintro e w2 ⟨rfl, hb⟩; have B2 := Lib.hid (below_next B1.out hb); clear hb))
      go_upto_region 6 with (first | (go_at_call 24; refine (G3.out _ (text_keep T3.out B2.out)).mono ?_; rintro e w3 ⟨rfl, hb⟩; have B3 := Lib.hid (below_next B2.out hb); clear hb))
      go_upto_region 7 with (first | (go_at_call 25; refine (J1.out _).mono ?_; rintro e w4 ⟨rfl, hb⟩; have B4 := Lib.hid (below_next B3.out hb); clear hb))
      go_upto_region 8 with (first | (go_at_call 10; refine (P1.out _).mono ?_; rintro e w5 ⟨v5, rfl, ht, hb⟩; have TV := Lib.hid ht.1; have B5 := Lib.hid (below_next B4.out hb); clear ht hb))
      go_upto_region 9 with (first | (go_at_call 26; refine (E1.out _ _ TV.out (text_keep HV.out B5.out)).mono ?_; rintro e w6 ⟨rfl, rfl⟩))
      go_wp2
      go_ret3
      rw [HR.out.1, HR.out.2.1, HR.out.2.2]
      exact ⟨rfl, B5.out⟩
    · subst h1; subst h2
      have HR := Lib.hid (HGG.out.1 (by rw [HDD.out]; simp))
      clear part
      go_enter Tryd.func12, Tryd.ntmps12
      go_upto_region 4 with (first | (go_at_call 23; refine (N1.out _ T1.out).mono ?_; rintro e w1 ⟨rfl, hb⟩; have B1 := Lib.hid hb; clear hb))
      go_upto_region 5 with (first | (go_at_call 23; refine (N2.out _ (text_keep T2.out B1.out)).mono ?_; rintro e w2 ⟨rfl, hb⟩; have B2 := Lib.hid (below_next B1.out hb); clear hb))
      go_upto_region 6 with (first | (go_at_call 24; refine (G3.out _ (text_keep T3.out B2.out)).mono ?_; rintro e w3 ⟨rfl, hb⟩; have B3 := Lib.hid (below_next B2.out hb); clear hb))
      go_upto_region 7 with (first | (go_at_call 25; refine (J1.out _).mono ?_; rintro e w4 ⟨rfl, hb⟩; have B4 := Lib.hid (below_next B3.out hb); clear hb))
      go_upto_region 8 with (first | (go_at_call 10; refine (P1.out _).mono ?_; rintro e w5 ⟨v5, rfl, ht, hb⟩; have TV := Lib.hid ht.1; have B5 := Lib.hid (below_next B4.out hb); clear ht hb))
      go_upto_region 9 with (first | (go_at_call 26; refine (E1.out _ _ TV.out (text_keep HV.out B5.out)).mono ?_; rintro e w6 ⟨rfl, rfl⟩))
      go_wp2
      go_ret3
      rw [HR.out.1, HR.out.2.1, HR.out.2.2]
      exact ⟨rfl, B5.out⟩
    · have HR := Lib.hid (HGG.out.1 (by rw [HDD.out]; intro h; rw [Bool.and_eq_true, beq_iff_eq] at h; rw [bne_iff_ne] at h1; exact h1 h.1))
      clear part
      go_enter Tryd.func12, Tryd.ntmps12
      go_upto_region 4 with (first | (go_at_call 23; refine (N1.out _ T1.out).mono ?_; rintro e w1 ⟨rfl, hb⟩; have B1 := Lib.hid hb; clear hb))
      go_upto_region 5 with (first | (go_at_call 23; refine (N2.out _ (text_keep T2.out B1.out)).mono ?_; rintro e w2 ⟨rfl, hb⟩; have B2 := Lib.hid (below_next B1.out hb); clear hb))
      go_upto_region 6 with (first | (go_at_call 24; refine (G3.out _ (text_keep T3.out B2.out)).mono ?_; rintro e w3 ⟨rfl, hb⟩; have B3 := Lib.hid (below_next B2.out hb); clear hb))
      go_upto_region 7 with (first | (go_at_call 25; refine (J1.out _).mono ?_; rintro e w4 ⟨rfl, hb⟩; have B4 := Lib.hid (below_next B3.out hb); clear hb))
      go_upto_region 8 with (first | (go_at_call 10; refine (P1.out _).mono ?_; rintro e w5 ⟨v5, rfl, ht, hb⟩; have TV := Lib.hid ht.1; have B5 := Lib.hid (below_next B4.out hb); clear ht hb))
      go_wp2
      go_ret3
      rw [HR.out.1, HR.out.2.1, HR.out.2.2]
      exact ⟨rfl, B5.out⟩
theorem headerFace : HeaderFace where
  put := fun w p n hp _ _ => put7_any p (Nat.lt_trans hp (by decide)) n w
  get := fun w v b hb hv => get7_any b hb v w hv
theorem roundFace : RoundFace where
  blank := fun w v b hb hv => blank_any b hb v w hv
  round := fun w z _ h1 => round7_any z h1 w
end Go.Proofs.YtbjekhhefepnlaaDoor
