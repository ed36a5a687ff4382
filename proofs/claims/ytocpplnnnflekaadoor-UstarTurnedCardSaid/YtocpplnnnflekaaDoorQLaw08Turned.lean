/-
The walk of the statement that with one byte turned an archive is none, or one of other files.
-/
import Derived.Test.YtocpplnnnflekaaDoorQLaw08Back
import Derived.Test.YtocpplnnnflekaaDoorPk6
namespace Go.Proofs.YtocpplnnnflekaaDoor
open Go.RowKit
set_option maxRecDepth 100000 in
theorem turn8_nums (a k n : Nat) (ha : a < 65536) (hn : 0 < n) (hk : k = a % n) : (a : Int).tmod (n : Int) = (k : Int) ∧ wrap64 (k : Int) = (k : Int) ∧ IntKind.i64.wrap (k : Int) = (k : Int) ∧ wrap64 (a : Int) = (a : Int) ∧ IntKind.i64.wrap (a : Int) = (a : Int) ∧ (k : Int) < (n : Int) := by
  have h1 : k < n := by rw [hk]; exact Nat.mod_lt _ hn
  have h2 : k ≤ a := by rw [hk]; exact Nat.mod_le _ _
  refine ⟨by rw [Int.tmod_eq_emod_of_nonneg (by omega), hk]; rfl, by rw [wrap64]; omega, by rw [IntKind.wrap_i64]; omega, by rw [wrap64]; omega, by rw [IntKind.wrap_i64]; omega, by omega⟩
set_option maxRecDepth 100000 in
theorem putU_ge {l : List F8} (h : putUErr l = 0) : 1024 ≤ (putU l).length := by rw [putU, if_pos h, List.length_append, zeros_len]; omega
set_option maxRecDepth 100000 in
set_option maxHeartbeats 8000000 in
theorem ustarTurned_walk (F : UstarFace) (w : World) (v : Value) (l : List F8) (a : Nat) (ha : a < 65536) (m : UInt8) (hv : HasFiles w v l) (hp : ∀ f ∈ l, f.1.length < 1152921504606846976) (hd : ∀ f ∈ l, f.2.length ≤ 140737488355328) (hl : l.length < 4611686018427387904) :
    Calls Tryd.prog 8 #[v, .int .u16 (a : Int), .int .u8 (m.toNat : Int)] w fun e w' => e = .returned (.bool true) ∧ Below w.heap.size w w' := by
  have AW := Lib.hid (awake8_any F)
  have SM := Lib.hid (fun w hv => small_any w v l hv hd hl)
  have HV := Lib.hid hv
  have HPL := Lib.hid hp
  obtain ⟨n, hn⟩ : ∃ n, n = l.length := ⟨_, rfl⟩
  obtain ⟨ao, cap, rfl⟩ := files_shape hv n hn
  have HN := Lib.hid hn
  clear hv hd hl hp hn
  cases hs : smallB l with
  | false =>
    rw [hs] at SM
    clear hs
    go_enter Tryd.func8, Tryd.ntmps8
    go_wp2_with (first
      | (go_at_call 10; refine (AW.out _).mono ?_; rintro e w1 ⟨rfl, hb⟩; have B1 := Lib.hid hb; clear hb)
      | (go_at_call 11; refine (SM.out _ (files_below HV.out B1.out)).mono ?_; rintro e w2 ⟨rfl, rfl⟩))
    go_ret
    exact ⟨rfl, B1.out⟩
  | true =>
    rw [hs] at SM
    by_cases hm : m = 0
    · have HM0 : (m.toNat : Int) = 0 := by rw [hm]; rfl
      clear hm hs
      rw [HM0]
      go_enter Tryd.func8, Tryd.ntmps8
      go_wp2_with (first
        | (go_at_call 10; refine (AW.out _).mono ?_; rintro e w1 ⟨rfl, hb⟩; have B1 := Lib.hid hb; clear hb)
        | (go_at_call 11; refine (SM.out _ (files_below HV.out B1.out)).mono ?_; rintro e w2 ⟨rfl, rfl⟩))
      go_ret
      exact ⟨rfl, B1.out⟩
    have hsm := small_of hs
    have HSM := Lib.hid hsm
    have P1 := Lib.hid (fun w hv => F.put w (.slice ao n cap) l hv HPL.out (by omega) (by omega))
    have dm : ((m.toNat : Int) == 0) = false := by
      rw [beq_eq_false_iff_ne]; intro h; exact hm (UInt8.toNat_inj.1 (by rw [show (0 : UInt8).toNat = 0 from rfl]; omega))
    clear hs hsm
    by_cases h0 : putUErr l = 0
    · have hge := putU_ge h0
      have hle := putU_le HSM.out
      obtain ⟨N, hN⟩ : ∃ N, (putU l).length = N := ⟨_, rfl⟩
      obtain ⟨k, hk⟩ : ∃ k, k = a % N := ⟨_, rfl⟩
      have hkN : k < N := by rw [hk]; exact Nat.mod_lt _ (by omega)
      obtain ⟨x, y, d, hx, hy, hd, u1, -⟩ := xor_byte ((putU l).getD k 0) m hm
      have hturn := turned8 (l := l) (x := (putU l).set k d) (fun e => hd (by
        have := congrArg (fun z => z.getD k 0) e
        simp only [List.getD_eq_getElem?_getD, List.getElem?_set_self (show k < (putU l).length by omega)] at this
        rw [List.getD_eq_getElem?_getD, ← this]; rfl))
      have G1 := Lib.hid (fun w v hv => F.get w v ((putU l).set k d) hv (by rw [List.length_set]; omega))
      obtain ⟨e1, e2, e3, e4, e5, q0⟩ := turn8_nums a k N ha (by omega) hk
      rw [h0] at P1
      generalize putU l = X at *
      have HM := Lib.hid hN
      have HK := Lib.hid (And.intro hkN hle)
      have HN0 := Lib.hid (show 0 < N by omega)
      have HD := Lib.hid (And.intro hx hy)
      have HT := Lib.hid hturn
      obtain ⟨L, hL⟩ : ∃ L, getU (X.set k d) = L := ⟨_, rfl⟩
      obtain ⟨E, hE⟩ : ∃ E, getUErr (X.set k d) = E := ⟨_, rfl⟩
      have tN : ((N : Int) == 0) = false := by rw [beq_eq_false_iff_ne]; omega
      have HLL := Lib.hid (show L.length < 4611686018427387904 by
        rw [← hL]
        rcases getUErr_cases (X.set k d) with h | h
        · have h2 := body_least (putUErr_zero.1 (put_getU h).1).2.2.1
          have h3 := congrArg List.length (put_getU h).2
          rw [putU, if_pos (put_getU h).1, List.length_append, List.length_set, zeros_len] at h3
          omega
        · rw [getU_bad (by omega)]; decide)
      have SA := Lib.hid (fun w x y hx hy => same_any w x y l L hx hy (by have := HSM.out; omega) HLL.out)
      rw [hL, hE] at HT G1
      clear h0 hge hle hN hk hkN hx hy hd hturn hm hL hE ha
      go_enter Tryd.func8, Tryd.ntmps8
      go_upto_region 7 with (first
        | (go_at_call 10; refine (AW.out _).mono ?_; rintro e w1 ⟨rfl, hb⟩; have B1 := Lib.hid hb; clear hb)
        | (go_at_call 11; refine (SM.out _ (files_below HV.out B1.out)).mono ?_; rintro e w2 ⟨rfl, rfl⟩)
        | (go_at_call 12; refine (P1.out _ (files_below HV.out B1.out)).mono ?_; rintro e w3 ⟨x, rfl, hO, hb⟩; obtain ⟨ad, xc, rfl, -⟩ := text_pos hO.1 N 0 HM.out HN0.out _ rfl; obtain ⟨g, o, sp⟩ := ad; obtain rfl : sp = none := (hO.2 _ _ _ rfl).2.1; have O2 := Lib.hid hO; have HG := Lib.hid (show w.heap.size ≤ g from Nat.le_trans B1.out.size (hO.2 _ _ _ rfl).1); have B3 := Lib.hid (below_next B1.out hb); clear hO hb))
      go_upto_region 10 with fail
      obtain ⟨c0, f0, -⟩ := ownText_at O2.out k (by rw [HM.out]; exact HK.out.1) _ rfl
      rw [← HD.out.1] at c0
      go_upto_region 11 with fail
      have O3 := Lib.hid (ownText_set O2.out k (by rw [HM.out]; exact HK.out.1) d (.int .u8 (y : Int)) (by rw [HD.out.2]))
      have H3 := Lib.hid (B3.out.setCell (p := ⟨g, o + k, none⟩) HG.out (.int .u8 (y : Int)))
      clear c0 f0
      generalize World.setCell _ ⟨g, o + k, none⟩ (.int .u8 (y : Int)) = w4 at *
      go_upto_region 12 with (first | (go_at_call 16; refine (G1.out _ _ O3.out.1).mono ?_; rintro e w5 ⟨z, rfl, hz, hb⟩; have HZ := Lib.hid hz; have B5 := Lib.hid (below_next H3.out hb); clear hz hb))
      rcases HT.out with h2 | ⟨h0, h1⟩
      · subst h2
        go_wp2
        go_ret
        exact ⟨rfl, B5.out⟩
      · subst h0
        have SF := Lib.hid (show ∀ w x y, HasFiles w x l → HasFiles w y L → Calls Tryd.prog 18 #[x, y] w fun e w' => e = .returned (.bool false) ∧ Below w.heap.size w w' from fun w x y hx hy => by
          have := SA.out w x y hx hy; rwa [decide_eq_false (fun e => h1 e.symm)] at this)
        clear h1
        go_wp2_with (first | (go_at_call 18; refine (SF.out _ _ _ (files_below HV.out B5.out) HZ.out).mono ?_; rintro e w6 ⟨rfl, hb⟩; have B6 := Lib.hid (below_next B5.out hb); clear hb))
        go_ret
        exact ⟨rfl, B6.out⟩
    · obtain ⟨E, hE⟩ : ∃ E, putUErr l = E := ⟨_, rfl⟩
      rw [hE] at P1 h0
      have tE : (E != 0) = true := bne_iff_ne.2 h0
      clear h0 hE hm
      go_enter Tryd.func8, Tryd.ntmps8
      go_wp2_with (first
        | (go_at_call 10; refine (AW.out _).mono ?_; rintro e w1 ⟨rfl, hb⟩; have B1 := Lib.hid hb; clear hb)
        | (go_at_call 11; refine (SM.out _ (files_below HV.out B1.out)).mono ?_; rintro e w2 ⟨rfl, rfl⟩)
        | (go_at_call 12; refine (P1.out _ (files_below HV.out B1.out)).mono ?_; rintro e w3 ⟨x, rfl, -, hb⟩; have B3 := Lib.hid (below_next B1.out hb); clear hb))
      go_ret
      exact ⟨rfl, B3.out⟩
end Go.Proofs.YtocpplnnnflekaaDoor
