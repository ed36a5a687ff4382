/-
The walk of the statement that no beginning of an archive is one, and nothing that begins with one.
-/
import Derived.Test.YtocpplnnnflekaaDoorQLaw08Turned
import Derived.Test.YtocpplnnnflekaaDoorPk6
namespace Go.Proofs.YtocpplnnnflekaaDoor
open Go.RowKit
set_option maxRecDepth 100000 in
set_option maxHeartbeats 8000000 in
theorem ustarCuts_walk (F : UstarFace) (w : World) (v vm : Value) (l : List F8) (a : Nat) (ha : a < 65536) (M : List UInt8) (hv : HasFiles w v l) (hp : ∀ f ∈ l, f.1.length < 1152921504606846976) (hd : ∀ f ∈ l, f.2.length ≤ 140737488355328) (hl : l.length < 4611686018427387904) (hvm : HasText w vm M) :
    Calls Tryd.prog 7 #[v, .int .u16 (a : Int), vm] w fun e w' => e = .returned (.bool true) ∧ Below w.heap.size w w' := by
  obtain ⟨i0, hi, hz0, hz1, hz2⟩ := info_parts infoByte8
  have AW := Lib.hid (awake8_any F)
  have SM := Lib.hid (fun w hv => small_any w v l hv hd hl)
  have HV := Lib.hid hv
  have HPL := Lib.hid hp
  obtain ⟨n, hn⟩ : ∃ n, n = l.length := ⟨_, rfl⟩
  obtain ⟨ao, cap, rfl⟩ := files_shape hv n hn
  have HN := Lib.hid hn
  clear hv hd hl hp hn
  have HVM := Lib.hid hvm
  obtain ⟨mn, hmn⟩ : ∃ mn, M.length = mn := ⟨_, rfl⟩
  obtain ⟨mo, mc, rfl⟩ := text_len hvm mn hmn
  have HMN := Lib.hid hmn
  clear hvm hmn
  cases hs : smallB l with
  | false =>
    rw [hs] at SM
    clear hs
    go_enter Tryd.func7, Tryd.ntmps7
    go_wp2_with (first
      | (go_at_call 10; refine (AW.out _).mono ?_; rintro e w1 ⟨rfl, hb⟩; have B1 := Lib.hid hb; clear hb)
      | (go_at_call 11; refine (SM.out _ (files_below HV.out B1.out)).mono ?_; rintro e w2 ⟨rfl, rfl⟩))
    go_ret
    exact ⟨rfl, B1.out⟩
  | true =>
    rw [hs] at SM
    by_cases hm0 : mn = 0
    · subst hm0
      clear hs
      go_enter Tryd.func7, Tryd.ntmps7
      go_wp2_with (first
        | (go_at_call 10; refine (AW.out _).mono ?_; rintro e w1 ⟨rfl, hb⟩; have B1 := Lib.hid hb; clear hb)
        | (go_at_call 11; refine (SM.out _ (files_below HV.out B1.out)).mono ?_; rintro e w2 ⟨rfl, rfl⟩))
      go_ret
      exact ⟨rfl, B1.out⟩
    have t0 : ((mn : Int) == 0) = false := by rw [beq_eq_false_iff_ne]; omega
    by_cases hm5 : 5000 < mn
    · have t5 : (mn : Int) > 5000 := by omega
      clear hs hm0 hm5
      go_enter Tryd.func7, Tryd.ntmps7
      go_wp2_with (first
        | (go_at_call 10; refine (AW.out _).mono ?_; rintro e w1 ⟨rfl, hb⟩; have B1 := Lib.hid hb; clear hb)
        | (go_at_call 11; refine (SM.out _ (files_below HV.out B1.out)).mono ?_; rintro e w2 ⟨rfl, rfl⟩))
      go_ret
      exact ⟨rfl, B1.out⟩
    have t5 : ¬ (mn : Int) > 5000 := by omega
    have hsm := small_of hs
    have HSM := Lib.hid hsm
    have P1 := Lib.hid (fun w hv => F.put w (.slice ao n cap) l hv HPL.out (by omega) (by omega))
    clear hs hsm
    by_cases h0 : putUErr l = 0
    · have hge := putU_ge h0
      have hle := putU_le HSM.out
      obtain ⟨N, hN⟩ : ∃ N, (putU l).length = N := ⟨_, rfl⟩
      obtain ⟨k, hk⟩ : ∃ k, k = a % N := ⟨_, rfl⟩
      have hkN : k < N := by rw [hk]; exact Nat.mod_lt _ (by omega)
      have hshort := cut_none8 h0 (k := k) (by omega)
      have hlong := more_none8 h0 (x := M) (fun e => hm0 (by rw [← HMN.out, e]; rfl))
      have hsb := getU_bad (b := (putU l).take k) (by omega)
      have hlb := getU_bad (b := putU l ++ M) (by omega)
      have G1 := Lib.hid (fun w v hv => F.get w v ((putU l).take k) hv (by rw [List.length_take]; omega))
      have G2 := Lib.hid (fun w v hv => F.get w v (putU l ++ M) hv (by rw [List.length_append, HMN.out]; omega))
      rw [hshort, hsb] at G1
      rw [hlong, hlb] at G2
      obtain ⟨e1, e2, e3, e4, e5, q0⟩ := turn8_nums a k N ha (by omega) hk
      rw [h0] at P1
      generalize putU l = X at *
      have HM := Lib.hid hN
      have HK := Lib.hid (And.intro hkN hle)
      have HN0 := Lib.hid (show 0 < N by omega)
      have HM5 := Lib.hid (show mn ≤ 5000 by omega)
      have tN : ((N : Int) == 0) = false := by rw [beq_eq_false_iff_ne]; omega
      clear h0 hge hle hN hk hkN hshort hlong hsb hlb ha hm0 hm5
      go_enter Tryd.func7, Tryd.ntmps7
      go_upto_region 7 with (first
        | (go_at_call 10; refine (AW.out _).mono ?_; rintro e w1 ⟨rfl, hb⟩; have B1 := Lib.hid hb; clear hb)
        | (go_at_call 11; refine (SM.out _ (files_below HV.out B1.out)).mono ?_; rintro e w2 ⟨rfl, rfl⟩)
        | (go_at_call 12; refine (P1.out _ (files_below HV.out B1.out)).mono ?_; rintro e w3 ⟨x, rfl, hO, hb⟩; obtain ⟨ad, xc, rfl, -⟩ := text_pos hO.1 N 0 HM.out HN0.out _ rfl; obtain ⟨g, o, sp⟩ := ad; obtain rfl : sp = none := (hO.2 _ _ _ rfl).2.1; have O2 := Lib.hid hO; have HG := Lib.hid (show w.heap.size ≤ g from Nat.le_trans B1.out.size (hO.2 _ _ _ rfl).1); have B3 := Lib.hid (below_next B1.out hb); clear hO hb))
      have qc : (k : Int) ≤ (xc : Int) := by have h1 := (text_cap O2.out.1).2; have h2 := HK.out.1; clear e1 e2 e3 e4 e5; omega
      have T2 := Lib.hid (text_take O2.out.1 k (by rw [HM.out]; exact Nat.le_of_lt HK.out.1))
      go_upto_region 10 with (first | (go_at_call 16; refine (G1.out _ _ T2.out).mono ?_; rintro e w5 ⟨z, rfl, -, hb⟩; have T5 := Lib.hid (text_keep O2.out.1 hb); have B5 := Lib.hid (below_next B3.out hb); clear hb))
      have TM := Lib.hid (text_keep HVM.out B5.out)
      have hN := HM.out
      go_upto_region 11 with (first
        | (at_builtin; refine append_owns_list rfl (.tmp 52) (.tmp 53) 25 rfl w5.heap.size 5 i0 Tryd.underlying25 hi hz0 hz1 hz2 _ [] X rfl (ownsB_nil w5 5 w5.heap.size (Nat.le_refl _)) _ rfl (text_keep T5.out ((Below.refl _ _).alloc (Nat.le_refl _) _)) (by rw [hN]; have := HK.out.2; simp; omega) (by simp) ?_; intro v6 w6 ho6 hg6; obtain ⟨g6, cap6, rfl, -⟩ := ownsB_slice ho6; have hb6 := below_grown ((Below.refl w5.heap.size w5).alloc (Nat.le_refl _) _) hg6 (by simp) (fun k hk => (ownsB_lt (ownsB_nil w5 5 w5.heap.size (Nat.le_refl _)) k hk).1); have HW6 := Lib.hid (show OwnsB w6 w5.heap.size 5 (.slice (some ⟨g6, 0, none⟩) N cap6) X from (by have h := ho6; rw [List.nil_append, hN] at h; exact h)); have HB6 := Lib.hid hb6; clear ho6 hg6 hb6)
        | (at_builtin; refine append_owns_list rfl (.tmp 54) (.tmp 55) 25 rfl w5.heap.size 5 i0 Tryd.underlying25 hi hz0 hz1 hz2 _ X M rfl HW6.out _ rfl (text_keep TM.out HB6.out) (by rw [hN, HMN.out]; have := HK.out.2; have := HM5.out; omega) HB6.out.size ?_; intro v7 w7 ho7 hg7; have hb7 := below_grown HB6.out hg7 HB6.out.size (fun k hk => (ownsB_lt HW6.out k hk).1); have H7 := Lib.hid (below_next B5.out hb7); have HW7 := Lib.hid (ownsB_has ho7); clear ho7 hg7 hb7)
        | (go_at_call 16; refine (G2.out _ _ HW7.out).mono ?_; rintro e w8 ⟨z8, rfl, -, hb⟩; have B8 := Lib.hid (below_next H7.out hb); clear hb))
      go_wp2
      go_ret
      exact ⟨rfl, B8.out⟩
    · obtain ⟨E, hE⟩ : ∃ E, putUErr l = E := ⟨_, rfl⟩
      rw [hE] at P1 h0
      have tE : (E != 0) = true := bne_iff_ne.2 h0
      clear h0 hE hm0 hm5
      go_enter Tryd.func7, Tryd.ntmps7
      go_wp2_with (first
        | (go_at_call 10; refine (AW.out _).mono ?_; rintro e w1 ⟨rfl, hb⟩; have B1 := Lib.hid hb; clear hb)
        | (go_at_call 11; refine (SM.out _ (files_below HV.out B1.out)).mono ?_; rintro e w2 ⟨rfl, rfl⟩)
        | (go_at_call 12; refine (P1.out _ (files_below HV.out B1.out)).mono ?_; rintro e w3 ⟨x, rfl, -, hb⟩; have B3 := Lib.hid (below_next B1.out hb); clear hb))
      go_ret
      exact ⟨rfl, B3.out⟩
end Go.Proofs.YtocpplnnnflekaaDoor
