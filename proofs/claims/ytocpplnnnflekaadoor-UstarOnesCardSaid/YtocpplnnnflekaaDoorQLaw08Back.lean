/-
The walk of the statement that what was put is got.
-/
import Derived.Test.YtocpplnnnflekaaDoorPk6
namespace Go.Proofs.YtocpplnnnflekaaDoor
open Go.RowKit
set_option maxRecDepth 100000 in
theorem small_of {l : List F8} (h : smallB l = true) : l.length ≤ 40 ∧ totalB l ≤ 20000 := by
  simp only [smallB, Bool.and_eq_true, decide_eq_true_eq] at h
  have h2 := h.2
  rw [List.take_of_length_le (by omega)] at h2
  exact ⟨h.1, h2⟩
set_option maxRecDepth 100000 in
theorem putU_le {l : List F8} (h : l.length ≤ 40 ∧ totalB l ≤ 20000) : (putU l).length ≤ 61984 := by
  unfold putU
  split
  · rename_i h0
    have h1 := bodyB_le (putUErr_zero.1 h0).2.2.1
    rw [List.length_append, zeros_len]; omega
  · simp
set_option maxRecDepth 100000 in
theorem paths_ok {l : List F8} (h : putUErr l = 0) : ∀ f ∈ l, f.1.length ≤ 254 := fun f hf => by
  have h1 := firstErr_zero.1 (putUErr_zero.1 h).2.2.1 f hf
  exact (split_some ((putHErr_ok _ _).1 h1).1).2.1
set_option maxRecDepth 100000 in
theorem nat_least (A B C q z : Nat) (h : A + C ≤ B) : A + 512 + (q + C) ≤ 512 + q + z + B := by omega
set_option maxRecDepth 100000 in
theorem body_least {l : List F8} (h : firstErr l = 0) : l.length * 512 + totalB l ≤ (bodyB l).length := by
  induction l with
  | nil => simp [totalB]
  | cons f t ih =>
    have hf := firstErr_zero.1 h
    have ih := ih (firstErr_zero.2 fun g hg => hf g (List.mem_cons.2 (.inr hg)))
    rw [bodyB, List.length_append, fileB_len (hf f (List.mem_cons.2 (.inl rfl))), totalB, List.length_cons, Nat.add_mul, Nat.one_mul]
    exact nat_least _ _ _ _ _ ih
set_option maxRecDepth 100000 in
theorem getU_small {b : List UInt8} (h : getUErr b = 0) (hb : b.length ≤ 60000) : (getU b).length ≤ 200 ∧ totalB (getU b) ≤ 60000 ∧ ∀ f ∈ getU b, f.1.length < 1152921504606846976 := by
  obtain ⟨h1, h2⟩ := put_getU h
  have h3 := (putUErr_zero.1 h1).2.2.1
  have h4 : (bodyB (getU b)).length + 1024 ≤ 60000 := by
    have := congrArg List.length h2
    rw [putU, if_pos h1, List.length_append, zeros_len] at this; omega
  have := body_least h3
  exact ⟨by omega, by omega, fun f hf => by have := paths_ok h1 f hf; omega⟩
set_option maxRecDepth 100000 in
set_option maxHeartbeats 8000000 in
theorem ustarBack_walk (F : UstarFace) (w : World) (v : Value) (l : List F8) (hv : HasFiles w v l) (hp : ∀ f ∈ l, f.1.length < 1152921504606846976) (hd : ∀ f ∈ l, f.2.length ≤ 140737488355328) (hl : l.length < 4611686018427387904) :
    Calls Tryd.prog 5 #[v] w fun e w' => e = .returned (.bool true) ∧ Below w.heap.size w w' := by
  have AW := Lib.hid (awake8_any F)
  have SM := Lib.hid (fun w hv => small_any w v l hv hd hl)
  have HV := Lib.hid hv
  have HPL := Lib.hid hp
  obtain ⟨n, hn⟩ : ∃ n, n = l.length := ⟨_, rfl⟩
  obtain ⟨ao, cap, rfl⟩ := files_shape hv n hn
  have HN := Lib.hid hn
  clear hv hd hl hp hn
  cases hs : smallB l with
  | false =>
    rw [hs] at SM
    clear hs
    go_enter Tryd.func5, Tryd.ntmps5
    go_wp2_with (first | (go_at_call 10; refine (AW.out _).mono ?_; rintro e w1 ⟨rfl, hb⟩; have B1 := Lib.hid hb; clear hb) | (go_at_call 11; refine (SM.out _ (files_below HV.out B1.out)).mono ?_; rintro e w2 ⟨rfl, rfl⟩))
    go_ret
    exact ⟨rfl, B1.out⟩
  | true =>
    rw [hs] at SM
    have hsm := small_of hs
    have HSM := Lib.hid hsm
    have P1 := Lib.hid (fun w hv => F.put w (.slice ao n cap) l hv HPL.out (by omega) (by omega))
    clear hs hsm
    obtain ⟨E, hE⟩ : ∃ E, putUErr l = E := ⟨_, rfl⟩
    rw [hE] at P1
    by_cases h0 : E = 0
    · subst h0
      obtain ⟨g1, g2⟩ := get_putU hE
      have HL := Lib.hid (And.intro (putU_le HSM.out) (putU_mul hE))
      have G1 := Lib.hid (fun w v hv => F.get w v (putU l) hv (by have := HL.out.1; omega))
      rw [g1, g2] at G1
      obtain ⟨X, hX⟩ : ∃ X, putU l = X := ⟨_, rfl⟩
      rw [hX] at P1 G1 HL
      obtain ⟨m, hm⟩ : ∃ m, X.length = m := ⟨_, rfl⟩
      have HM := Lib.hid hm
      have tm : (m : Int).tmod 512 = 0 := by have := HL.out.2; rw [hm] at this; rw [Int.tmod_eq_emod_of_nonneg (by omega)]; omega
      have SA := Lib.hid (fun w x y hx hy => same_any w x y l l hx hy (by have := HSM.out; omega) (by have := HSM.out; omega))
      rw [decide_eq_true rfl] at SA
      clear hE g1 g2 hX hm
      go_enter Tryd.func5, Tryd.ntmps5
      go_wp2_with (first
        | (go_at_call 10; refine (AW.out _).mono ?_; rintro e w1 ⟨rfl, hb⟩; have B1 := Lib.hid hb; clear hb)
        | (go_at_call 11; refine (SM.out _ (files_below HV.out B1.out)).mono ?_; rintro e w2 ⟨rfl, rfl⟩)
        | (go_at_call 12; refine (P1.out _ (files_below HV.out B1.out)).mono ?_; rintro e w3 ⟨x, rfl, ⟨hx, -⟩, hb⟩; have HX := Lib.hid hx; obtain ⟨xo, xc, rfl⟩ := text_len hx m HM.out; have B3 := Lib.hid (below_next B1.out hb); clear hx hb)
        | (go_at_call 16; refine (G1.out _ _ HX.out).mono ?_; rintro e w4 ⟨y, rfl, hy, hb⟩; have HY := Lib.hid hy; have B4 := Lib.hid (below_next B3.out hb); clear hy hb)
        | (go_at_call 18; refine (SA.out _ _ _ (files_below HV.out B4.out) HY.out).mono ?_; rintro e w5 ⟨rfl, hb⟩; have B5 := Lib.hid (below_next B4.out hb); clear hb))
      go_ret
      exact ⟨rfl, B5.out⟩
    · have hX : putU l = [] := by rw [putU, if_neg (by rw [hE]; exact h0)]
      rw [hX] at P1
      have tE : (E != 0) = true := bne_iff_ne.2 h0
      clear h0 hE hX
      go_enter Tryd.func5, Tryd.ntmps5
      go_wp2_with (first
        | (go_at_call 10; refine (AW.out _).mono ?_; rintro e w1 ⟨rfl, hb⟩; have B1 := Lib.hid hb; clear hb)
        | (go_at_call 11; refine (SM.out _ (files_below HV.out B1.out)).mono ?_; rintro e w2 ⟨rfl, rfl⟩)
        | (go_at_call 12; refine (P1.out _ (files_below HV.out B1.out)).mono ?_; rintro e w3 ⟨x, rfl, ⟨hx, -⟩, hb⟩; obtain ⟨xo, xc, rfl⟩ := text_len hx 0 rfl; have B3 := Lib.hid (below_next B1.out hb); clear hx hb))
      go_ret
      exact ⟨rfl, B3.out⟩
end Go.Proofs.YtocpplnnnflekaaDoor
