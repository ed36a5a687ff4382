/-
The walk of EventBad.
-/
import Derived.Test.YteooklnejiipkaaDoorPk6
namespace Go.Proofs.YteooklnejiipkaaDoor
open Go.RowKit
theorem isE_pieces {s : List UInt8} (h : isE s = true) : piecesB 32 s = wordsE (evOf s) := by
  obtain ⟨h1, h2⟩ := isE_may h
  have := pieces_line h1 (evOf_lt s)
  rwa [h2] at this
theorem isE_four {s : List UInt8} (h : ¬ ((piecesB 32 s).length = 4 ∨ (piecesB 32 s).length = 6)) : isE s = false := by
  rw [isE, Bool.and_eq_false_iff]; left
  simpa using h
theorem words_four (e : Ev) : (wordsE e).length = 4 ∨ (wordsE e).length = 6 := by unfold wordsE; split <;> simp
theorem bad_behind {e : Ev} (h : mayE e = true) (hf : ∀ i, u32 (e.sum i) < 256) : isE (lineE e ++ [32]) = false := by
  refine isE_four ?_
  have h1 : piecesB 32 (lineE e ++ [32]) = piecesB 32 (lineE e) ++ [[]] := by
    rw [piecesB, cutS_snoc, cutStep, if_pos rfl]; rfl
  rw [h1, pieces_line h hf, List.length_append]
  have := words_four e
  simp only [List.length_cons, List.length_nil]; omega
theorem bad_ahead {e : Ev} (h : mayE e = true) (hf : ∀ i, u32 (e.sum i) < 256) : isE (32 :: lineE e) = false := by
  refine isE_four ?_
  have h1 : piecesB 32 (32 :: lineE e) = [] :: piecesB 32 (lineE e) := pieces_front (p := []) (by simp)
  rw [h1, pieces_line h hf, List.length_cons]
  have := words_four e
  omega
/-- The other word. -/
def otherW (e : Ev) : List UInt8 := if e.kind = 2 then putW else delW
theorem line_split (e : Ev) : ∃ w r, lineE e = w ++ 32 :: r ∧ w.length = 3 ∧ (32 : UInt8) ∉ w ∧ wordsE e = w :: (wordsE e).tail ∧ (if e.kind = 2 then w = delW else w = putW) := by
  unfold lineE wordsE
  split
  · exact ⟨delW, _, rfl, rfl, by decide, rfl, rfl⟩
  · exact ⟨putW, _, rfl, rfl, by decide, rfl, rfl⟩
theorem bad_word {e : Ev} (h : mayE e = true) (hf : ∀ i, u32 (e.sum i) < 256) : isE (otherW e ++ (lineE e).drop 3) = false := by
  obtain ⟨w, r, h1, h2, h3, h4, h5⟩ := line_split e
  have h6 : (lineE e).drop 3 = 32 :: r := by rw [h1, ← h2, List.drop_left]
  have h7 : piecesB 32 (lineE e) = w :: piecesB 32 r := by rw [h1]; exact pieces_front h3
  rw [pieces_line h hf] at h7
  have h8 : (32 : UInt8) ∉ otherW e := by unfold otherW; split <;> decide
  have h9 : piecesB 32 (otherW e ++ (lineE e).drop 3) = otherW e :: piecesB 32 r := by rw [h6]; exact pieces_front h8
  cases hc : isE (otherW e ++ (lineE e).drop 3) with
  | false => rfl
  | true =>
    have hp := isE_pieces hc
    rw [h9] at hp
    have hlen : (wordsE e).length = (wordsE (evOf (otherW e ++ (lineE e).drop 3))).length := by rw [← hp, h7]; rfl
    generalize evOf (otherW e ++ (lineE e).drop 3) = e' at *
    unfold otherW at hp
    by_cases hk : e.kind = 2
    · rw [if_pos hk] at hp
      by_cases hk' : e'.kind = 2
      · simp only [wordsE, if_pos hk', List.cons.injEq] at hp
        exact absurd hp.1 (by decide)
      · simp only [wordsE, if_pos hk, if_neg hk'] at hlen; simp at hlen
    · rw [if_neg hk] at hp
      by_cases hk' : e'.kind = 2
      · simp only [wordsE, if_neg hk, if_pos hk'] at hlen; simp at hlen
      · simp only [wordsE, if_neg hk', List.cons.injEq] at hp
        exact absurd hp.1 (by decide)
theorem bad_cut {e : Ev} {k : Nat} (hk : k < (lineE e).length) : isE ((lineE e).take k) = false ∨ sameEv (parE ((lineE e).take k)) e = false := by
  cases hc : isE ((lineE e).take k) with
  | false => exact .inl rfl
  | true =>
    right
    cases hs : sameEv (parE ((lineE e).take k)) e with
    | false => rfl
    | true =>
      have h1 := (isE_may hc).2
      have h2 := line_same ((sameEv_iff _ _).1 hs)
      rw [parE, hc] at h2
      have h3 : lineE (evOf ((lineE e).take k)) = lineE e := h2
      rw [h1] at h3
      have := congrArg List.length h3
      rw [List.length_take] at this; omega
theorem line_long {e : Ev} : 4 ≤ (lineE e).length := by
  obtain ⟨w, r, h1, h2, -⟩ := line_split e
  rw [h1, List.length_append, h2]; simp; omega
theorem otherW_len (e : Ev) : (otherW e).length = 3 := by unfold otherW; split <;> rfl
theorem bad_nums (c m k : Nat) (hc : c < 256) (hk : k = c % m) : wrap64 (c : Int) = (c : Int) ∧ wrap64 (k : Int) = (k : Int) ∧ (c : Int).tmod (m : Int) = (k : Int) ∧ (c : Int) % (m : Int) = (k : Int) := by
  have h1 : k ≤ c := by rw [hk]; exact Nat.mod_le _ _
  refine ⟨by rw [wrap64]; omega, by rw [wrap64]; omega, ?_, by rw [hk]; rfl⟩
  rw [Int.tmod_eq_emod_of_nonneg (by omega), hk]; rfl
theorem parE_fit12 (s : List UInt8) : (parE s).deps.length < 2000000 := by
  rcases parEErr_cases s with ⟨-, h, he⟩ | ⟨-, h, he⟩
  · rw [he]; unfold evOf; split
    · exact parV_len _
    · exact parV_len _
  · rw [he]; decide
theorem parErr_bad {s : List UInt8} (h : isE s = false) : parEErr s = 2 := by rw [parEErr, h]; rfl
set_option maxRecDepth 100000 in
set_option maxHeartbeats 16000000 in
theorem eventBad_walk (e : Ev) (hp : e.path.length < 1152921504606846976) (hf : ∀ i, u32 (e.sum i) < 256) (c : Nat) (hc : c < 256) (v : Value) (w : World) (hv : HasDots w v e.deps) (hT : PowTab w) :
    Calls Tryd.prog 6 #[.agg (evC e v), .int .u8 (c : Int)] w fun e w' => e = .returned (.bool true) ∧ Below w.heap.size w w' := by
  have HT := Lib.hid hT
  have HC := Lib.hid hc
  clear hc
  obtain ⟨n, hn⟩ : ∃ n, n = e.deps.length := ⟨_, rfl⟩
  obtain ⟨ao, cap, rfl⟩ := dots_shape hv n hn
  have E0 := Lib.hid (box_ev w 29 e (.slice ao n cap))
  have V0 := Lib.hid (dots_below hv ((Below.refl w.heap.size w).alloc (Nat.le_refl _) (.cells (evC e (.slice ao n cap)) 29 (0, 0))))
  have B0 := Lib.hid ((Below.refl w.heap.size w).alloc (Nat.le_refl _) (.cells (evC e (.slice ao n cap)) 29 (0, 0)))
  by_cases h1 : 100 < n
  · have q1 : (100 : Int) < (n : Int) := by omega
    clear hv hT hn hf hp h1
    go_enter Tryd.func6, Tryd.ntmps6
    go_upto_region 1 with fail
    generalize w.alloc (.cells (evC e (.slice ao n cap)) 29 (0, 0)) = W0 at *
    go_wp2_with (first
      | (go_at_call 7; refine (awake12_any _ (powTab_below HT.out B0.out)).mono ?_; rintro x1 w1 ⟨rfl, hb⟩; have E1 := Lib.hid (evAt_kept E0.out hb); have V1 := Lib.hid (dots_below V0.out hb); have B1 := Lib.hid (below_next B0.out hb); obtain ⟨-, -, c2, -, -, -⟩ := evAt_cells E1.out; clear hb))
    go_ret
    exact ⟨rfl, B1.out⟩
  · have q1 : ¬ (100 : Int) < (n : Int) := by omega
    have hl : e.deps.length < 2000000 := by omega
    have LE := Lib.hid (fun w hv hT => line_any12 ownSays e hl hp hf (.slice ao n cap) w hv hT)
    cases hm : mayE e with
    | false =>
      have hT1 : lineT e = [] ∧ lineErr e = 1 := by simp [lineT, lineErr, hm]
      rw [hT1.1, hT1.2] at LE
      clear hT1 hm hv hT hn hf hp h1 hl
      go_enter Tryd.func6, Tryd.ntmps6
      go_upto_region 1 with fail
      generalize w.alloc (.cells (evC e (.slice ao n cap)) 29 (0, 0)) = W0 at *
      go_upto_region 2 with (first
        | (go_at_call 7; refine (awake12_any _ (powTab_below HT.out B0.out)).mono ?_; rintro x1 w1 ⟨rfl, hb⟩; have E1 := Lib.hid (evAt_kept E0.out hb); have V1 := Lib.hid (dots_below V0.out hb); have B1 := Lib.hid (below_next B0.out hb); obtain ⟨-, -, c2, -, -, -⟩ := evAt_cells E1.out; clear hb))
      go_wp2_with (first
        | (refine load_ev_on (by rfl) 29 (.tmp 2) rfl w.heap.size rfl E1.out Tryd.underlying29 evSize ?_)
        | (go_at_call 8; refine (LE.out _ V1.out (powTab_below HT.out B1.out)).mono ?_; rintro x1 w2 ⟨rfl, hb⟩; have E2 := Lib.hid (evAt_kept E1.out hb); have V2 := Lib.hid (dots_below V1.out hb); have B2 := Lib.hid (below_next B1.out hb); clear hb))
      go_ret
      exact ⟨by first | rfl | simp, B2.out⟩
    | true =>
      have hT1 : lineT e = lineE e ∧ lineErr e = 0 := by simp [lineT, lineErr, hm]
      rw [hT1.1, hT1.2] at LE
      obtain ⟨s, hs⟩ : ∃ s, s = lineE e := ⟨_, rfl⟩
      rw [← hs] at LE
      obtain ⟨m, hm2⟩ : ∃ m, m = s.length := ⟨_, rfl⟩
      have h4 : 4 ≤ m := by rw [hm2, hs]; exact line_long
      have h5 : m ≤ 600006 := by rw [hm2, hs]; exact line_small hm
      obtain ⟨k, hk⟩ : ∃ k, k = c % m := ⟨_, rfl⟩
      have hkm : k < m := by rw [hk]; exact Nat.mod_lt _ (by omega)
      have hz : (str s).size = m := by rw [str_size, hm2]
      have P1 := Lib.hid (fun w hT => parse_any12 ownSays (s.take k) (by rw [List.length_take]; omega) w hT)
      have P2 := Lib.hid (show ∀ w, PowTab w → Calls Tryd.prog 9 #[.string (str s ++ ⟨#[32]⟩)] w fun x w' => ∃ q u, x = .returned (.tuple #[.agg (evC q u), .int .i64 2]) ∧ HasDots w' u q.deps ∧ Below w.heap.size w w' from fun w hT => by
        rw [show (str s ++ ⟨#[32]⟩ : ByteArray) = str (s ++ [32]) from str_append s [32]]
        refine (parse_any12 ownSays (s ++ [32]) (by rw [List.length_append]; simp; omega) w hT).mono ?_
        rintro x w' ⟨u, rfl, h1, h2⟩
        exact ⟨_, u, by rw [parErr_bad (by rw [hs]; exact bad_behind hm hf)], h1.1, h2⟩)
      have P3 := Lib.hid (show ∀ w, PowTab w → Calls Tryd.prog 9 #[.string (⟨#[32]⟩ ++ str s)] w fun x w' => ∃ q u, x = .returned (.tuple #[.agg (evC q u), .int .i64 2]) ∧ HasDots w' u q.deps ∧ Below w.heap.size w w' from fun w hT => by
        rw [show (⟨#[32]⟩ ++ str s : ByteArray) = str (32 :: s) from str_append [32] s]
        refine (parse_any12 ownSays (32 :: s) (by rw [List.length_cons]; omega) w hT).mono ?_
        rintro x w' ⟨u, rfl, h1, h2⟩
        exact ⟨_, u, by rw [parErr_bad (by rw [hs]; exact bad_ahead hm hf)], h1.1, h2⟩)
      have P4 := Lib.hid (show ∀ wd, str (otherW e) = wd → ∀ w, PowTab w → Calls Tryd.prog 9 #[.string (wd ++ str (s.drop 3))] w fun x w' => ∃ q u, x = .returned (.tuple #[.agg (evC q u), .int .i64 2]) ∧ HasDots w' u q.deps ∧ Below w.heap.size w w' from fun wd hwd w hT => by
        rw [← hwd, str_append]
        refine (parse_any12 ownSays (otherW e ++ s.drop 3) (by rw [List.length_append, List.length_drop]; rw [otherW_len]; omega) w hT).mono ?_
        rintro x w' ⟨u, rfl, h1, h2⟩
        exact ⟨_, u, by rw [parErr_bad (by rw [hs]; exact bad_word hm hf)], h1.1, h2⟩)
      have CS := Lib.hid (show parEErr (s.take k) = 2 ∨ parEErr (s.take k) = 0 ∧ sameEv (parE (s.take k)) e = false by
        rcases bad_cut (e := e) (k := k) (by rw [← hs, ← hm2]; exact hkm) with h | h
        · rw [← hs] at h; exact .inl (parErr_bad h)
        · rw [← hs] at h
          rcases parEErr_cases (s.take k) with ⟨a, -⟩ | ⟨a, -⟩
          · exact .inr ⟨a, h⟩
          · exact .inl a)
      have SM := Lib.hid (fun v u w hv hu => same_any12 (parE (s.take k)) e (parE_fit12 (s.take k)) v u w hv hu)
      have SK := fun w => slice_to6 (P := Tryd.prog) w 9 s k (by omega) Tryd.underlying9
      have SD : ∀ w, (Instr.slice 9 (.string (str s)) (some (.int .i64 3)) none none).run Tryd.prog w = .ok (.string (str (s.drop 3))) w := fun w => slice_from6 (P := Tryd.prog) w 9 s 3 (by omega) Tryd.underlying9
      have OK := Lib.hid (show (e.kind = 2 ∧ otherW e = putW) ∨ (¬ e.kind = 2 ∧ otherW e = delW) by unfold otherW; by_cases h : e.kind = 2 <;> simp [h])
      have q4 : ¬ (m : Int) < 4 := by omega
      have hpos : 0 < m := by omega
      have a1 : ¬ 9223372036854775807 < m + 1 := by omega
      have a2 : ¬ 9223372036854775807 < 1 + m := by omega
      obtain ⟨d, hd⟩ : ∃ d, (str (s.drop 3)).size = d := ⟨_, rfl⟩
      have a3 : ¬ 9223372036854775807 < 3 + d := by rw [← hd, str_size, List.length_drop]; omega
      obtain ⟨wc, wk, r1, r2⟩ := bad_nums c m k HC.out hk
      have HH := Lib.hid (And.intro h4 (And.intro h5 (And.intro hkm hm2)))
      clear hT1 hm hv hT hn hf hp h1 hl hs hk h4 h5 hkm hm2
      go_enter Tryd.func6, Tryd.ntmps6
      go_upto_region 1 with fail
      generalize w.alloc (.cells (evC e (.slice ao n cap)) 29 (0, 0)) = W0 at *
      go_upto_region 2 with (first
        | (go_at_call 7; refine (awake12_any _ (powTab_below HT.out B0.out)).mono ?_; rintro x1 w1 ⟨rfl, hb⟩; have E1 := Lib.hid (evAt_kept E0.out hb); have V1 := Lib.hid (dots_below V0.out hb); have B1 := Lib.hid (below_next B0.out hb); obtain ⟨-, -, c2, -, -, -⟩ := evAt_cells E1.out; clear hb))
      go_upto_region 5 with (first
        | (refine load_ev_on (by rfl) 29 (.tmp 2) rfl w.heap.size rfl E1.out Tryd.underlying29 evSize ?_)
        | (go_at_call 8; refine (LE.out _ V1.out (powTab_below HT.out B1.out)).mono ?_; rintro x1 w2 ⟨rfl, hb⟩; have E2 := Lib.hid (evAt_kept E1.out hb); have V2 := Lib.hid (dots_below V1.out hb); have B2 := Lib.hid (below_next B1.out hb); clear hb))
      go_upto_region 9 with (first
        | (go_at_call 9; refine (P1.out _ (powTab_below HT.out B2.out)).mono ?_; rintro x1 w3 ⟨u, rfl, hu, hb⟩; have E3 := Lib.hid (evAt_kept E2.out hb); have V3 := Lib.hid (dots_below V2.out hb); have B3 := Lib.hid (below_next B2.out hb); have R3 := Lib.hid hu; obtain ⟨ao2, cap2, rfl⟩ := dots_shape hu.1 _ rfl; clear hb hu)
        | (refine store_new rfl 29 (.tmp 9) (.tmp 51) rfl rfl w3 _ (evC (parE (s.take k)) (.slice ao2 (parE (s.take k)).deps.length cap2)) 29 rfl rfl rfl (by rw [evSize, evC_size]) (by rw [evC_size]; rfl) (evC_one _ _ rfl) ?_; rintro W3 hg hb hlt; have A4 := Lib.hid (show EvAt W3 w3.heap.size 29 (parE (s.take k)) (.slice ao2 (parE (s.take k)).deps.length cap2) from hg); have R4 := Lib.hid (typ_below R3.out hb); have E4 := Lib.hid (evAt_kept E3.out hb); have V4 := Lib.hid (dots_below V3.out hb); have B4 := Lib.hid (below_next B3.out hb); clear hg hb hlt))
      go_upto_region 10 with (first
        | (go_at_call 9; refine (P2.out _ (powTab_below HT.out B4.out)).mono ?_; rintro x1 w5 ⟨q5, u5, rfl, hu, hb⟩; have E5 := Lib.hid (evAt_kept E4.out hb); have V5 := Lib.hid (dots_below V4.out hb); have A5 := Lib.hid (evAt_kept A4.out hb); have R5 := Lib.hid (typ_below R4.out hb); have B5 := Lib.hid (below_next B4.out hb); obtain ⟨ao5, cap5, rfl⟩ := dots_shape hu _ rfl; clear hb hu)
        | (refine store_new rfl 29 (.tmp 11) (.tmp 57) rfl rfl w5 _ (evC q5 (.slice ao5 q5.deps.length cap5)) 29 rfl rfl rfl (by rw [evSize, evC_size]) (by rw [evC_size]; rfl) (evC_one _ _ rfl) ?_; rintro W5 hg hb hlt; have E6 := Lib.hid (evAt_kept E5.out hb); have V6 := Lib.hid (dots_below V5.out hb); have A6 := Lib.hid (evAt_kept A5.out hb); have R6 := Lib.hid (typ_below R5.out hb); have B6 := Lib.hid (below_next B5.out hb); clear hg hb hlt))
      go_upto_region 11 with (first
        | (go_at_call 9; refine (P3.out _ (powTab_below HT.out B6.out)).mono ?_; rintro x1 w7 ⟨q7, u7, rfl, hu, hb⟩; have E7 := Lib.hid (evAt_kept E6.out hb); have V7 := Lib.hid (dots_below V6.out hb); have A7 := Lib.hid (evAt_kept A6.out hb); have R7 := Lib.hid (typ_below R6.out hb); have B7 := Lib.hid (below_next B6.out hb); obtain ⟨ao7, cap7, rfl⟩ := dots_shape hu _ rfl; clear hb hu)
        | (refine store_new rfl 29 (.tmp 13) (.tmp 63) rfl rfl w7 _ (evC q7 (.slice ao7 q7.deps.length cap7)) 29 rfl rfl rfl (by rw [evSize, evC_size]) (by rw [evC_size]; rfl) (evC_one _ _ rfl) ?_; rintro W7 hg hb hlt; have E8 := Lib.hid (evAt_kept E7.out hb); have V8 := Lib.hid (dots_below V7.out hb); have A8 := Lib.hid (evAt_kept A7.out hb); have R8 := Lib.hid (typ_below R7.out hb); have B8 := Lib.hid (below_next B7.out hb); clear hg hb hlt))
      rcases OK.out with ⟨k1, k2⟩ | ⟨k1, k2⟩
      · obtain ⟨-, -, -, c3, -, -⟩ := evAt_cells E8.out
        go_upto_region 15 with (first
          | (go_at_call 9; refine (P4.out ⟨#[112, 117, 116]⟩ (by rw [k2]; rfl) _ (powTab_below HT.out B8.out)).mono ?_; rintro x1 w9 ⟨q9, u9, rfl, hu, hb⟩; have E9 := Lib.hid (evAt_kept E8.out hb); have V9 := Lib.hid (dots_below V8.out hb); have A9 := Lib.hid (evAt_kept A8.out hb); have R9 := Lib.hid (typ_below R8.out hb); have B9 := Lib.hid (below_next B8.out hb); obtain ⟨ao9, cap9, rfl⟩ := dots_shape hu _ rfl; clear hb hu)
          | (refine store_new rfl 29 (.tmp 16) (.tmp 74) rfl rfl w9 _ (evC q9 (.slice ao9 q9.deps.length cap9)) 29 rfl rfl rfl (by rw [evSize, evC_size]) (by rw [evC_size]; rfl) (evC_one _ _ rfl) ?_; rintro W9 hg hb hlt; have E10 := Lib.hid (evAt_kept E9.out hb); have V10 := Lib.hid (dots_below V9.out hb); have A10 := Lib.hid (evAt_kept A9.out hb); have R10 := Lib.hid (typ_below R9.out hb); have B10 := Lib.hid (below_next B9.out hb); clear hg hb hlt))
        rcases CS.out with g1 | ⟨g1, g2⟩
        · rw [g1]
          go_wp2
          go_ret
          exact ⟨by first | rfl | simp, B10.out⟩
        · rw [g1]
          rw [g2] at SM
          go_wp2_with (first
            | (refine load_ev_on (by rfl) 29 (.tmp 9) rfl w3.heap.size rfl A10.out Tryd.underlying29 evSize ?_)
            | (refine load_ev_on (by rfl) 29 (.tmp 2) rfl w.heap.size rfl E10.out Tryd.underlying29 evSize ?_)
            | (go_at_call 16; refine (SM.out _ _ _ R10.out.1 V10.out).mono ?_; rintro x1 w11 ⟨rfl, hb⟩; have B11 := Lib.hid (below_next B10.out hb); clear hb))
          go_ret
          exact ⟨by first | rfl | simp, B11.out⟩
      · have q8 : (e.kind == 2) = false := beq_eq_false_iff_ne.2 k1
        obtain ⟨-, -, -, c3, -, -⟩ := evAt_cells E8.out
        go_upto_region 15 with (first
          | (go_at_call 9; refine (P4.out ⟨#[100, 101, 108]⟩ (by rw [k2]; rfl) _ (powTab_below HT.out B8.out)).mono ?_; rintro x1 w9 ⟨q9, u9, rfl, hu, hb⟩; have E9 := Lib.hid (evAt_kept E8.out hb); have V9 := Lib.hid (dots_below V8.out hb); have A9 := Lib.hid (evAt_kept A8.out hb); have R9 := Lib.hid (typ_below R8.out hb); have B9 := Lib.hid (below_next B8.out hb); obtain ⟨ao9, cap9, rfl⟩ := dots_shape hu _ rfl; clear hb hu)
          | (refine store_new rfl 29 (.tmp 16) (.tmp 74) rfl rfl w9 _ (evC q9 (.slice ao9 q9.deps.length cap9)) 29 rfl rfl rfl (by rw [evSize, evC_size]) (by rw [evC_size]; rfl) (evC_one _ _ rfl) ?_; rintro W9 hg hb hlt; have E10 := Lib.hid (evAt_kept E9.out hb); have V10 := Lib.hid (dots_below V9.out hb); have A10 := Lib.hid (evAt_kept A9.out hb); have R10 := Lib.hid (typ_below R9.out hb); have B10 := Lib.hid (below_next B9.out hb); clear hg hb hlt))
        rcases CS.out with g1 | ⟨g1, g2⟩
        · rw [g1]
          go_wp2
          go_ret
          exact ⟨by first | rfl | simp, B10.out⟩
        · rw [g1]
          rw [g2] at SM
          go_wp2_with (first
            | (refine load_ev_on (by rfl) 29 (.tmp 9) rfl w3.heap.size rfl A10.out Tryd.underlying29 evSize ?_)
            | (refine load_ev_on (by rfl) 29 (.tmp 2) rfl w.heap.size rfl E10.out Tryd.underlying29 evSize ?_)
            | (go_at_call 16; refine (SM.out _ _ _ R10.out.1 V10.out).mono ?_; rintro x1 w11 ⟨rfl, hb⟩; have B11 := Lib.hid (below_next B10.out hb); clear hb))
          go_ret
          exact ⟨by first | rfl | simp, B11.out⟩
end Go.Proofs.YteooklnejiipkaaDoor
