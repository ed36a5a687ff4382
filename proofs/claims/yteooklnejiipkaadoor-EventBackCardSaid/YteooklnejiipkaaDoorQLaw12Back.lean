/-
The walk of EventBack.
-/
import Derived.Test.YteooklnejiipkaaDoorPk6
namespace Go.Proofs.YteooklnejiipkaaDoor
open Go.RowKit
theorem noEv_may : mayE noEv = false := by decide +kernel
theorem parE_fit (s : List UInt8) : (parE s).deps.length < 2000000 ∧ (parE s).path.length < 1152921504606846976 ∧ ∀ i, u32 ((parE s).sum i) < 256 := by
  rcases parEErr_cases s with ⟨-, h, he⟩ | ⟨-, h, he⟩
  · rw [he]
    have hm := (isE_may h).1
    have hp := ((own_iff _).1 (by simp only [mayE, Bool.and_eq_true] at hm; exact hm.2.2.1 : ownP (evOf s).path = true)).2.2.1
    refine ⟨?_, by omega, evOf_lt s⟩
    unfold evOf; split
    · exact parV_len _
    · exact parV_len _
  · rw [he]; exact ⟨by decide, by decide, fun i => zeroF_byt i⟩
theorem len_gt {n : Nat} {k : Nat} : ((k : Int) < (n : Int)) ↔ k < n := by omega
set_option maxRecDepth 100000 in
set_option maxHeartbeats 16000000 in
theorem eventBack_walk (e : Ev) (hp : e.path.length < 1152921504606846976) (hf : ∀ i, u32 (e.sum i) < 256) (s : List UInt8) (hs : s.length < 1152921504606846976) (v : Value) (w : World) (hv : HasDots w v e.deps) (hT : PowTab w) :
    Calls Tryd.prog 3 #[.agg (evC e v), .string (str s)] w fun e w' => e = .returned (.bool true) ∧ Below w.heap.size w w' := by
  have HT := Lib.hid hT
  have hz : (str s).size = s.length := str_size s
  obtain ⟨n, hn⟩ : ∃ n, n = e.deps.length := ⟨_, rfl⟩
  obtain ⟨m, hm⟩ : ∃ m, m = s.length := ⟨_, rfl⟩
  rw [← hm] at hz
  obtain ⟨ao, cap, rfl⟩ := dots_shape hv n hn
  have E0 := Lib.hid (box_ev w 29 e (.slice ao n cap))
  have V0 := Lib.hid (dots_below hv ((Below.refl w.heap.size w).alloc (Nat.le_refl _) (.cells (evC e (.slice ao n cap)) 29 (0, 0))))
  have B0 := Lib.hid ((Below.refl w.heap.size w).alloc (Nat.le_refl _) (.cells (evC e (.slice ao n cap)) 29 (0, 0)))
  have HM := Lib.hid (show m < 1152921504606846976 by omega)
  by_cases h1 : 100 < n
  · have q1 : (100 : Int) < (n : Int) := by omega
    clear hv hT hn hm hs hf hp h1
    go_enter Tryd.func3, Tryd.ntmps3
    go_upto_region 1 with fail
    generalize w.alloc (.cells (evC e (.slice ao n cap)) 29 (0, 0)) = W0 at *
    go_wp2_with (first
      | (go_at_call 7; refine (awake12_any _ (powTab_below HT.out B0.out)).mono ?_; rintro x1 w1 ⟨rfl, hb⟩; have E1 := Lib.hid (evAt_kept E0.out hb); have V1 := Lib.hid (dots_below V0.out hb); have B1 := Lib.hid (below_next B0.out hb); obtain ⟨-, -, c2, -, -, -⟩ := evAt_cells E1.out; clear hb))
    go_ret
    exact ⟨rfl, B1.out⟩
  · have q1 : ¬ (100 : Int) < (n : Int) := by omega
    by_cases h2 : 5000 < m
    · have q2 : (5000 : Int) < (m : Int) := by omega
      clear hv hT hn hm hs hf hp h1 h2
      go_enter Tryd.func3, Tryd.ntmps3
      go_upto_region 1 with fail
      generalize w.alloc (.cells (evC e (.slice ao n cap)) 29 (0, 0)) = W0 at *
      go_wp2_with (first
        | (go_at_call 7; refine (awake12_any _ (powTab_below HT.out B0.out)).mono ?_; rintro x1 w1 ⟨rfl, hb⟩; have E1 := Lib.hid (evAt_kept E0.out hb); have V1 := Lib.hid (dots_below V0.out hb); have B1 := Lib.hid (below_next B0.out hb); obtain ⟨-, -, c2, -, -, -⟩ := evAt_cells E1.out; clear hb))
      go_ret
      exact ⟨rfl, B1.out⟩
    · have q2 : ¬ (5000 : Int) < (m : Int) := by omega
      have hl : e.deps.length < 2000000 := by omega
      have hs' : s.length < 4294967281 := by omega
      have LE := Lib.hid (fun w hv hT => line_any12 ownSays e hl hp hf (.slice ao n cap) w hv hT)
      have ME := Lib.hid (fun w hv hT => may_any12 ownSays e hl hp (.slice ao n cap) w hv hT)
      have PS := Lib.hid (fun w hT => parse_any12 ownSays s hs' w hT)
      obtain ⟨f1, f2, f3⟩ := parE_fit s
      have LQ := Lib.hid (fun v w hv hT => line_any12 ownSays (parE s) f1 f2 f3 v w hv hT)
      have MQ := Lib.hid (fun v w hv hT => may_any12 ownSays (parE s) f1 f2 v w hv hT)
      have CS := Lib.hid (show (parEErr s = 0 ∧ mayE (parE s) = true ∧ lineT (parE s) = s ∧ lineErr (parE s) = 0) ∨ (parEErr s = 2 ∧ mayE (parE s) = false ∧ lineT (parE s) = [] ∧ lineErr (parE s) = 1 ∧ (parE s).path = []) by
        rcases parEErr_cases s with ⟨a, h, he⟩ | ⟨a, h, he⟩
        · obtain ⟨g1, g2⟩ := isE_may h
          exact .inl ⟨a, by rw [he]; exact g1, by rw [he, lineT, g1, g2]; rfl, by rw [he, lineErr, g1]; rfl⟩
        · exact .inr ⟨a, by rw [he]; exact noEv_may, by rw [he, lineT, noEv_may]; rfl, by rw [he, lineErr, noEv_may]; rfl, by rw [he]; rfl⟩)
      have PL := Lib.hid (show mayE e = true → (∀ w, PowTab w → Calls Tryd.prog 9 #[.string (str (lineE e))] w fun x w' => ∃ v, x = .returned (.tuple #[.agg (evC (parE (lineE e)) v), .int .i64 0]) ∧ TypDots w' v (parE (lineE e)).deps ∧ Below w.heap.size w w') ∧ sameEv (parE (lineE e)) e = true from fun hm => by
        have h := isE_line hm hf
        refine ⟨fun w hT => ?_, ?_⟩
        · have hh := parse_any12 ownSays (lineE e) (by have := line_small hm; omega) w hT
          rwa [show parEErr (lineE e) = 0 by rw [parEErr, h]; rfl] at hh
        · rw [sameEv_iff, show parE (lineE e) = evOf (lineE e) by rw [parE, h]; rfl]; exact evOf_line hm hf)
      have SM := Lib.hid (fun v u w hv hu => refSame_any12 (parE (lineE e)) e (parE_fit (lineE e)).1 v u w hv hu)
      have s2 : (str s).toList = s := str_toList s
      have s4 : (str ([] : List UInt8)).toList = [] := str_toList []
      have s5 : (ByteArray.mk #[]).toList = [] := ByteArray.toList_mk []
      clear f1 f2 f3 hv hT hn hm hs hs' hf hp h1 h2 hl
      cases hm : mayE e with
      | false =>
        have hT1 : lineT e = [] ∧ lineErr e = 1 := by simp [lineT, lineErr, hm]
        rw [hT1.1, hT1.2] at LE
        rw [hm] at ME
        clear hT1 hm
        go_enter Tryd.func3, Tryd.ntmps3
        go_upto_region 1 with fail
        generalize w.alloc (.cells (evC e (.slice ao n cap)) 29 (0, 0)) = W0 at *
        go_upto_region 2 with (first
          | (go_at_call 7; refine (awake12_any _ (powTab_below HT.out B0.out)).mono ?_; rintro x1 w1 ⟨rfl, hb⟩; have E1 := Lib.hid (evAt_kept E0.out hb); have V1 := Lib.hid (dots_below V0.out hb); have B1 := Lib.hid (below_next B0.out hb); obtain ⟨-, -, c2, -, -, -⟩ := evAt_cells E1.out; clear hb))
        go_upto_region 5 with (first
          | (refine load_ev_on (by rfl) 29 (.tmp 2) rfl w.heap.size rfl E1.out Tryd.underlying29 evSize ?_)
          | (go_at_call 8; refine (LE.out _ V1.out (powTab_below HT.out B1.out)).mono ?_; rintro x1 w2 ⟨rfl, hb⟩; have E2 := Lib.hid (evAt_kept E1.out hb); have V2 := Lib.hid (dots_below V1.out hb); have B2 := Lib.hid (below_next B1.out hb); clear hb))
        rcases CS.out with ⟨g1, g2, g3, g4⟩ | ⟨g1, g2, g3, g4, g5⟩
        · rw [g1] at PS
          rw [g3, g4] at LQ
          rw [g2] at MQ
          go_upto_region 10 with (first
            | (go_at_call 9; refine (PS.out _ (powTab_below HT.out B2.out)).mono ?_; rintro x1 w3 ⟨u, rfl, hu, hb⟩; have E3 := Lib.hid (evAt_kept E2.out hb); have V3 := Lib.hid (dots_below V2.out hb); have B3 := Lib.hid (below_next B2.out hb); have U3 := Lib.hid hu; obtain ⟨ao3, cap3, rfl⟩ := dots_shape hu.1 _ rfl; clear hb hu)
            | (refine store_new rfl 29 (.tmp 10) (.tmp 48) rfl rfl w3 _ (evC (parE s) (.slice ao3 (parE s).deps.length cap3)) 29 rfl rfl rfl (by rw [evSize, evC_size]) (by rw [evC_size]; rfl) (evC_one _ _ rfl) ?_; rintro W3 hg hb hlt; have Q4 := Lib.hid (show EvAt W3 w3.heap.size 29 (parE s) (.slice ao3 (parE s).deps.length cap3) from hg); have U4 := Lib.hid (typ_below U3.out hb); have E4 := Lib.hid (evAt_kept E3.out hb); have V4 := Lib.hid (dots_below V3.out hb); have B4 := Lib.hid (below_next B3.out hb); clear hg hb hlt))
          go_upto_region 11 with (first
            | (refine load_ev_on (by rfl) 29 (.tmp 10) rfl w3.heap.size rfl Q4.out Tryd.underlying29 evSize ?_)
            | (go_at_call 8; refine (LQ.out _ _ U4.out.1 (powTab_below HT.out B4.out)).mono ?_; rintro x1 w5 ⟨rfl, hb⟩; have E5 := Lib.hid (evAt_kept E4.out hb); have V5 := Lib.hid (dots_below V4.out hb); have Q5 := Lib.hid (evAt_kept Q4.out hb); have U5 := Lib.hid (typ_below U4.out hb); have B5 := Lib.hid (below_next B4.out hb); clear hb))
          have UH5 := Lib.hid U5.out.1
          go_wp2_with (first
            | (refine load_ev_on (by rfl) 29 (.tmp 2) rfl w.heap.size rfl E5.out Tryd.underlying29 evSize ?_)
            | (refine load_ev_on (by rfl) 29 (.tmp 10) rfl w3.heap.size rfl Q6.out Tryd.underlying29 evSize ?_)
            | (go_at_call 11; with_reducible refine (ME.out w5 V5.out (powTab_below HT.out B5.out)).mono ?_; rintro x1 w6 ⟨rfl, hb⟩; have UH := Lib.hid (dots_below UH5.out hb); have E6 := Lib.hid (evAt_kept E5.out hb); have V6 := Lib.hid (dots_below V5.out hb); have Q6 := Lib.hid (evAt_kept Q5.out hb); have B6 := Lib.hid (below_next B5.out hb); clear hb)
            | (go_at_call 11; with_reducible refine (MQ.out _ _ UH.out (powTab_below HT.out B6.out)).mono ?_; rintro x1 w7 ⟨rfl, hb⟩; have B7 := Lib.hid (below_next B6.out hb); clear hb))
          go_ret
          exact ⟨by first | rfl | simp, B7.out⟩
        · rw [g1] at PS
          rw [g3, g4] at LQ
          rw [g2] at MQ
          go_upto_region 10 with (first
            | (go_at_call 9; refine (PS.out _ (powTab_below HT.out B2.out)).mono ?_; rintro x1 w3 ⟨u, rfl, hu, hb⟩; have E3 := Lib.hid (evAt_kept E2.out hb); have V3 := Lib.hid (dots_below V2.out hb); have B3 := Lib.hid (below_next B2.out hb); have U3 := Lib.hid hu; obtain ⟨ao3, cap3, rfl⟩ := dots_shape hu.1 _ rfl; clear hb hu)
            | (refine store_new rfl 29 (.tmp 10) (.tmp 48) rfl rfl w3 _ (evC (parE s) (.slice ao3 (parE s).deps.length cap3)) 29 rfl rfl rfl (by rw [evSize, evC_size]) (by rw [evC_size]; rfl) (evC_one _ _ rfl) ?_; rintro W3 hg hb hlt; have Q4 := Lib.hid (show EvAt W3 w3.heap.size 29 (parE s) (.slice ao3 (parE s).deps.length cap3) from hg); have U4 := Lib.hid (typ_below U3.out hb); have E4 := Lib.hid (evAt_kept E3.out hb); have V4 := Lib.hid (dots_below V3.out hb); have B4 := Lib.hid (below_next B3.out hb); clear hg hb hlt))
          go_upto_region 11 with (first
            | (refine load_ev_on (by rfl) 29 (.tmp 10) rfl w3.heap.size rfl Q4.out Tryd.underlying29 evSize ?_)
            | (go_at_call 8; refine (LQ.out _ _ U4.out.1 (powTab_below HT.out B4.out)).mono ?_; rintro x1 w5 ⟨rfl, hb⟩; have E5 := Lib.hid (evAt_kept E4.out hb); have V5 := Lib.hid (dots_below V4.out hb); have Q5 := Lib.hid (evAt_kept Q4.out hb); have U5 := Lib.hid (typ_below U4.out hb); have B5 := Lib.hid (below_next B4.out hb); clear hb))
          go_wp2_with (first
            | (refine load_ev_on (by rfl) 29 (.tmp 2) rfl w.heap.size rfl E5.out Tryd.underlying29 evSize ?_)
            | (go_at_call 11; refine (ME.out w5 V5.out (powTab_below HT.out B5.out)).mono ?_; rintro x1 w6 ⟨rfl, hb⟩; have E6 := Lib.hid (evAt_kept E5.out hb); have V6 := Lib.hid (dots_below V5.out hb); have Q6 := Lib.hid (evAt_kept Q5.out hb); have B6 := Lib.hid (below_next B5.out hb); obtain ⟨-, -, -, -, k4, -⟩ := evAt_cells Q6.out; rw [g5] at k4; clear hb))
          go_ret
          exact ⟨by first | rfl | simp, B6.out⟩
      | true =>
        have hT1 : lineT e = lineE e ∧ lineErr e = 0 := by simp [lineT, lineErr, hm]
        rw [hT1.1, hT1.2] at LE
        rw [hm] at ME
        clear hT1
        go_enter Tryd.func3, Tryd.ntmps3
        go_upto_region 1 with fail
        generalize w.alloc (.cells (evC e (.slice ao n cap)) 29 (0, 0)) = W0 at *
        go_upto_region 2 with (first
          | (go_at_call 7; refine (awake12_any _ (powTab_below HT.out B0.out)).mono ?_; rintro x1 w1 ⟨rfl, hb⟩; have E1 := Lib.hid (evAt_kept E0.out hb); have V1 := Lib.hid (dots_below V0.out hb); have B1 := Lib.hid (below_next B0.out hb); obtain ⟨-, -, c2, -, -, -⟩ := evAt_cells E1.out; clear hb))
        go_upto_region 5 with (first
          | (refine load_ev_on (by rfl) 29 (.tmp 2) rfl w.heap.size rfl E1.out Tryd.underlying29 evSize ?_)
          | (go_at_call 8; refine (LE.out _ V1.out (powTab_below HT.out B1.out)).mono ?_; rintro x1 w2 ⟨rfl, hb⟩; have E2 := Lib.hid (evAt_kept E1.out hb); have V2 := Lib.hid (dots_below V1.out hb); have B2 := Lib.hid (below_next B1.out hb); clear hb))
        go_upto_region 7 with (first
          | (go_at_call 9; refine ((PL.out hm).1 _ (powTab_below HT.out B2.out)).mono ?_; rintro x1 w3 ⟨u, rfl, hu, hb⟩; have E3 := Lib.hid (evAt_kept E2.out hb); have V3 := Lib.hid (dots_below V2.out hb); have B3 := Lib.hid (below_next B2.out hb); have R3 := Lib.hid hu; obtain ⟨ao2, cap2, rfl⟩ := dots_shape hu.1 _ rfl; clear hb hu)
          | (refine store_new rfl 29 (.tmp 8) (.tmp 35) rfl rfl w3 _ (evC (parE (lineE e)) (.slice ao2 (parE (lineE e)).deps.length cap2)) 29 rfl rfl rfl (by rw [evSize, evC_size]) (by rw [evC_size]; rfl) (evC_one _ _ rfl) ?_; rintro W3 hg hb hlt; have P4 := Lib.hid (show EvAt W3 w3.heap.size 29 (parE (lineE e)) (.slice ao2 (parE (lineE e)).deps.length cap2) from hg); have R4 := Lib.hid (typ_below R3.out hb); have E4 := Lib.hid (evAt_kept E3.out hb); have V4 := Lib.hid (dots_below V3.out hb); have B4 := Lib.hid (below_next B3.out hb); clear hg hb hlt))
        go_upto_region 9 with (first
          | (refine load_ev_on (by rfl) 29 (.tmp 8) rfl w3.heap.size rfl P4.out Tryd.underlying29 evSize ?_)
          | (refine load_ev_on (by rfl) 29 (.tmp 2) rfl w.heap.size rfl E4.out Tryd.underlying29 evSize ?_)
          | (go_at_call 10; refine (SM.out _ _ _ R4.out.1 V4.out).mono ?_; rintro x1 w5 ⟨rfl, hb⟩; rw [(PL.out hm).2]; have E5 := Lib.hid (evAt_kept E4.out hb); have V5 := Lib.hid (dots_below V4.out hb); have B5 := Lib.hid (below_next B4.out hb); clear hb))
        rcases CS.out with ⟨g1, g2, g3, g4⟩ | ⟨g1, g2, g3, g4, g5⟩
        · rw [g1] at PS
          rw [g3, g4] at LQ
          rw [g2] at MQ
          go_upto_region 10 with (first
            | (go_at_call 9; refine (PS.out _ (powTab_below HT.out B5.out)).mono ?_; rintro x1 w6 ⟨u, rfl, hu, hb⟩; have E6 := Lib.hid (evAt_kept E5.out hb); have V6 := Lib.hid (dots_below V5.out hb); have B6 := Lib.hid (below_next B5.out hb); have U6 := Lib.hid hu; obtain ⟨ao3, cap3, rfl⟩ := dots_shape hu.1 _ rfl; clear hb hu)
            | (refine store_new rfl 29 (.tmp 10) (.tmp 48) rfl rfl w6 _ (evC (parE s) (.slice ao3 (parE s).deps.length cap3)) 29 rfl rfl rfl (by rw [evSize, evC_size]) (by rw [evC_size]; rfl) (evC_one _ _ rfl) ?_; rintro W6 hg hb hlt; have Q7 := Lib.hid (show EvAt W6 w6.heap.size 29 (parE s) (.slice ao3 (parE s).deps.length cap3) from hg); have U7 := Lib.hid (typ_below U6.out hb); have E7 := Lib.hid (evAt_kept E6.out hb); have V7 := Lib.hid (dots_below V6.out hb); have B7 := Lib.hid (below_next B6.out hb); clear hg hb hlt))
          go_upto_region 11 with (first
            | (refine load_ev_on (by rfl) 29 (.tmp 10) rfl w6.heap.size rfl Q7.out Tryd.underlying29 evSize ?_)
            | (go_at_call 8; refine (LQ.out _ _ U7.out.1 (powTab_below HT.out B7.out)).mono ?_; rintro x1 w8 ⟨rfl, hb⟩; have E8 := Lib.hid (evAt_kept E7.out hb); have V8 := Lib.hid (dots_below V7.out hb); have Q8 := Lib.hid (evAt_kept Q7.out hb); have U8 := Lib.hid (typ_below U7.out hb); have B8 := Lib.hid (below_next B7.out hb); clear hb))
          have UH8 := Lib.hid U8.out.1
          go_wp2_with (first
            | (refine load_ev_on (by rfl) 29 (.tmp 2) rfl w.heap.size rfl E8.out Tryd.underlying29 evSize ?_)
            | (refine load_ev_on (by rfl) 29 (.tmp 10) rfl w6.heap.size rfl Q9.out Tryd.underlying29 evSize ?_)
            | (go_at_call 11; with_reducible refine (ME.out w8 V8.out (powTab_below HT.out B8.out)).mono ?_; rintro x1 w9 ⟨rfl, hb⟩; have UH := Lib.hid (dots_below UH8.out hb); have E9 := Lib.hid (evAt_kept E8.out hb); have V9 := Lib.hid (dots_below V8.out hb); have Q9 := Lib.hid (evAt_kept Q8.out hb); have B9 := Lib.hid (below_next B8.out hb); clear hb)
            | (go_at_call 11; with_reducible refine (MQ.out _ _ UH.out (powTab_below HT.out B9.out)).mono ?_; rintro x1 w10 ⟨rfl, hb⟩; have B10 := Lib.hid (below_next B9.out hb); clear hb))
          go_ret
          exact ⟨by first | rfl | simp, B10.out⟩
        · rw [g1] at PS
          rw [g3, g4] at LQ
          rw [g2] at MQ
          go_upto_region 10 with (first
            | (go_at_call 9; refine (PS.out _ (powTab_below HT.out B5.out)).mono ?_; rintro x1 w6 ⟨u, rfl, hu, hb⟩; have E6 := Lib.hid (evAt_kept E5.out hb); have V6 := Lib.hid (dots_below V5.out hb); have B6 := Lib.hid (below_next B5.out hb); have U6 := Lib.hid hu; obtain ⟨ao3, cap3, rfl⟩ := dots_shape hu.1 _ rfl; clear hb hu)
            | (refine store_new rfl 29 (.tmp 10) (.tmp 48) rfl rfl w6 _ (evC (parE s) (.slice ao3 (parE s).deps.length cap3)) 29 rfl rfl rfl (by rw [evSize, evC_size]) (by rw [evC_size]; rfl) (evC_one _ _ rfl) ?_; rintro W6 hg hb hlt; have Q7 := Lib.hid (show EvAt W6 w6.heap.size 29 (parE s) (.slice ao3 (parE s).deps.length cap3) from hg); have U7 := Lib.hid (typ_below U6.out hb); have E7 := Lib.hid (evAt_kept E6.out hb); have V7 := Lib.hid (dots_below V6.out hb); have B7 := Lib.hid (below_next B6.out hb); clear hg hb hlt))
          go_upto_region 11 with (first
            | (refine load_ev_on (by rfl) 29 (.tmp 10) rfl w6.heap.size rfl Q7.out Tryd.underlying29 evSize ?_)
            | (go_at_call 8; refine (LQ.out _ _ U7.out.1 (powTab_below HT.out B7.out)).mono ?_; rintro x1 w8 ⟨rfl, hb⟩; have E8 := Lib.hid (evAt_kept E7.out hb); have V8 := Lib.hid (dots_below V7.out hb); have Q8 := Lib.hid (evAt_kept Q7.out hb); have U8 := Lib.hid (typ_below U7.out hb); have B8 := Lib.hid (below_next B7.out hb); clear hb))
          go_wp2_with (first
            | (refine load_ev_on (by rfl) 29 (.tmp 2) rfl w.heap.size rfl E8.out Tryd.underlying29 evSize ?_)
            | (go_at_call 11; refine (ME.out w8 V8.out (powTab_below HT.out B8.out)).mono ?_; rintro x1 w9 ⟨rfl, hb⟩; have E9 := Lib.hid (evAt_kept E8.out hb); have V9 := Lib.hid (dots_below V8.out hb); have Q9 := Lib.hid (evAt_kept Q8.out hb); have B9 := Lib.hid (below_next B8.out hb); obtain ⟨-, -, -, -, k4, -⟩ := evAt_cells Q9.out; rw [g5] at k4; clear hb))
          go_ret
          exact ⟨by first | rfl | simp, B9.out⟩
end Go.Proofs.YteooklnejiipkaaDoor
