/-
The walk of EventLines.
-/
import Derived.Test.YteooklnejiipkaaGreatDoorPk10
namespace Go.Proofs.YteooklnejiipkaaGreatDoor
open Go.RowKit
theorem parE_fitL (s : List UInt8) : (parE s).deps.length < 2000000 := by
  rcases parEErr_cases s with ⟨-, h, he⟩ | ⟨-, h, he⟩
  · rw [he]; unfold evOf; split
    · exact parV_len _
    · exact parV_len _
  · rw [he]; decide
set_option maxRecDepth 100000 in
set_option maxHeartbeats 16000000 in
theorem eventLines_walk (e : Ev) (hp : e.path.length < 1152921504606846976) (hf : ∀ i, u32 (e.sum i) < 256) (s : List UInt8) (hs : s.length < 1152921504606846976) (v : Value) (w : World) (hv : HasDots w v e.deps) (hT : PowTab w) :
    Calls Tryz.prog 4 #[.agg (evC e v), .string (str s)] w fun e w' => e = .returned (.bool true) ∧ Below w.heap.size w w' := by
  have HT := Lib.hid hT
  have hz : (str s).size = s.length := str_size s
  obtain ⟨n, hn⟩ : ∃ n, n = e.deps.length := ⟨_, rfl⟩
  obtain ⟨m, hm⟩ : ∃ m, m = s.length := ⟨_, rfl⟩
  rw [← hm] at hz
  obtain ⟨ao, cap, rfl⟩ := dots_shape hv n hn
  have E0 := Lib.hid (box_ev w 29 e (.slice ao n cap))
  have V0 := Lib.hid (dots_below hv ((Below.refl w.heap.size w).alloc (Nat.le_refl _) (.cells (evC e (.slice ao n cap)) 29 (0, 0))))
  have B0 := Lib.hid ((Below.refl w.heap.size w).alloc (Nat.le_refl _) (.cells (evC e (.slice ao n cap)) 29 (0, 0)))
  by_cases h1 : 100 < n
  · have q1 : (100 : Int) < (n : Int) := by omega
    clear hv hT hn hm hs hf hp h1
    go_enter Tryz.func4, Tryz.ntmps4
    go_upto_region 1 with fail
    generalize w.alloc (.cells (evC e (.slice ao n cap)) 29 (0, 0)) = W0 at *
    go_wp2_with (first
      | (go_at_call 5; refine (awake12_any _ (powTab_below HT.out B0.out)).mono ?_; rintro x1 w1 ⟨rfl, hb⟩; have E1 := Lib.hid (evAt_kept E0.out hb); have V1 := Lib.hid (dots_below V0.out hb); have B1 := Lib.hid (below_next B0.out hb); obtain ⟨-, -, c2, -, -, -⟩ := evAt_cells E1.out; clear hb))
    go_ret
    exact ⟨rfl, B1.out⟩
  · have q1 : ¬ (100 : Int) < (n : Int) := by omega
    by_cases h2 : 5000 < m
    · have q2 : (5000 : Int) < (m : Int) := by omega
      clear hv hT hn hm hs hf hp h1 h2
      go_enter Tryz.func4, Tryz.ntmps4
      go_upto_region 1 with fail
      generalize w.alloc (.cells (evC e (.slice ao n cap)) 29 (0, 0)) = W0 at *
      go_wp2_with (first
        | (go_at_call 5; refine (awake12_any _ (powTab_below HT.out B0.out)).mono ?_; rintro x1 w1 ⟨rfl, hb⟩; have E1 := Lib.hid (evAt_kept E0.out hb); have V1 := Lib.hid (dots_below V0.out hb); have B1 := Lib.hid (below_next B0.out hb); obtain ⟨-, -, c2, -, -, -⟩ := evAt_cells E1.out; clear hb))
      go_ret
      exact ⟨rfl, B1.out⟩
    · have q2 : ¬ (5000 : Int) < (m : Int) := by omega
      have hl : e.deps.length < 2000000 := by omega
      have LE := Lib.hid (fun w hv hT => line_any12 ownSays e hl hp hf (.slice ao n cap) w hv hT)
      have RL := Lib.hid (fun w hv => refLine_any12 e hl hp hf (.slice ao n cap) w hv)
      have PS := Lib.hid (fun w hT => parse_any12 ownSays s (by omega) w hT)
      have RP := Lib.hid (fun w => refParse_any12 s (by omega) w)
      have SM := Lib.hid (fun v u w hv hu => refSame_any12 (parE s) (parE s) (parE_fitL s) v u w hv hu)
      rw [(sameEv_iff _ _).2 (sameE_refl (parE s))] at SM
      have s2 : (str (lineT e)).toList = lineT e := str_toList _
      generalize lineT e = L at *
      generalize lineErr e = LX at *
      generalize parEErr s = PX at *
      clear hv hT hn hm hs hf hp h1 h2 hl
      go_enter Tryz.func4, Tryz.ntmps4
      go_upto_region 1 with fail
      generalize w.alloc (.cells (evC e (.slice ao n cap)) 29 (0, 0)) = W0 at *
      go_upto_region 2 with (first
        | (go_at_call 5; refine (awake12_any _ (powTab_below HT.out B0.out)).mono ?_; rintro x1 w1 ⟨rfl, hb⟩; have E1 := Lib.hid (evAt_kept E0.out hb); have V1 := Lib.hid (dots_below V0.out hb); have B1 := Lib.hid (below_next B0.out hb); obtain ⟨-, -, c2, -, -, -⟩ := evAt_cells E1.out; clear hb))
      go_upto_region 5 with (first
        | (refine load_ev_on (by rfl) 29 (.tmp 2) rfl w.heap.size rfl E1.out Tryz.underlying29 evSize ?_)
        | (go_at_call 14; refine (LE.out _ V1.out (powTab_below HT.out B1.out)).mono ?_; rintro x1 w2 ⟨rfl, hb⟩; have E2 := Lib.hid (evAt_kept E1.out hb); have V2 := Lib.hid (dots_below V1.out hb); have B2 := Lib.hid (below_next B1.out hb); clear hb))
      go_upto_region 6 with (first
        | (refine load_ev_on (by rfl) 29 (.tmp 2) rfl w.heap.size rfl E2.out Tryz.underlying29 evSize ?_)
        | (go_at_call 15; refine (RL.out _ V2.out).mono ?_; rintro x1 w3 ⟨rfl, hb⟩; have E3 := Lib.hid (evAt_kept E2.out hb); have V3 := Lib.hid (dots_below V2.out hb); have B3 := Lib.hid (below_next B2.out hb); clear hb))
      go_upto_region 7 with (first
        | (go_at_call 16; refine (PS.out _ (powTab_below HT.out B3.out)).mono ?_; rintro x1 w4 ⟨u, rfl, hu, hb⟩; have E4 := Lib.hid (evAt_kept E3.out hb); have V4 := Lib.hid (dots_below V3.out hb); have B4 := Lib.hid (below_next B3.out hb); have U4 := Lib.hid hu; obtain ⟨ao3, cap3, rfl⟩ := dots_shape hu.1 _ rfl; clear hb hu)
        | (refine store_new rfl 29 (.tmp 10) (.tmp 38) rfl rfl w4 _ (evC (parE s) (.slice ao3 (parE s).deps.length cap3)) 29 rfl rfl rfl (by rw [evSize, evC_size]) (by rw [evC_size]; rfl) (evC_one _ _ rfl) ?_; rintro W4 hg hb hlt; have Q5 := Lib.hid (show EvAt W4 w4.heap.size 29 (parE s) (.slice ao3 (parE s).deps.length cap3) from hg); have U5 := Lib.hid (typ_below U4.out hb); have E5 := Lib.hid (evAt_kept E4.out hb); have V5 := Lib.hid (dots_below V4.out hb); have B5 := Lib.hid (below_next B4.out hb); clear hg hb hlt))
      go_upto_region 8 with (first
        | (go_at_call 17; refine (RP.out _).mono ?_; rintro x1 w6 ⟨t, rfl, ht, hb⟩; have Q6 := Lib.hid (evAt_kept Q5.out hb); have U6 := Lib.hid (typ_below U5.out hb); have B6 := Lib.hid (below_next B5.out hb); have Y6 := Lib.hid ht; obtain ⟨ao4, cap4, rfl⟩ := dots_shape ht _ rfl; clear hb ht)
        | (refine store_new rfl 29 (.tmp 12) (.tmp 43) rfl rfl w6 _ (evC (parE s) (.slice ao4 (parE s).deps.length cap4)) 29 rfl rfl rfl (by rw [evSize, evC_size]) (by rw [evC_size]; rfl) (evC_one _ _ rfl) ?_; rintro W6 hg hb hlt; have Z7 := Lib.hid (show EvAt W6 w6.heap.size 29 (parE s) (.slice ao4 (parE s).deps.length cap4) from hg); have Y7 := Lib.hid (dots_below Y6.out hb); have Q7 := Lib.hid (evAt_kept Q6.out hb); have U7 := Lib.hid (typ_below U6.out hb); have B7 := Lib.hid (below_next B6.out hb); clear hg hb hlt))
      go_wp2_with (first
        | (refine load_ev_on (by rfl) 29 (.tmp 10) rfl w4.heap.size rfl Q7.out Tryz.underlying29 evSize ?_)
        | (refine load_ev_on (by rfl) 29 (.tmp 12) rfl w6.heap.size rfl Z7.out Tryz.underlying29 evSize ?_)
        | (go_at_call 13; refine (SM.out _ _ _ U7.out.1 Y7.out).mono ?_; rintro x1 w8 ⟨rfl, hb⟩; have B8 := Lib.hid (below_next B7.out hb); clear hb))
      go_ret
      exact ⟨by first | rfl | simp, B8.out⟩
end Go.Proofs.YteooklnejiipkaaGreatDoor
