/-
The walk of the statement on two parts of a history.
-/
import Derived.Test.YtcdjkjadbhejpaaGreatDoorPk11
namespace Go.Proofs.YtcdjkjadbhejpaaGreatDoor
open Go.RowKit
set_option maxRecDepth 100000 in
set_option maxHeartbeats 16000000 in
theorem headsParts_walk (l : List DeedT) (hs : ∀ x ∈ l, x.who < 256 ∧ x.other < 256 ∧ x.path < 256 ∧ x.size < 256) (bs : List (BitVec 32)) (hbs : ∀ x ∈ bs, u32 x < 256) (c : Nat) (hc : c < 256) (v u : Value) (w : World) (hv : HasDeeds w v l) (hu : HasBytes w u bs) (hT : PowTab w) : Calls Tryz.prog 5 #[v, u, .int .u8 (c : Int)] w fun x w' => x = .returned (.bool true) ∧ Below w.heap.size w w' := by
  have HT := Lib.hid hT
  have HV := Lib.hid hv
  have HU := Lib.hid hu
  have HBS := Lib.hid hbs
  have HI := Lib.hid (fun v w hv => history_any l hs v w hv)
  obtain ⟨nn, hinv⟩ := inv_hist l (fun x hx => (hs x hx).2.2.2)
  have HOH := Lib.hid (ofHist_hist hinv)
  have hl40 : (histN l).out.length ≤ 40 := hist_len l 40
  obtain ⟨H0, hH0⟩ : ∃ z, z = (histN l).out := ⟨_, rfl⟩
  rw [← hH0] at HOH hl40
  have HH0 := Lib.hid hH0
  have HL40 := Lib.hid hl40
  have HC := Lib.hid hc
  clear hv hu hT hs hbs hinv hH0 hl40 hc
  go_enter Tryz.func5, Tryz.ntmps5
  go_upto_region 3 with (first
    | (go_at_call 11; refine (awake13_any _ HT.out).mono ?_; rintro x w1 ⟨rfl, hb⟩; have B1 := Lib.hid hb; clear hb)
    | (go_at_call 20; refine (HI.out _ _ (deeds_below HV.out B1.out)).mono ?_; rintro x w2 ⟨vo, a, rfl, he, ha, hb⟩; have B2 := Lib.hid (below_next B1.out hb); have HE2 := Lib.hid he; have HA1 := Lib.hid (show (#[a 0, a 1, a 2] : Array Value).all (·.oneCell') = true by
        obtain ⟨x0, y0, e0⟩ := dots_shape (ha 0 (by omega)).1 _ rfl
        obtain ⟨x1, y1, e1⟩ := dots_shape (ha 1 (by omega)).1 _ rfl
        obtain ⟨x2, y2, e2⟩ := dots_shape (ha 2 (by omega)).1 _ rfl
        rw [e0, e1, e2]; simp [Value.oneCell']); clear hb he ha)
    | (refine store_new rfl 39 (.tmp 9) (.tmp 20) rfl rfl w2 _ #[a 0, a 1, a 2] 39 rfl rfl rfl (by kernel_rfl) rfl HA1.out ?_; rintro W3 hg hb hlt; have HV3 := Lib.hid (show HasEvs W3 vo H0 by rw [HH0.out]; exact evs_below HE2.out hb); have B3 := Lib.hid (below_next B2.out hb); clear hg hb hlt))
  have SH := Lib.hid (shuf_evs H0 (by have := HL40.out; omega) bs HBS.out vo u W3 HV3.out (has_below HU.out B3.out))
  go_upto_region 4 with (first
    | (go_at_call 21; refine SH.out.mono ?_; rintro x W4 ⟨y4, S0, rfl, hh, hp, hb⟩; have HS4 := Lib.hid hh; have HP4 := Lib.hid hp; have B4 := Lib.hid (below_next B3.out hb); clear hh hp hb))
  have HOS := Lib.hid (ofHist_sub HOH.out (fun x hx => HP4.out.mem_iff.2 hx))
  have HN40 := Lib.hid (show S0.length ≤ 40 by have h := HP4.out.length_eq; have := HL40.out; omega)
  obtain ⟨n, hn⟩ : ∃ n, n = S0.length := ⟨_, rfl⟩
  obtain ⟨so, sc, e4⟩ := evs_shape14 HS4.out
  rw [← hn] at e4
  subst e4
  have hn40 : n ≤ 40 := by have := HN40.out; omega
  obtain ⟨us, hus, hdu, hhu, hul⟩ := evs_take HS4.out
  have HUS := Lib.hid hus
  have HDU := Lib.hid hdu
  have HHU := Lib.hid hhu
  have HUL := Lib.hid hul
  have HNS := Lib.hid hn
  obtain ⟨r, q, hr, hq, m1, m1b, m2, m3, m4, m5, m6⟩ := many_nums c n HC.out hn40
  have HR := Lib.hid hr
  have HQ := Lib.hid hq
  clear hn hus hdu hhu hul hr hq
  obtain ⟨A, hA⟩ : ∃ A, A = S0.take r := ⟨_, rfl⟩
  obtain ⟨B, hB⟩ : ∃ B, B = S0.drop r := ⟨_, rfl⟩
  have HAB := Lib.hid (show ∀ e, (e ∈ A ∨ e ∈ B) ↔ e ∈ S0 from fun e => by rw [hA, hB, ← List.mem_append, List.take_append_drop])
  have HOA := Lib.hid (ofHist_sub HOS.out (fun x hx => (HAB.out x).1 (.inl hx)))
  have HOB := Lib.hid (ofHist_sub HOS.out (fun x hx => (HAB.out x).1 (.inr hx)))
  have HAL := Lib.hid (show A.length ≤ 40 by rw [hA, List.length_take]; have := HN40.out; omega)
  have HBL := Lib.hid (show B.length ≤ 40 by rw [hB, List.length_drop]; have := HN40.out; omega)
  have HAE := Lib.hid hA
  have HBE := Lib.hid hB
  clear hA hB
  have J1 := Lib.hid (fun v w (hv : HasEvs w v A) => join_evs [] A (by have := HAL.out; simp; omega) (fun e h => by cases h) HOA.out.2.1 (.slice none 0 0) v w (evs_nil14 _) hv)
  have J2 := Lib.hid (fun v w (hv : HasEvs w v B) => join_evs [] B (by have := HBL.out; simp; omega) (fun e h => by cases h) HOB.out.2.1 (.slice none 0 0) v w (evs_nil14 _) hv)
  go_upto_region 5 with fail
  go_upto_region 6 with (first
    | (refine wpList_slice_lo rfl (.tmp 30) (.tmp 31) 22 rfl Tryz.underlying22 (fun w => by kernel_rfl) _ us rfl r rfl (holdsU_below HHU.out (Below.refl _ _)) (by have := HUL.out; have := HR.out; have := HQ.out; omega) ?_; intro v5 hv5; have HS5 := Lib.hid (evs_lo hv5 (depsU_below HDU.out (Below.refl _ _))); rw [HUS.out, ← HAE.out] at HS5; clear hv5)
    | (go_at_call 18; (with_reducible refine (J1.out _ _ HS5.out).mono ?_); rintro x w5 ⟨y5, rfl, hh, hb⟩; have HHy5 := Lib.hid hh; have B5 := Lib.hid (below_next B4.out hb); have CB5 := Lib.hid hb; clear hh hb))
  go_upto_region 7 with (first
    | (refine wpList_slice_hi rfl (.tmp 34) (.tmp 35) 22 rfl Tryz.underlying22 (fun w => by kernel_rfl) _ us rfl r rfl (holdsU_below HHU.out (CB5.out)) (by have := HUL.out; have := HR.out; have := HQ.out; omega) ?_; intro v6 hv6; have HS6 := Lib.hid (evs_hi hv6 (depsU_below HDU.out (CB5.out))); rw [HUS.out, ← HBE.out] at HS6; clear hv6)
    | (go_at_call 18; (with_reducible refine (J2.out _ _ HS6.out).mono ?_); rintro x w6 ⟨y6, rfl, hh, hb⟩; have HHy6 := Lib.hid hh; have B6 := Lib.hid (below_next B5.out hb); have CB6 := Lib.hid hb; clear hh hb))
  have LS := Lib.hid (last_evs S0 (by have := HN40.out; omega) HOS.out.2.1 (.slice so n sc) w6 (evs_below HS4.out (below_next CB5.out CB6.out)))
  go_upto_region 8 with (first
    | (go_at_call 22; refine LS.out.mono ?_; rintro x w8 ⟨y8, rfl, hh, hb⟩; have HY8 := Lib.hid hh; have B8 := Lib.hid (below_next B6.out hb); have D8 := Lib.hid hb; clear hh hb))
  obtain ⟨a, ha⟩ : ∃ a, a = joinE [] A := ⟨_, rfl⟩
  obtain ⟨b, hb⟩ : ∃ b, b = joinE [] B := ⟨_, rfl⟩
  have HLa := Lib.hid (show a.length ≤ 40 by have h := join_len [] A; rw [← ha] at h; have := HAL.out; simp only [List.length_nil] at h; omega)
  have HLb := Lib.hid (show b.length ≤ 40 by have h := join_len [] B; rw [← hb] at h; have := HBL.out; simp only [List.length_nil] at h; omega)
  have HFa := Lib.hid (show ∀ e ∈ a, FitE e from fun e he => HOA.out.2.1 e (join_mem (by rw [← ha]; exact he)))
  have HFb := Lib.hid (show ∀ e ∈ b, FitE e from fun e he => HOB.out.2.1 e (join_mem (by rw [← hb]; exact he)))
  have HYa := Lib.hid (show HasEvs w5 y5 a by rw [ha]; exact HHy5.out)
  have HYb := Lib.hid (show HasEvs w6 y6 b by rw [hb]; exact HHy6.out)
  have EQ1 := Lib.hid (show joinE a b = lastE S0 by rw [ha, hb]; exact join_two HOS.out.1 HAB.out)
  have EQ2 := Lib.hid (show joinE b a = lastE S0 by rw [ha, hb]; exact join_two HOS.out.1 (fun e => (or_comm).trans (HAB.out e)))
  have EQ3 := Lib.hid (show joinE a a = a by rw [ha]; exact join_self HOA.out.1)
  have HLL := Lib.hid (show (lastE S0).length ≤ 40 by have h := last_few S0; have := HN40.out; omega)
  have HFL := Lib.hid (show ∀ e ∈ lastE S0, FitE e from fun e he => HOS.out.2.1 e (((lastE_heads HOS.out.1).2 e).1 he).1)
  clear ha hb
  obtain ⟨L, hL⟩ : ∃ L, L = lastE S0 := ⟨_, rfl⟩
  rw [← hL] at EQ1 EQ2 HLL HFL HY8
  clear hL
  have ya := Lib.hid (fun w (hb : Below w8.heap.size w8 w) => evs_below HYa.out (below_next (below_next CB6.out D8.out) hb))
  have yb := Lib.hid (fun w (hb : Below w8.heap.size w8 w) => evs_below HYb.out (below_next D8.out hb))
  have K1 := Lib.hid (fun w (hb : Below w8.heap.size w8 w) => join_evs a b (by have := HLa.out; have := HLb.out; omega) HFa.out HFb.out y5 y6 w (ya.out w hb) (yb.out w hb))
  have K2 := Lib.hid (fun w (hb : Below w8.heap.size w8 w) => join_evs b a (by have := HLa.out; have := HLb.out; omega) HFb.out HFa.out y6 y5 w (yb.out w hb) (ya.out w hb))
  have K3 := Lib.hid (fun w (hb : Below w8.heap.size w8 w) => join_evs a a (by have := HLa.out; omega) HFa.out HFa.out y5 y5 w (ya.out w hb) (ya.out w hb))
  rw [EQ1.out] at K1
  rw [EQ2.out] at K2
  rw [EQ3.out] at K3
  have L1 := Lib.hid (fun w y (hy : HasEvs w y L) (hb : Below w8.heap.size w8 w) => list_same L (by have := HLL.out; omega) HFL.out y y8 w hy (evs_below HY8.out hb))
  have L3 := Lib.hid (fun w y (hy : HasEvs w y a) (hb : Below w8.heap.size w8 w) => list_same a (by have := HLa.out; omega) HFa.out y y5 w hy (ya.out w hb))
  go_wp2_with (first
    | (go_at_call 18; (with_reducible refine (K1.out _ (Below.refl _ _)).mono ?_); rintro x w9 ⟨y9, rfl, hh, hb⟩; have HY9 := Lib.hid hh; have E9 := Lib.hid hb; clear hh hb)
    | (go_at_call 15; (with_reducible refine (L1.out _ _ HY9.out E9.out).mono ?_); rintro x w10 ⟨rfl, hb⟩; have E10 := Lib.hid (below_next E9.out hb); clear hb)
    | (go_at_call 18; (with_reducible refine (K2.out _ E10.out).mono ?_); rintro x w11 ⟨y11, rfl, hh, hb⟩; have HY11 := Lib.hid hh; have E11 := Lib.hid (below_next E10.out hb); clear hh hb)
    | (go_at_call 15; (with_reducible refine (L1.out _ _ HY11.out E11.out).mono ?_); rintro x w12 ⟨rfl, hb⟩; have E12 := Lib.hid (below_next E11.out hb); clear hb)
    | (go_at_call 18; (with_reducible refine (K3.out _ E12.out).mono ?_); rintro x w13 ⟨y13, rfl, hh, hb⟩; have HY13 := Lib.hid hh; have E13 := Lib.hid (below_next E12.out hb); clear hh hb)
    | (go_at_call 15; (with_reducible refine (L3.out _ _ HY13.out E13.out).mono ?_); rintro x w14 ⟨rfl, hb⟩; have E14 := Lib.hid (below_next E13.out hb); clear hb))
  go_ret
  exact ⟨rfl, below_next B8.out E14.out⟩
end Go.Proofs.YtcdjkjadbhejpaaGreatDoor
