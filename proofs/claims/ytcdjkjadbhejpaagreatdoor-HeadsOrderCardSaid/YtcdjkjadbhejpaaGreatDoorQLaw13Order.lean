/-
The walk of the statement on the order in which events are added.
-/
import Derived.Test.YtcdjkjadbhejpaaGreatDoorPk11
namespace Go.Proofs.YtcdjkjadbhejpaaGreatDoor
open Go.RowKit
set_option maxRecDepth 100000 in
set_option maxHeartbeats 16000000 in
theorem headsOrder_walk (l : List DeedT) (hs : ∀ x ∈ l, x.who < 256 ∧ x.other < 256 ∧ x.path < 256 ∧ x.size < 256) (bs : List (BitVec 32)) (hbs : ∀ x ∈ bs, u32 x < 256) (c : Nat) (hc : c < 256) (v u : Value) (w : World) (hv : HasDeeds w v l) (hu : HasBytes w u bs) (hT : PowTab w) : Calls Tryz.prog 4 #[v, u, .int .u8 (c : Int)] w fun x w' => x = .returned (.bool true) ∧ Below w.heap.size w w' := by
  have HT := Lib.hid hT
  have HV := Lib.hid hv
  have HU := Lib.hid hu
  have HBS := Lib.hid hbs
  have HI := Lib.hid (fun v w hv => history_any l hs v w hv)
  obtain ⟨nn, hinv⟩ := inv_hist l (fun x hx => (hs x hx).2.2.2)
  have HOH := Lib.hid (ofHist_hist hinv)
  have hl40 : (histN l).out.length ≤ 40 := hist_len l 40
  obtain ⟨H0, hH0⟩ : ∃ z, z = (histN l).out := ⟨_, rfl⟩
  rw [← hH0] at HOH hl40
  have HH0 := Lib.hid hH0
  have HL40 := Lib.hid hl40
  have HC := Lib.hid hc
  clear hv hu hT hs hbs hinv hH0 hl40 hc
  go_enter Tryz.func4, Tryz.ntmps4
  go_upto_region 3 with (first
    | (go_at_call 11; refine (awake13_any _ HT.out).mono ?_; rintro x w1 ⟨rfl, hb⟩; have B1 := Lib.hid hb; clear hb)
    | (go_at_call 20; refine (HI.out _ _ (deeds_below HV.out B1.out)).mono ?_; rintro x w2 ⟨vo, a, rfl, he, ha, hb⟩; have B2 := Lib.hid (below_next B1.out hb); have HE2 := Lib.hid he; have HA1 := Lib.hid (show (#[a 0, a 1, a 2] : Array Value).all (·.oneCell') = true by
        obtain ⟨x0, y0, e0⟩ := dots_shape (ha 0 (by omega)).1 _ rfl
        obtain ⟨x1, y1, e1⟩ := dots_shape (ha 1 (by omega)).1 _ rfl
        obtain ⟨x2, y2, e2⟩ := dots_shape (ha 2 (by omega)).1 _ rfl
        rw [e0, e1, e2]; simp [Value.oneCell']); clear hb he ha)
    | (refine store_new rfl 39 (.tmp 9) (.tmp 19) rfl rfl w2 _ #[a 0, a 1, a 2] 39 rfl rfl rfl (by kernel_rfl) rfl HA1.out ?_; rintro W3 hg hb hlt; have HV3 := Lib.hid (show HasEvs W3 vo H0 by rw [HH0.out]; exact evs_below HE2.out hb); have B3 := Lib.hid (below_next B2.out hb); clear hg hb hlt))
  have SH := Lib.hid (shuf_evs H0 (by have := HL40.out; omega) bs HBS.out vo u W3 HV3.out (has_below HU.out B3.out))
  go_upto_region 4 with (first
    | (go_at_call 21; refine SH.out.mono ?_; rintro x W4 ⟨y4, S0, rfl, hh, hp, hb⟩; have HS4 := Lib.hid hh; have HP4 := Lib.hid hp; have B4 := Lib.hid (below_next B3.out hb); clear hh hp hb))
  have HOS := Lib.hid (ofHist_sub HOH.out (fun x hx => HP4.out.mem_iff.2 hx))
  have HN40 := Lib.hid (show S0.length ≤ 40 by have h := HP4.out.length_eq; have := HL40.out; omega)
  obtain ⟨n, hn⟩ : ∃ n, n = S0.length := ⟨_, rfl⟩
  obtain ⟨so, sc, e4⟩ := evs_shape14 HS4.out
  rw [← hn] at e4
  subst e4
  have hn40 : n ≤ 40 := by have := HN40.out; omega
  obtain ⟨us, hus, hdu, hhu, hul⟩ := evs_take HS4.out
  have HUS := Lib.hid hus
  have HDU := Lib.hid hdu
  have HHU := Lib.hid hhu
  have HUL := Lib.hid hul
  have HNS := Lib.hid hn
  obtain ⟨r, q, hr, hq, m1, m1b, m2, m3, m4, m5, m6⟩ := many_nums c n HC.out hn40
  have HR := Lib.hid hr
  have HQ := Lib.hid hq
  clear hn hus hdu hhu hul hr hq
  go_upto_region 5 with (first
    | (refine wpList_slice_lo rfl (.tmp 23) (.tmp 32) 22 rfl Tryz.underlying22 (fun w => by kernel_rfl) _ us rfl q rfl (holdsU_below HHU.out (Below.refl _ _)) (by have := HUL.out; have := HR.out; have := HQ.out; omega) ?_; intro v5 hv5; have HS5 := Lib.hid (evs_lo hv5 (depsU_below HDU.out (Below.refl _ _))); rw [HUS.out] at HS5; clear hv5))
  obtain ⟨S, hS⟩ : ∃ S, S = S0.take q := ⟨_, rfl⟩
  rw [← hS] at HS5
  have HO := Lib.hid (show OfHist S by rw [hS]; exact ofHist_sub HOS.out fun x hx => List.mem_of_mem_take hx)
  have HSL := Lib.hid (show S.length ≤ 40 by rw [hS, List.length_take]; have := HN40.out; omega)
  have HJL := Lib.hid (show (joinE [] S).length ≤ 40 by have h := join_len [] S; have := HSL.out; simp only [List.length_nil] at h; omega)
  have HJF := Lib.hid (show ∀ e ∈ joinE [] S, FitE e from fun e he => HO.out.2.1 e (join_mem he))
  have J1 := Lib.hid (join_evs [] S (by have := HSL.out; simp; omega) (fun e h => by cases h) HO.out.2.1 (.slice none 0 0) v5 W4 (evs_nil14 _) HS5.out)
  clear hS
  go_upto_region 6 with (first
    | (go_at_call 18; (with_reducible refine (J1.out).mono ?_); rintro x w5 ⟨y5, rfl, hh, hb⟩; have HHy5 := Lib.hid hh; have B5 := Lib.hid (below_next B4.out hb); have CB5 := Lib.hid hb; clear hh hb))
  have SH2 := Lib.hid (shuf_evs S (by have := HSL.out; omega) bs HBS.out v5 u w5 (evs_below HS5.out CB5.out) (has_below HU.out B5.out))
  have J2 := Lib.hid (fun w y T (hp : S.Perm T) (hy : HasEvs w y T) (hb : Below w5.heap.size w5 w) => join_evs (joinE [] S) T (by have := HJL.out; have h := hp.length_eq; have := HSL.out; omega) HJF.out (fun e he => HO.out.2.1 e (hp.mem_iff.2 he)) y5 y w (evs_below HHy5.out hb) hy)
  go_upto_region 7 with (first
    | (go_at_call 21; refine SH2.out.mono ?_; rintro x w6 ⟨y6, S1, rfl, hh, hp, hb⟩; have HY6 := Lib.hid hh; have HP6 := Lib.hid hp; have B6 := Lib.hid (below_next B5.out hb); have C6 := Lib.hid hb; clear hh hp hb)
    | (go_at_call 18; refine (J2.out _ _ _ HP6.out HY6.out C6.out).mono ?_; rintro x w7 ⟨y7, rfl, hh, hb⟩; have HY7 := Lib.hid (show HasEvs w7 y7 (lastE S) by rw [← join_again HO.out.1 HP6.out]; exact hh); have B7 := Lib.hid (below_next B6.out hb); have C7 := Lib.hid (below_next C6.out hb); clear hh hb))
  have HLS := Lib.hid (show joinE [] S = lastE S from join_all HO.out.1)
  have LS := Lib.hid (last_evs S (by have := HSL.out; omega) HO.out.2.1 v5 w7 (evs_below HS5.out (below_next CB5.out C7.out)))
  have HY5 := Lib.hid (show HasEvs w5 y5 (lastE S) by rw [← HLS.out]; exact HHy5.out)
  have HHS := Lib.hid (show mayHs (lastE S) = true from (mayHs_iff _).2 (heads_of HO.out.1 HO.out.2.2 (lastE_heads HO.out.1)))
  rw [HLS.out] at HJL HJF
  go_upto_region 8 with (first
    | (go_at_call 22; refine LS.out.mono ?_; rintro x w8 ⟨y8, rfl, hh, hb⟩; have HY8 := Lib.hid hh; have B8 := Lib.hid (below_next B7.out hb); have C8 := Lib.hid (below_next C7.out hb); have D8 := Lib.hid hb; clear hh hb))
  have L1 := Lib.hid (fun w (hb : Below w8.heap.size w8 w) => list_same (lastE S) (by have := HJL.out; omega) HJF.out y5 y8 w (evs_below HY5.out (below_next C8.out hb)) (evs_below HY8.out hb))
  have L2 := Lib.hid (fun w (hb : Below w8.heap.size w8 w) => list_same (lastE S) (by have := HJL.out; omega) HJF.out y7 y8 w (evs_below HY7.out (below_next D8.out hb)) (evs_below HY8.out hb))
  have MY := Lib.hid (fun w (hb : Below w8.heap.size w8 w) => may_evs (lastE S) (by have := HJL.out; omega) HJF.out y5 w (evs_below HY5.out (below_next C8.out hb)) (powTab_below HT.out (below_next B8.out hb)))
  rw [HHS.out] at MY
  go_wp2_with (first
    | (go_at_call 15; (with_reducible refine (L1.out _ (Below.refl _ _)).mono ?_); rintro x w9 ⟨rfl, hb⟩; have E9 := Lib.hid hb; clear hb)
    | (go_at_call 15; (with_reducible refine (L2.out _ E9.out).mono ?_); rintro x w10 ⟨rfl, hb⟩; have E10 := Lib.hid (below_next E9.out hb); clear hb)
    | (go_at_call 13; (with_reducible refine (MY.out _ E10.out).mono ?_); rintro x w11 ⟨rfl, hb⟩; have E11 := Lib.hid (below_next E10.out hb); clear hb))
  go_ret
  exact ⟨rfl, below_next B8.out E11.out⟩
end Go.Proofs.YtcdjkjadbhejpaaGreatDoor
