/-
The walk of the statement of layer 3 on Pad, out of the contracts of package sha.
-/
import Derived.Test.YtnfklikphkkpoaaDoorLaw03Awake
import Derived.Test.YtnfklikphkkpoaaDoorRef03Pad
import Derived.Deep.RegionWith
namespace Go.Proofs.YtnfklikphkkpoaaDoor
open Go.RowKit
/-- Bytes as a string. -/
def strOf (bs : List (BitVec 32)) : ByteArray := ⟨(bs.map fun x => UInt8.ofNat x.toNat).toArray⟩
theorem conv_has {P : Program} {src dst e : TypeId} (hs : P.underlying src = some (.slice e)) (he : P.underlying e = some (.int .u8)) (hd : P.underlying dst = some .string) {w : World} {v : Value} {bs : List (BitVec 32)} (h : HasBytes w v bs) (hb : ∀ x ∈ bs, u32 x < 256) :
    (convert src dst v).run P w = .ok (.string (strOf bs)) w := by
  obtain ⟨ao, cap, rfl, hnil, hc⟩ := h
  cases ao with
  | none =>
    obtain ⟨rfl, rfl⟩ := hnil rfl
    rw [show ([] : List (BitVec 32)).length = 0 from rfl, run_convert_bytes_string w src dst e none 0 0 hs he hd]; rfl
  | some ad =>
    have hl : (bs.map fun x => UInt8.ofNat x.toNat).length = bs.length := by simp
    have hr := run_convert_bytes_back (P := P) w src dst e ad cap (bs.map fun x => UInt8.ofNat x.toNat) hs he hd fun j hj => by
      have hj' : j < bs.length := by simpa using hj
      have h1 := (hc ad rfl).2 j _ (bytesL_get bs j hj')
      rw [h1]
      have h2 := hb bs[j] (List.getElem_mem hj')
      unfold u32 at h2
      simp only [List.getElem_map, UInt8.toNat_ofNat']
      rw [show bs.getD j 0#32 = bs[j] from by simp [hj']]
      unfold u32
      congr 2; omega
    rw [hl] at hr
    exact hr
set_option maxHeartbeats 2000000 in
theorem shaPads_in {Inv : World → Nat → List (BitVec 32) → Prop} (F : HashFace Inv) (n : Nat) (hn : n ≤ 1099511627776) (w : World) (tab : Tab w) :
    Calls Tryd.prog 4 #[.int .i64 n] w fun e w' => e = .returned (.bool true) ∧ Below w.heap.size w w' := by
  have HT := Lib.hid tab
  clear tab
  have hL := padB_whole n
  have hL9 := padB_length n
  have hz := padZeros_lt n
  obtain ⟨L, hLe⟩ : ∃ L, L = (padB n).length := ⟨_, rfl⟩
  rw [← hLe] at hL hL9
  have HL := Lib.hid hLe
  have h1 : 9 ≤ L := by omega
  have h2 : L ≤ 72 := by omega
  have h3 : ((n : Int) + (L : Int)) % 64 = 0 := by omega
  clear hL hL9 hz hLe
  go_enter Tryd.func4, Tryd.ntmps4
  go_wp2_with (first | (go_at_call 9; refine (awake3_any F _ HT.out).mono ?_; rintro e w1 ⟨rfl, hb1⟩) | (go_at_call 12; refine (F.pad _ n hn).mono ?_; rintro e w2 ⟨v, rfl, hv, hb2⟩; have HV := Lib.hid hv; obtain ⟨ao, cap, rfl, -⟩ := hv; rw [← HL.out]; have B2 := below_next hb1 hb2; clear hb1 hb2))
  have HC := Lib.hid (show ∀ w', Below w2.heap.size w2 w' → (convert 22 9 (.slice ao L cap)).run Tryd.prog w' = .ok (.string (strOf (padB n))) w' from fun w' hb => by
    rw [HL.out]; exact conv_has Tryd.underlying22 Tryd.underlying5 Tryd.underlying9 (has_below HV.out hb) (padB_bytes n))
  have HC2 := Lib.hid (show ∀ w' v', HasBytes w' v' (padB n) → (convert 22 9 v').run Tryd.prog w' = .ok (.string (strOf (padB n))) w' from fun w' v' h => conv_has Tryd.underlying22 Tryd.underlying5 Tryd.underlying9 h (padB_bytes n))
  generalize strOf (padB n) = s at HC HC2
  have hd := below_draws (Below.refl w2.heap.size w2) 1
  change Below _ _ w2.drew at hd
  have hc1 := HC.out _ hd
  refine wp_region_held_drew (S := fun w' => Below w2.heap.size w2 w') (by kernel_rfl) hd (fun hHeld => ?_)
  refine take_at (i := 0) (v := .bool true) 20 rfl rfl (by kernel_rfl) (by kernel_rfl) (by kernel_rfl) (fun _ _ _ h => h) (sure_yes (by rfl) (fun w => by go_simp)) (by assumption) ?_
  simp only [List.setIfInBounds_toArray, List.set_cons_zero, List.set_cons_succ]
  refine take_at (i := 1) (v := .bool true) 21 rfl rfl (by kernel_rfl) (by kernel_rfl) (by kernel_rfl) (fun _ _ _ h => h) (sure_yes (by rfl) (fun w => by go_simp)) (by assumption) ?_
  simp only [List.setIfInBounds_toArray, List.set_cons_zero, List.set_cons_succ]
  refine take_at (i := 2) (v := .slice ao L cap) 22 rfl rfl (by kernel_rfl) (by kernel_rfl) (by kernel_rfl) (fun _ _ _ h => h) (sure_yes (by rfl) (fun w => by go_simp)) (by assumption) ?_
  simp only [List.setIfInBounds_toArray, List.set_cons_zero, List.set_cons_succ]
  refine take_at (i := 3) (v := .string s) 23 rfl rfl (by kernel_rfl) (by kernel_rfl) (by kernel_rfl) (fun _ _ _ h => h) (conv_yields (by rfl) rfl rfl HC.out) (by assumption) ?_
  simp only [List.setIfInBounds_toArray, List.set_cons_zero, List.set_cons_succ]
  refine take_at (i := 4) (v := .int .i64 n) 24 rfl rfl (by kernel_rfl) (by kernel_rfl) (by kernel_rfl) (fun _ _ _ h => h) (sure_yes (by rfl) (fun w => by go_simp)) (by assumption) ?_
  simp only [List.setIfInBounds_toArray, List.set_cons_zero, List.set_cons_succ]
  refine wpAnyH_ready (rs := [5]) (by kernel_rfl) (by simp) ?_
  refine AllReadyH.cons rfl (fun K hK => ?_) AllReadyH.nil
  go_simp
  go_at_call 13
  refine (refPad_any n hn _).mono ?_
  rintro e w3 ⟨v3, rfl, ho3, hb3⟩
  have hc3 := HC2.out _ _ (has_of_own ho3)
  go_wp2_with fail
  refine hK.out _ _ (below_next hHeld hb3) (fun hHeld => ?_)
  clear hK K
  refine wpAnyH_ready (rs := [6]) (by kernel_rfl) (by simp) ?_
  refine AllReadyH.cons rfl (fun K hK => ?_) AllReadyH.nil
  refine conv_wp 26 rfl (by rfl) rfl rfl hc3 ?_
  refine hK.out _ _ hHeld (fun hHeld => ?_)
  clear hK K
  simp only [List.setIfInBounds_toArray, List.set_cons_zero, List.set_cons_succ]
  refine take_at (i := 7) (v := .bool true) 27 rfl rfl (by kernel_rfl) (by kernel_rfl) (by kernel_rfl) (fun _ _ _ h => h) (sure_yes (by rfl) (fun w => by go_simp)) (by assumption) ?_
  simp only [List.setIfInBounds_toArray, List.set_cons_zero, List.set_cons_succ]
  refine take_at (i := 8) (v := .bool true) 28 rfl rfl (by kernel_rfl) (by kernel_rfl) (by kernel_rfl) (fun _ _ _ h => h) (sure_yes (by rfl) (fun w => by go_simp)) (by assumption) ?_
  simp only [List.setIfInBounds_toArray, List.set_cons_zero, List.set_cons_succ]
  refine take_at (i := 9) (v := .bool true) 29 rfl rfl (by kernel_rfl) (by kernel_rfl) (by kernel_rfl) (fun _ _ _ h => h) (sure_yes (by rfl) (fun w => by go_simp)) (by assumption) ?_
  simp only [List.setIfInBounds_toArray, List.set_cons_zero, List.set_cons_succ]
  refine take_at (i := 10) (v := .int .i64 n) 30 rfl rfl (by kernel_rfl) (by kernel_rfl) (by kernel_rfl) (fun _ _ _ h => h) (sure_yes (by rfl) (fun w => by go_simp)) (by assumption) ?_
  simp only [List.setIfInBounds_toArray, List.set_cons_zero, List.set_cons_succ]
  refine take_at (i := 11) (v := .slice ao L cap) 31 rfl rfl (by kernel_rfl) (by kernel_rfl) (by kernel_rfl) (fun _ _ _ h => h) (sure_yes (by rfl) (fun w => by go_simp)) (by assumption) ?_
  simp only [List.setIfInBounds_toArray, List.set_cons_zero, List.set_cons_succ]
  refine take_at (i := 12) (v := .int .i64 L) 32 rfl rfl (by kernel_rfl) (by kernel_rfl) (by kernel_rfl) (fun _ _ _ h => h) (sure_yes (by rfl) (fun w => by go_simp)) (by assumption) ?_
  simp only [List.setIfInBounds_toArray, List.set_cons_zero, List.set_cons_succ]
  refine take_at (i := 13) (v := .int .i64 ((n : Int) + (L : Int))) 33 rfl rfl (by kernel_rfl) (by kernel_rfl) (by kernel_rfl) (fun _ _ _ h => h) (sure_yes (by rfl) (fun w => by go_simp; rw [IntKind.wrap_i64]; omega)) (by assumption) ?_
  simp only [List.setIfInBounds_toArray, List.set_cons_zero, List.set_cons_succ]
  refine take_at (i := 14) (v := .int .i64 0) 34 rfl rfl (by kernel_rfl) (by kernel_rfl) (by kernel_rfl) (fun _ _ _ h => h) (sure_yes (by rfl) (fun w => by go_simp; rw [Int.tmod_eq_emod_of_nonneg (by omega)]; exact h3)) (by assumption) ?_
  simp only [List.setIfInBounds_toArray, List.set_cons_zero, List.set_cons_succ]
  refine take_at (i := 15) (v := .bool true) 35 rfl rfl (by kernel_rfl) (by kernel_rfl) (by kernel_rfl) (fun _ _ _ h => h) (sure_yes (by rfl) (fun w => by go_simp)) (by assumption) ?_
  simp only [List.setIfInBounds_toArray, List.set_cons_zero, List.set_cons_succ]
  refine take_at (i := 16) (v := .bool true) 36 rfl rfl (by kernel_rfl) (by kernel_rfl) (by kernel_rfl) (fun _ _ _ h => h) (sure_yes (by rfl) (fun w => by go_simp)) (by assumption) ?_
  simp only [List.setIfInBounds_toArray, List.set_cons_zero, List.set_cons_succ]
  refine take_at (i := 17) (v := .bool true) 37 rfl rfl (by kernel_rfl) (by kernel_rfl) (by kernel_rfl) (fun _ _ _ h => h) (sure_yes (by rfl) (fun w => by go_simp)) (by assumption) ?_
  simp only [List.setIfInBounds_toArray, List.set_cons_zero, List.set_cons_succ]
  refine take_at (i := 18) (v := .slice ao L cap) 38 rfl rfl (by kernel_rfl) (by kernel_rfl) (by kernel_rfl) (fun _ _ _ h => h) (sure_yes (by rfl) (fun w => by go_simp)) (by assumption) ?_
  simp only [List.setIfInBounds_toArray, List.set_cons_zero, List.set_cons_succ]
  refine take_at (i := 19) (v := .int .i64 L) 39 rfl rfl (by kernel_rfl) (by kernel_rfl) (by kernel_rfl) (fun _ _ _ h => h) (sure_yes (by rfl) (fun w => by go_simp)) (by assumption) ?_
  simp only [List.setIfInBounds_toArray, List.set_cons_zero, List.set_cons_succ]
  refine take_at (i := 20) (v := .bool true) 40 rfl rfl (by kernel_rfl) (by kernel_rfl) (by kernel_rfl) (fun _ _ _ h => h) (sure_yes (by rfl) (fun w => by go_simp; omega)) (by assumption) ?_
  simp only [List.setIfInBounds_toArray, List.set_cons_zero, List.set_cons_succ]
  refine take_at (i := 21) (v := .bool true) 41 rfl rfl (by kernel_rfl) (by kernel_rfl) (by kernel_rfl) (fun _ _ _ h => h) (sure_yes (by rfl) (fun w => by go_simp)) (by assumption) ?_
  simp only [List.setIfInBounds_toArray, List.set_cons_zero, List.set_cons_succ]
  refine take_at (i := 22) (v := .bool true) 42 rfl rfl (by kernel_rfl) (by kernel_rfl) (by kernel_rfl) (fun _ _ _ h => h) (sure_yes (by rfl) (fun w => by go_simp)) (by assumption) ?_
  simp only [List.setIfInBounds_toArray, List.set_cons_zero, List.set_cons_succ]
  refine take_at (i := 23) (v := .slice ao L cap) 43 rfl rfl (by kernel_rfl) (by kernel_rfl) (by kernel_rfl) (fun _ _ _ h => h) (sure_yes (by rfl) (fun w => by go_simp)) (by assumption) ?_
  simp only [List.setIfInBounds_toArray, List.set_cons_zero, List.set_cons_succ]
  refine take_at (i := 24) (v := .int .i64 L) 44 rfl rfl (by kernel_rfl) (by kernel_rfl) (by kernel_rfl) (fun _ _ _ h => h) (sure_yes (by rfl) (fun w => by go_simp)) (by assumption) ?_
  simp only [List.setIfInBounds_toArray, List.set_cons_zero, List.set_cons_succ]
  refine take_at (i := 25) (v := .bool true) 45 rfl rfl (by kernel_rfl) (by kernel_rfl) (by kernel_rfl) (fun _ _ _ h => h) (sure_yes (by rfl) (fun w => by go_simp; omega)) (by assumption) ?_
  simp only [List.setIfInBounds_toArray, List.set_cons_zero, List.set_cons_succ]
  refine take_at (i := 26) (v := .bool true) 46 rfl rfl (by kernel_rfl) (by kernel_rfl) (by kernel_rfl) (fun _ _ _ h => h) (sure_yes (by rfl) (fun w => by go_simp)) (by assumption) ?_
  simp only [List.setIfInBounds_toArray, List.set_cons_zero, List.set_cons_succ]
  refine take_at (i := 27) (v := .bool true) 2 rfl rfl (by kernel_rfl) (by kernel_rfl) (by kernel_rfl) (fun _ _ _ h => h) (sure_yes (by rfl) (fun w => by go_simp)) (by assumption) ?_
  simp only [List.setIfInBounds_toArray, List.set_cons_zero, List.set_cons_succ]
  refine wpAnyH_done (by kernel_rfl) ?_ _
  have B3 := below_next B2 hHeld
  go_wp2
  go_ret
  exact ⟨rfl, B3⟩
set_option maxHeartbeats 1000000 in
theorem shaPads_out {Inv : World → Nat → List (BitVec 32) → Prop} (F : HashFace Inv) (n : Int) (hn : n < 0 ∨ 1099511627776 < n) (w : World) (tab : Tab w) :
    Calls Tryd.prog 4 #[.int .i64 n] w fun e w' => e = .returned (.bool true) ∧ Below w.heap.size w w' := by
  have HT := Lib.hid tab
  have HN := Lib.hid hn
  clear tab
  by_cases h0 : n < 0
  · clear hn
    go_enter Tryd.func4, Tryd.ntmps4
    go_wp2_with (first | (go_at_call 9; refine (awake3_any F _ HT.out).mono ?_; rintro e w1 ⟨rfl, hb1⟩) | (go_at_call 12; refine (F.padOut _ n HN.out).mono ?_; rintro e w2 ⟨v, rfl, hv, hb2⟩; obtain ⟨ao, cap, rfl, -⟩ := hv; have B2 := below_next hb1 hb2; clear hb1 hb2))
    go_ret
    exact ⟨rfl, B2⟩
  · have h1 : 1099511627776 < n := by omega
    clear hn
    go_enter Tryd.func4, Tryd.ntmps4
    go_wp2_with (first | (go_at_call 9; refine (awake3_any F _ HT.out).mono ?_; rintro e w1 ⟨rfl, hb1⟩) | (go_at_call 12; refine (F.padOut _ n HN.out).mono ?_; rintro e w2 ⟨v, rfl, hv, hb2⟩; obtain ⟨ao, cap, rfl, -⟩ := hv; have B2 := below_next hb1 hb2; clear hb1 hb2))
    go_ret
    exact ⟨rfl, B2⟩
theorem shaPads_any {Inv : World → Nat → List (BitVec 32) → Prop} (F : HashFace Inv) (a : Int) (w : World) (tab : Tab w) :
    Calls Tryd.prog 4 #[.int .i64 a] w fun e w' => e = .returned (.bool true) ∧ Below w.heap.size w w' := by
  by_cases h : 0 ≤ a ∧ a ≤ 1099511627776
  · obtain ⟨n, rfl⟩ := Int.eq_ofNat_of_zero_le h.1
    exact shaPads_in F n (by omega) w tab
  · exact shaPads_out F a (by omega) w tab
end Go.Proofs.YtnfklikphkkpoaaDoor
