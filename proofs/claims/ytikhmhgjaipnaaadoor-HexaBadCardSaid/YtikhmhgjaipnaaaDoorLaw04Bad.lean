/-
The walk of the statement of layer 4 on texts that are none, out of the contracts of package hexa.
-/
import Derived.Test.YtikhmhgjaipnaaaDoorHexaFace
import Derived.Test.YtikhmhgjaipnaaaDoorHexaMore
import Derived.Deep.DeepCutAuto
namespace Go.Proofs.YtikhmhgjaipnaaaDoor
open Go.RowKit
theorem info32b : (Tryd.prog.info? 23).map (·.size) = some 32 := by kernel_rfl
theorem info32 {f : Nat → BitVec 32} : (Tryd.prog.info? 23).map (·.size) = some (rowL .u8 32 f).length := by rw [rowL_length]; exact info32b
theorem zeroDigest : (Tryd.prog.info? 23).map (fun i => i.zero) = some (some (.agg (row .u8 32 fun _ => 0#32))) := by kernel_rfl
set_option maxHeartbeats 8000000 in
theorem hexaBad_walk (F : HexaFace) (f : Nat → BitVec 32) (hf : ∀ i, u32 (f i) < 256) (at' : UInt8) (c : UInt8) (w : World) (hT0 : PowTab w) :
    Calls Tryd.prog 8 #[.agg (row .u8 32 f), .int .u8 (at'.toNat : Int), .int .u8 (c.toNat : Int)] w fun e w' => e = .returned (.bool true) ∧ Below w.heap.size w w' := by
  have HT := Lib.hid hT0
  clear hT0
  obtain ⟨s, hs⟩ : ∃ s, s = textF f := ⟨_, rfl⟩
  have hlen : s.length = 64 := by rw [hs]; exact textF_length f
  have T1 := Lib.hid (fun w => F.text w f hf)
  rw [← hs] at T1
  obtain ⟨an, han⟩ : ∃ an, at'.toNat = an := ⟨_, rfl⟩
  obtain ⟨cn, hcn⟩ : ∃ cn, c.toNat = cn := ⟨_, rfl⟩
  rw [han, hcn]
  obtain ⟨k, hk⟩ : ∃ k : Nat, k = an % 64 := ⟨_, rfl⟩
  have hk64 : k < 64 := by omega
  have ek : (an : Int).tmod 64 = (k : Int) := by rw [Int.tmod_eq_emod_of_nonneg (by omega)]; omega
  have ean : IntKind.i64.wrap (an : Int) = (an : Int) := by have := UInt8.toNat_lt at'; rw [IntKind.wrap_i64]; omega
  obtain ⟨k1, hk1⟩ : ∃ k1 : Nat, k1 = k + 1 := ⟨_, rfl⟩
  have ek1 : (k : Int) + 1 = (k1 : Int) := by omega
  have ewk : IntKind.i64.wrap (k1 : Int) = (k1 : Int) := by rw [IntKind.wrap_i64]; omega
  have bad1 : isText (s.take k ++ s.drop k1) = false := by
    cases h : isText (s.take k ++ s.drop k1) with
    | false => rfl
    | true => simp only [isText, Bool.and_eq_true, beq_iff_eq, List.length_append, List.length_take, List.length_drop] at h; omega
  have P1 := Lib.hid (fun w => F.parse w (s.take k ++ s.drop k1) (by rw [List.length_append, List.length_take, List.length_drop]; omega))
  rw [(parsed_bad bad1).1, (parsed_bad bad1).2] at P1
  have bad2 : isText (s.take k ++ [48] ++ s.drop k) = false := by
    cases h : isText (s.take k ++ [48] ++ s.drop k) with
    | false => rfl
    | true => simp only [isText, Bool.and_eq_true, beq_iff_eq, List.length_append, List.length_take, List.length_drop, List.length_cons, List.length_nil] at h; omega
  have P2 := Lib.hid (fun w => F.parse w (s.take k ++ [48] ++ s.drop k) (by simp only [List.length_append, List.length_take, List.length_drop, List.length_cons, List.length_nil]; omega))
  rw [(parsed_bad bad2).1, (parsed_bad bad2).2] at P2
  obtain ⟨l2, hl2⟩ : ∃ l2, l2 = s.take k ++ [48] ++ s.drop k := ⟨_, rfl⟩
  rw [← hl2] at P2
  have HL2 := Lib.hid hl2
  obtain ⟨l3, hl3⟩ : ∃ l3, l3 = s.take k ++ [c] ++ s.drop k1 := ⟨_, rfl⟩
  have P3 := Lib.hid (fun w => F.parse w l3 (by rw [hl3]; simp only [List.length_append, List.length_take, List.length_drop, List.length_cons, List.length_nil]; omega))
  obtain ⟨pt, hpt⟩ : ∃ pt, parsed l3 = pt := ⟨_, rfl⟩
  obtain ⟨et, het⟩ : ∃ et, parseErr l3 = et := ⟨_, rfl⟩
  rw [hpt, het] at P3
  have HPT := Lib.hid (And.intro hpt het)
  have HL3 := Lib.hid hl3
  have H0 := Lib.hid (heap_last w (.cells (row .u8 32 f) 23 (0, 0)))
  have B0 := Lib.hid ((Below.refl w.heap.size w).alloc (Nat.le_refl _) (.cells (row .u8 32 f) 23 (0, 0)))
  have HSF := Lib.hid (And.intro hs (And.intro han (And.intro hcn (And.intro hk hk1))))
  have hk1' : k1 ≤ 64 := by omega
  have hsz : (str s).size = 64 := by rw [str_size, hlen]
  clear han hcn hk bad1 bad2 hl2 hl3 hpt het hs hk1
  go_enter Tryd.func8, Tryd.ntmps8
  go_upto_region 6 with (first
    | (go_at_call 9; refine (awake4_any F _ (by first | exact HT.out | exact powTab_alloc HT.out _ | exact powTab_alloc (powTab_alloc HT.out _) _)).mono ?_; rintro e w0 ⟨rfl, hb⟩; have H0' := Lib.hid ((hb.block w.heap.size (by simp)).trans H0.out); have B0' := Lib.hid (below_next B0.out hb); have hs0 : w.heap.size < w0.heap.size := Nat.lt_of_lt_of_le (by simp) hb.size; clear H0 B0 hb)
    | (refine wpList_load_row rfl 23 (.tmp 3) rfl w.heap.size rfl 23 _ (0, 0) _ H0'.out Tryd.underlying23 rfl (by kernel_rfl) ?_)
    | (go_at_call 12; refine (T1.out _).mono ?_; rintro e w1 ⟨rfl, hb⟩; have H1 := Lib.hid ((hb.block w.heap.size hs0).trans H0'.out); have B1 := Lib.hid (below_next B0'.out hb); have hs1 : w.heap.size < w1.heap.size := Nat.lt_of_lt_of_le hs0 hb.size; clear H0' B0' hb))
  go_upto_region 6 with fail
  go_cut [10, 11] (fun s10 s11 wx => (∃ g, s10 = .pointer (some ⟨g, 0, none⟩)) ∧ s11 = .int .i64 2 ∧ wx.heap[w.heap.size]? = some (.cells (row .u8 32 f) 23 (0, 0)) ∧ w.heap.size < wx.heap.size ∧ Below w.heap.size w wx)
  case first =>
    rename_i JJ KK hJJ hKK
    have HJJ := Lib.hid hJJ
    have HKK := Lib.hid hKK
    clear hJJ hKK
    refine wp_region_held_drew (S := fun w' => Below w1.heap.size w1 w') (by kernel_rfl) (below_draws (Below.refl _ _) 1) (fun hHeld => ?_)
    generalize w1.drew = wd at hHeld ⊢
    refine take_at (i := 0) 27 rfl rfl (by kernel_rfl) (by kernel_rfl) (by kernel_rfl) (fun _ _ _ h => h) (sure_yes (by rfl) (fun w => by go_simp; try with_reducible rfl)) hHeld ?_
    simp only [List.setIfInBounds_toArray, List.set_cons_zero, List.set_cons_succ]
    refine take_at (i := 1) 28 rfl rfl (by kernel_rfl) (by kernel_rfl) (by kernel_rfl) (fun _ _ _ h => h) (sure_yes (by rfl) (fun w => by go_simp; try with_reducible rfl)) hHeld ?_
    simp only [List.setIfInBounds_toArray, List.set_cons_zero, List.set_cons_succ]
    refine take_at (i := 2) 29 rfl rfl (by kernel_rfl) (by kernel_rfl) (by kernel_rfl) (fun _ _ _ h => h) (sure_yes (by rfl) (to_op (l := s) (n := k) rfl rfl rfl (by omega) Tryd.underlying9)) hHeld ?_
    simp only [List.setIfInBounds_toArray, List.set_cons_zero, List.set_cons_succ]
    refine take_at (i := 3) 30 rfl rfl (by kernel_rfl) (by kernel_rfl) (by kernel_rfl) (fun _ _ _ h => h) (sure_yes (by rfl) (fun w => by go_simp; try with_reducible rfl)) hHeld ?_
    simp only [List.setIfInBounds_toArray, List.set_cons_zero, List.set_cons_succ]
    refine take_at (i := 4) 31 rfl rfl (by kernel_rfl) (by kernel_rfl) (by kernel_rfl) (fun _ _ _ h => h) (sure_yes (by rfl) (fun w => by go_simp; try with_reducible rfl)) hHeld ?_
    simp only [List.setIfInBounds_toArray, List.set_cons_zero, List.set_cons_succ]
    refine take_at (i := 5) 32 rfl rfl (by kernel_rfl) (by kernel_rfl) (by kernel_rfl) (fun _ _ _ h => h) (sure_yes (by rfl) (fun w => by go_simp; try with_reducible rfl)) hHeld ?_
    simp only [List.setIfInBounds_toArray, List.set_cons_zero, List.set_cons_succ]
    refine take_at (i := 6) 33 rfl rfl (by kernel_rfl) (by kernel_rfl) (by kernel_rfl) (fun _ _ _ h => h) (sure_yes (by rfl) (from_op (l := s) (n := k1) rfl rfl rfl (by omega) Tryd.underlying9)) hHeld ?_
    simp only [List.setIfInBounds_toArray, List.set_cons_zero, List.set_cons_succ]
    refine take_at (i := 7) 34 rfl rfl (by kernel_rfl) (by kernel_rfl) (by kernel_rfl) (fun _ _ _ h => h) (sure_yes (by rfl) (add_op rfl rfl rfl (by rw [List.length_take, List.length_drop]; omega))) hHeld ?_
    simp only [List.setIfInBounds_toArray, List.set_cons_zero, List.set_cons_succ]
    refine wpAnyH_ready (rs := [8, 12]) (by kernel_rfl) (by simp) ?_
    refine AllReadyH.cons rfl (fun K hK => ?_) (AllReadyH.cons rfl (fun K hK => ?_) AllReadyH.nil)
    · go_simp
      go_at_call 10
      refine (P1.out _).mono ?_
      rintro e v1 ⟨rfl, hb⟩
      dsimp only
      refine hK.out _ _ (below_next hHeld hb) (fun hHeld => ?_)
      clear hK K
      clear hb
      refine take_at (i := 9) 26 rfl rfl (by kernel_rfl) (by kernel_rfl) (by kernel_rfl) (fun _ _ _ h => h) (sure_yes (by rfl) (fun w => by go_simp; try with_reducible rfl)) hHeld ?_
      simp only [List.setIfInBounds_toArray, List.set_cons_zero, List.set_cons_succ]
      refine take_at (i := 10) 36 rfl rfl (by kernel_rfl) (by kernel_rfl) (by kernel_rfl) (fun _ _ _ h => h) (sure_yes (by rfl) (fun w => by go_simp; try with_reducible rfl)) hHeld ?_
      simp only [List.setIfInBounds_toArray, List.set_cons_zero, List.set_cons_succ]
      refine take_at (i := 11) 37 rfl rfl (by kernel_rfl) (by kernel_rfl) (by kernel_rfl) (fun _ _ _ h => h) (sure_yes (by rfl) (fun w => by go_simp; try with_reducible rfl)) hHeld ?_
      simp only [List.setIfInBounds_toArray, List.set_cons_zero, List.set_cons_succ]
      refine wpAnyH_ready (rs := [12]) (by kernel_rfl) (by simp) ?_
      refine AllReadyH.cons rfl (fun K hK => ?_) AllReadyH.nil
      refine alloc_at 10 rfl (by rfl) 23 rfl _ zeroDigest ?_
      have hA := heap_last v1 (.cells (row .u8 32 fun _ => 0#32) 23 (0, 0))
      have hb := (Below.refl v1.heap.size v1).alloc (Nat.le_refl _) (.cells (row .u8 32 fun _ => 0#32) 23 (0, 0))
      have hAs : v1.heap.size < (v1.alloc (.cells (row .u8 32 fun _ => 0#32) 23 (0, 0))).heap.size := by simp
      have hA0 : w1.heap.size ≤ v1.heap.size := hHeld.size
      generalize v1.alloc (.cells (row .u8 32 fun _ => 0#32) 23 (0, 0)) = v2 at hA hAs hb ⊢
      have HA := Lib.hid (And.intro hA (And.intro hAs hA0))
      clear hA hAs hA0
      refine hK.out _ _ (below_next hHeld hb) (fun hHeld => ?_)
      clear hK K hb
      simp only [List.setIfInBounds_toArray, List.set_cons_zero, List.set_cons_succ]
      refine wpAnyH_ready (rs := [13]) (by kernel_rfl) (by simp) ?_
      refine AllReadyH.cons rfl (fun K hK => ?_) AllReadyH.nil
      refine store_at rfl (by rfl) 23 (.tmp 10) (.tmp 36) rfl v1.heap.size (row .u8 32 (fun _ => 0#32)) rfl rfl 23 _ HA.out.1 (by kernel_rfl) ((row_size _ _ _).trans (row_size _ _ _).symm) (row_one _ _ _) ?_
      have hX := setRow_heap _ _ _ (row .u8 32 (fun _ => 0#32)) _ _ HA.out.1
      have hbel : Below w1.heap.size w1 (v2.setRow v1.heap.size (row .u8 32 (fun _ => 0#32))) := below_setRow hHeld HA.out.2.2 _
      have hXs : v1.heap.size < (v2.setRow v1.heap.size (row .u8 32 (fun _ => 0#32))).heap.size := by simpa using HA.out.2.1
      generalize v2.setRow v1.heap.size (row .u8 32 (fun _ => 0#32)) = v3 at hX hbel hXs ⊢
      have HX := Lib.hid (And.intro hX (And.intro hXs HA.out.2.2))
      refine hK.out _ _ hbel (fun hHeld => ?_)
      clear hK K hbel HA hX hXs
      refine take_at (i := 14) 11 rfl rfl (by kernel_rfl) (by kernel_rfl) (by kernel_rfl) (fun _ _ _ h => h) (sure_yes (by rfl) (fun w => by go_simp; try with_reducible rfl)) hHeld ?_
      simp only [List.setIfInBounds_toArray, List.set_cons_zero, List.set_cons_succ]
      refine wpAnyH_done (by kernel_rfl) ?_ _
      refine HKK.out _ _ ?_
      have hJJ := HJJ.out
      go_meet
      exact ⟨⟨_, rfl⟩, rfl, (hHeld.block _ hs1).trans H1.out, Nat.lt_of_lt_of_le hs1 hHeld.size, below_next B1.out hHeld⟩
    · refine alloc_at 10 rfl (by rfl) 23 rfl _ zeroDigest ?_
      have hA := heap_last wd (.cells (row .u8 32 fun _ => 0#32) 23 (0, 0))
      have hb := (Below.refl wd.heap.size wd).alloc (Nat.le_refl _) (.cells (row .u8 32 fun _ => 0#32) 23 (0, 0))
      have hAs : wd.heap.size < (wd.alloc (.cells (row .u8 32 fun _ => 0#32) 23 (0, 0))).heap.size := by simp
      have hA0 : w1.heap.size ≤ wd.heap.size := hHeld.size
      generalize wd.alloc (.cells (row .u8 32 fun _ => 0#32) 23 (0, 0)) = v4 at hA hAs hb ⊢
      have HA := Lib.hid (And.intro hA (And.intro hAs hA0))
      clear hA hAs hA0
      refine hK.out _ _ (below_next hHeld hb) (fun hHeld => ?_)
      clear hK K hb
      simp only [List.setIfInBounds_toArray, List.set_cons_zero, List.set_cons_succ]
      refine wpAnyH_ready (rs := [8]) (by kernel_rfl) (by simp) ?_
      refine AllReadyH.cons rfl (fun K hK => ?_) AllReadyH.nil
      go_simp
      go_at_call 10
      refine (P1.out _).mono ?_
      rintro e v5 ⟨rfl, hb⟩
      dsimp only
      refine hK.out _ _ (below_next hHeld hb) (fun hHeld => ?_)
      clear hK K
      replace HA := Lib.hid (And.intro ((hb.block _ HA.out.2.1).trans HA.out.1) (And.intro (Nat.lt_of_lt_of_le HA.out.2.1 hb.size) HA.out.2.2))
      clear hb
      refine take_at (i := 9) 26 rfl rfl (by kernel_rfl) (by kernel_rfl) (by kernel_rfl) (fun _ _ _ h => h) (sure_yes (by rfl) (fun w => by go_simp; try with_reducible rfl)) hHeld ?_
      simp only [List.setIfInBounds_toArray, List.set_cons_zero, List.set_cons_succ]
      refine take_at (i := 10) 36 rfl rfl (by kernel_rfl) (by kernel_rfl) (by kernel_rfl) (fun _ _ _ h => h) (sure_yes (by rfl) (fun w => by go_simp; try with_reducible rfl)) hHeld ?_
      simp only [List.setIfInBounds_toArray, List.set_cons_zero, List.set_cons_succ]
      refine take_at (i := 11) 37 rfl rfl (by kernel_rfl) (by kernel_rfl) (by kernel_rfl) (fun _ _ _ h => h) (sure_yes (by rfl) (fun w => by go_simp; try with_reducible rfl)) hHeld ?_
      simp only [List.setIfInBounds_toArray, List.set_cons_zero, List.set_cons_succ]
      refine wpAnyH_ready (rs := [13]) (by kernel_rfl) (by simp) ?_
      refine AllReadyH.cons rfl (fun K hK => ?_) AllReadyH.nil
      refine store_at rfl (by rfl) 23 (.tmp 10) (.tmp 36) rfl wd.heap.size (row .u8 32 (fun _ => 0#32)) rfl rfl 23 _ HA.out.1 (by kernel_rfl) ((row_size _ _ _).trans (row_size _ _ _).symm) (row_one _ _ _) ?_
      have hX := setRow_heap _ _ _ (row .u8 32 (fun _ => 0#32)) _ _ HA.out.1
      have hbel : Below w1.heap.size w1 (v5.setRow wd.heap.size (row .u8 32 (fun _ => 0#32))) := below_setRow hHeld HA.out.2.2 _
      have hXs : wd.heap.size < (v5.setRow wd.heap.size (row .u8 32 (fun _ => 0#32))).heap.size := by simpa using HA.out.2.1
      generalize v5.setRow wd.heap.size (row .u8 32 (fun _ => 0#32)) = v6 at hX hbel hXs ⊢
      have HX := Lib.hid (And.intro hX (And.intro hXs HA.out.2.2))
      refine hK.out _ _ hbel (fun hHeld => ?_)
      clear hK K hbel HA hX hXs
      refine take_at (i := 14) 11 rfl rfl (by kernel_rfl) (by kernel_rfl) (by kernel_rfl) (fun _ _ _ h => h) (sure_yes (by rfl) (fun w => by go_simp; try with_reducible rfl)) hHeld ?_
      simp only [List.setIfInBounds_toArray, List.set_cons_zero, List.set_cons_succ]
      refine wpAnyH_done (by kernel_rfl) ?_ _
      refine HKK.out _ _ ?_
      have hJJ := HJJ.out
      go_meet
      exact ⟨⟨_, rfl⟩, rfl, (hHeld.block _ hs1).trans H1.out, Nat.lt_of_lt_of_le hs1 hHeld.size, below_next B1.out hHeld⟩
  case rest =>
  obtain ⟨⟨g6, rfl⟩, rfl, h2, hs2, b2⟩ := hcut
  have H2 := Lib.hid h2
  have B2 := Lib.hid b2
  clear h2 b2 H1 B1 P1
  go_upto_region 7 with fail
  go_cut [12, 13] (fun s10 s11 wx => (∃ g, s10 = .pointer (some ⟨g, 0, none⟩)) ∧ s11 = .int .i64 2 ∧ wx.heap[w.heap.size]? = some (.cells (row .u8 32 f) 23 (0, 0)) ∧ w.heap.size < wx.heap.size ∧ Below w.heap.size w wx)
  case first =>
    rename_i JJ KK hJJ hKK
    have HJJ := Lib.hid hJJ
    have HKK := Lib.hid hKK
    clear hJJ hKK
    refine wp_region_held_drew (S := fun w' => Below wc.heap.size wc w') (by kernel_rfl) (below_draws (Below.refl _ _) 1) (fun hHeld => ?_)
    generalize wc.drew = wd at hHeld ⊢
    refine take_at (i := 0) 39 rfl rfl (by kernel_rfl) (by kernel_rfl) (by kernel_rfl) (fun _ _ _ h => h) (sure_yes (by rfl) (fun w => by go_simp; try with_reducible rfl)) hHeld ?_
    simp only [List.setIfInBounds_toArray, List.set_cons_zero, List.set_cons_succ]
    refine take_at (i := 1) 40 rfl rfl (by kernel_rfl) (by kernel_rfl) (by kernel_rfl) (fun _ _ _ h => h) (sure_yes (by rfl) (fun w => by go_simp; try with_reducible rfl)) hHeld ?_
    simp only [List.setIfInBounds_toArray, List.set_cons_zero, List.set_cons_succ]
    refine take_at (i := 2) 41 rfl rfl (by kernel_rfl) (by kernel_rfl) (by kernel_rfl) (fun _ _ _ h => h) (sure_yes (by rfl) (to_op (l := s) (n := k) rfl rfl rfl (by omega) Tryd.underlying9)) hHeld ?_
    simp only [List.setIfInBounds_toArray, List.set_cons_zero, List.set_cons_succ]
    refine take_at (i := 3) 42 rfl rfl (by kernel_rfl) (by kernel_rfl) (by kernel_rfl) (fun _ _ _ h => h) (sure_yes (by rfl) (add_op (m := [48]) rfl rfl rfl (by rw [List.length_take]; simp; omega))) hHeld ?_
    simp only [List.setIfInBounds_toArray, List.set_cons_zero, List.set_cons_succ]
    refine take_at (i := 4) 43 rfl rfl (by kernel_rfl) (by kernel_rfl) (by kernel_rfl) (fun _ _ _ h => h) (sure_yes (by rfl) (fun w => by go_simp; try with_reducible rfl)) hHeld ?_
    simp only [List.setIfInBounds_toArray, List.set_cons_zero, List.set_cons_succ]
    refine take_at (i := 5) 44 rfl rfl (by kernel_rfl) (by kernel_rfl) (by kernel_rfl) (fun _ _ _ h => h) (sure_yes (by rfl) (fun w => by go_simp; try with_reducible rfl)) hHeld ?_
    simp only [List.setIfInBounds_toArray, List.set_cons_zero, List.set_cons_succ]
    refine take_at (i := 6) 45 rfl rfl (by kernel_rfl) (by kernel_rfl) (by kernel_rfl) (fun _ _ _ h => h) (sure_yes (by rfl) (from_op (l := s) (n := k) rfl rfl rfl (by omega) Tryd.underlying9)) hHeld ?_
    simp only [List.setIfInBounds_toArray, List.set_cons_zero, List.set_cons_succ]
    refine take_at (i := 7) (v := .string (str l2)) 46 rfl rfl (by kernel_rfl) (by kernel_rfl) (by kernel_rfl) (fun _ _ _ h => h) (sure_yes (by rfl) (fun w => by rw [HL2.out]; exact add_op rfl rfl rfl (by simp only [List.length_append, List.length_take, List.length_drop, List.length_cons, List.length_nil]; omega) w)) hHeld ?_
    simp only [List.setIfInBounds_toArray, List.set_cons_zero, List.set_cons_succ]
    refine wpAnyH_ready (rs := [8, 12]) (by kernel_rfl) (by simp) ?_
    refine AllReadyH.cons rfl (fun K hK => ?_) (AllReadyH.cons rfl (fun K hK => ?_) AllReadyH.nil)
    · go_simp
      go_at_call 10
      refine (P2.out _).mono ?_
      rintro e v1 ⟨rfl, hb⟩
      dsimp only
      refine hK.out _ _ (below_next hHeld hb) (fun hHeld => ?_)
      clear hK K
      clear hb
      refine take_at (i := 9) 38 rfl rfl (by kernel_rfl) (by kernel_rfl) (by kernel_rfl) (fun _ _ _ h => h) (sure_yes (by rfl) (fun w => by go_simp; try with_reducible rfl)) hHeld ?_
      simp only [List.setIfInBounds_toArray, List.set_cons_zero, List.set_cons_succ]
      refine take_at (i := 10) 48 rfl rfl (by kernel_rfl) (by kernel_rfl) (by kernel_rfl) (fun _ _ _ h => h) (sure_yes (by rfl) (fun w => by go_simp; try with_reducible rfl)) hHeld ?_
      simp only [List.setIfInBounds_toArray, List.set_cons_zero, List.set_cons_succ]
      refine take_at (i := 11) 49 rfl rfl (by kernel_rfl) (by kernel_rfl) (by kernel_rfl) (fun _ _ _ h => h) (sure_yes (by rfl) (fun w => by go_simp; try with_reducible rfl)) hHeld ?_
      simp only [List.setIfInBounds_toArray, List.set_cons_zero, List.set_cons_succ]
      refine wpAnyH_ready (rs := [12]) (by kernel_rfl) (by simp) ?_
      refine AllReadyH.cons rfl (fun K hK => ?_) AllReadyH.nil
      refine alloc_at 12 rfl (by rfl) 23 rfl _ zeroDigest ?_
      have hA := heap_last v1 (.cells (row .u8 32 fun _ => 0#32) 23 (0, 0))
      have hb := (Below.refl v1.heap.size v1).alloc (Nat.le_refl _) (.cells (row .u8 32 fun _ => 0#32) 23 (0, 0))
      have hAs : v1.heap.size < (v1.alloc (.cells (row .u8 32 fun _ => 0#32) 23 (0, 0))).heap.size := by simp
      have hA0 : wc.heap.size ≤ v1.heap.size := hHeld.size
      generalize v1.alloc (.cells (row .u8 32 fun _ => 0#32) 23 (0, 0)) = v2 at hA hAs hb ⊢
      have HA := Lib.hid (And.intro hA (And.intro hAs hA0))
      clear hA hAs hA0
      refine hK.out _ _ (below_next hHeld hb) (fun hHeld => ?_)
      clear hK K hb
      simp only [List.setIfInBounds_toArray, List.set_cons_zero, List.set_cons_succ]
      refine wpAnyH_ready (rs := [13]) (by kernel_rfl) (by simp) ?_
      refine AllReadyH.cons rfl (fun K hK => ?_) AllReadyH.nil
      refine store_at rfl (by rfl) 23 (.tmp 12) (.tmp 48) rfl v1.heap.size (row .u8 32 (fun _ => 0#32)) rfl rfl 23 _ HA.out.1 (by kernel_rfl) ((row_size _ _ _).trans (row_size _ _ _).symm) (row_one _ _ _) ?_
      have hX := setRow_heap _ _ _ (row .u8 32 (fun _ => 0#32)) _ _ HA.out.1
      have hbel : Below wc.heap.size wc (v2.setRow v1.heap.size (row .u8 32 (fun _ => 0#32))) := below_setRow hHeld HA.out.2.2 _
      have hXs : v1.heap.size < (v2.setRow v1.heap.size (row .u8 32 (fun _ => 0#32))).heap.size := by simpa using HA.out.2.1
      generalize v2.setRow v1.heap.size (row .u8 32 (fun _ => 0#32)) = v3 at hX hbel hXs ⊢
      have HX := Lib.hid (And.intro hX (And.intro hXs HA.out.2.2))
      refine hK.out _ _ hbel (fun hHeld => ?_)
      clear hK K hbel HA hX hXs
      refine take_at (i := 14) 13 rfl rfl (by kernel_rfl) (by kernel_rfl) (by kernel_rfl) (fun _ _ _ h => h) (sure_yes (by rfl) (fun w => by go_simp; try with_reducible rfl)) hHeld ?_
      simp only [List.setIfInBounds_toArray, List.set_cons_zero, List.set_cons_succ]
      refine wpAnyH_done (by kernel_rfl) ?_ _
      refine HKK.out _ _ ?_
      have hJJ := HJJ.out
      go_meet
      exact ⟨⟨_, rfl⟩, rfl, (hHeld.block _ hs2).trans H2.out, Nat.lt_of_lt_of_le hs2 hHeld.size, below_next B2.out hHeld⟩
    · refine alloc_at 12 rfl (by rfl) 23 rfl _ zeroDigest ?_
      have hA := heap_last wd (.cells (row .u8 32 fun _ => 0#32) 23 (0, 0))
      have hb := (Below.refl wd.heap.size wd).alloc (Nat.le_refl _) (.cells (row .u8 32 fun _ => 0#32) 23 (0, 0))
      have hAs : wd.heap.size < (wd.alloc (.cells (row .u8 32 fun _ => 0#32) 23 (0, 0))).heap.size := by simp
      have hA0 : wc.heap.size ≤ wd.heap.size := hHeld.size
      generalize wd.alloc (.cells (row .u8 32 fun _ => 0#32) 23 (0, 0)) = v4 at hA hAs hb ⊢
      have HA := Lib.hid (And.intro hA (And.intro hAs hA0))
      clear hA hAs hA0
      refine hK.out _ _ (below_next hHeld hb) (fun hHeld => ?_)
      clear hK K hb
      simp only [List.setIfInBounds_toArray, List.set_cons_zero, List.set_cons_succ]
      refine wpAnyH_ready (rs := [8]) (by kernel_rfl) (by simp) ?_
      refine AllReadyH.cons rfl (fun K hK => ?_) AllReadyH.nil
      go_simp
      go_at_call 10
      refine (P2.out _).mono ?_
      rintro e v5 ⟨rfl, hb⟩
      dsimp only
      refine hK.out _ _ (below_next hHeld hb) (fun hHeld => ?_)
      clear hK K
      replace HA := Lib.hid (And.intro ((hb.block _ HA.out.2.1).trans HA.out.1) (And.intro (Nat.lt_of_lt_of_le HA.out.2.1 hb.size) HA.out.2.2))
      clear hb
      refine take_at (i := 9) 38 rfl rfl (by kernel_rfl) (by kernel_rfl) (by kernel_rfl) (fun _ _ _ h => h) (sure_yes (by rfl) (fun w => by go_simp; try with_reducible rfl)) hHeld ?_
      simp only [List.setIfInBounds_toArray, List.set_cons_zero, List.set_cons_succ]
      refine take_at (i := 10) 48 rfl rfl (by kernel_rfl) (by kernel_rfl) (by kernel_rfl) (fun _ _ _ h => h) (sure_yes (by rfl) (fun w => by go_simp; try with_reducible rfl)) hHeld ?_
      simp only [List.setIfInBounds_toArray, List.set_cons_zero, List.set_cons_succ]
      refine take_at (i := 11) 49 rfl rfl (by kernel_rfl) (by kernel_rfl) (by kernel_rfl) (fun _ _ _ h => h) (sure_yes (by rfl) (fun w => by go_simp; try with_reducible rfl)) hHeld ?_
      simp only [List.setIfInBounds_toArray, List.set_cons_zero, List.set_cons_succ]
      refine wpAnyH_ready (rs := [13]) (by kernel_rfl) (by simp) ?_
      refine AllReadyH.cons rfl (fun K hK => ?_) AllReadyH.nil
      refine store_at rfl (by rfl) 23 (.tmp 12) (.tmp 48) rfl wd.heap.size (row .u8 32 (fun _ => 0#32)) rfl rfl 23 _ HA.out.1 (by kernel_rfl) ((row_size _ _ _).trans (row_size _ _ _).symm) (row_one _ _ _) ?_
      have hX := setRow_heap _ _ _ (row .u8 32 (fun _ => 0#32)) _ _ HA.out.1
      have hbel : Below wc.heap.size wc (v5.setRow wd.heap.size (row .u8 32 (fun _ => 0#32))) := below_setRow hHeld HA.out.2.2 _
      have hXs : wd.heap.size < (v5.setRow wd.heap.size (row .u8 32 (fun _ => 0#32))).heap.size := by simpa using HA.out.2.1
      generalize v5.setRow wd.heap.size (row .u8 32 (fun _ => 0#32)) = v6 at hX hbel hXs ⊢
      have HX := Lib.hid (And.intro hX (And.intro hXs HA.out.2.2))
      refine hK.out _ _ hbel (fun hHeld => ?_)
      clear hK K hbel HA hX hXs
      refine take_at (i := 14) 13 rfl rfl (by kernel_rfl) (by kernel_rfl) (by kernel_rfl) (fun _ _ _ h => h) (sure_yes (by rfl) (fun w => by go_simp; try with_reducible rfl)) hHeld ?_
      simp only [List.setIfInBounds_toArray, List.set_cons_zero, List.set_cons_succ]
      refine wpAnyH_done (by kernel_rfl) ?_ _
      refine HKK.out _ _ ?_
      have hJJ := HJJ.out
      go_meet
      exact ⟨⟨_, rfl⟩, rfl, (hHeld.block _ hs2).trans H2.out, Nat.lt_of_lt_of_le hs2 hHeld.size, below_next B2.out hHeld⟩
  case rest =>
  obtain ⟨⟨g7, rfl⟩, rfl, h3, hs3, b3⟩ := hcut
  have H3 := Lib.hid h3
  have B3 := Lib.hid b3
  clear h3 b3 H2 B2 P2
  go_upto_region 8 with fail
  go_cut [14, 15] (fun s14 s15 wx => ∃ g, s14 = .pointer (some ⟨g, 0, none⟩) ∧ wx.heap[g]? = some (.cells (row .u8 32 pt) 23 (0, 0)) ∧ s15 = .int .i64 et ∧ wx.heap[w.heap.size]? = some (.cells (row .u8 32 f) 23 (0, 0)) ∧ w.heap.size < wx.heap.size ∧ Below w.heap.size w wx)
  case first =>
    rename_i JJ KK hJJ hKK
    have HJJ := Lib.hid hJJ
    have HKK := Lib.hid hKK
    clear hJJ hKK
    refine wp_region_held_drew (S := fun w' => Below wc.heap.size wc w') (by kernel_rfl) (below_draws (Below.refl _ _) 1) (fun hHeld => ?_)
    generalize wc.drew = wd at hHeld ⊢
    refine take_at (i := 0) 51 rfl rfl (by kernel_rfl) (by kernel_rfl) (by kernel_rfl) (fun _ _ _ h => h) (sure_yes (by rfl) (fun w => by go_simp; try with_reducible rfl)) hHeld ?_
    simp only [List.setIfInBounds_toArray, List.set_cons_zero, List.set_cons_succ]
    refine take_at (i := 1) 52 rfl rfl (by kernel_rfl) (by kernel_rfl) (by kernel_rfl) (fun _ _ _ h => h) (sure_yes (by rfl) (fun w => by go_simp; try with_reducible rfl)) hHeld ?_
    simp only [List.setIfInBounds_toArray, List.set_cons_zero, List.set_cons_succ]
    refine take_at (i := 2) 53 rfl rfl (by kernel_rfl) (by kernel_rfl) (by kernel_rfl) (fun _ _ _ h => h) (sure_yes (by rfl) (to_op (l := s) (n := k) rfl rfl rfl (by omega) Tryd.underlying9)) hHeld ?_
    simp only [List.setIfInBounds_toArray, List.set_cons_zero, List.set_cons_succ]
    refine take_at (i := 3) 54 rfl rfl (by kernel_rfl) (by kernel_rfl) (by kernel_rfl) (fun _ _ _ h => h) (sure_yes (by rfl) (fun w => by go_simp; try with_reducible rfl)) hHeld ?_
    simp only [List.setIfInBounds_toArray, List.set_cons_zero, List.set_cons_succ]
    refine take_at (i := 7) 58 rfl rfl (by kernel_rfl) (by kernel_rfl) (by kernel_rfl) (fun _ _ _ h => h) (sure_yes (by rfl) (fun w => by go_simp; try with_reducible rfl)) hHeld ?_
    simp only [List.setIfInBounds_toArray, List.set_cons_zero, List.set_cons_succ]
    refine take_at (i := 8) 59 rfl rfl (by kernel_rfl) (by kernel_rfl) (by kernel_rfl) (fun _ _ _ h => h) (sure_yes (by rfl) (fun w => by go_simp; try with_reducible rfl)) hHeld ?_
    simp only [List.setIfInBounds_toArray, List.set_cons_zero, List.set_cons_succ]
    refine take_at (i := 9) 60 rfl rfl (by kernel_rfl) (by kernel_rfl) (by kernel_rfl) (fun _ _ _ h => h) (sure_yes (by rfl) (fun w => by go_simp; try with_reducible rfl)) hHeld ?_
    simp only [List.setIfInBounds_toArray, List.set_cons_zero, List.set_cons_succ]
    refine take_at (i := 10) 61 rfl rfl (by kernel_rfl) (by kernel_rfl) (by kernel_rfl) (fun _ _ _ h => h) (sure_yes (by rfl) (from_op (l := s) (n := k1) rfl rfl rfl (by omega) Tryd.underlying9)) hHeld ?_
    simp only [List.setIfInBounds_toArray, List.set_cons_zero, List.set_cons_succ]
    refine wpAnyH_ready (rs := [4, 16]) (by kernel_rfl) (by simp) ?_
    refine AllReadyH.cons rfl (fun K hK => ?_) (AllReadyH.cons rfl (fun K hK => ?_) AllReadyH.nil)
    · go_simp
      have hb := (Below.refl wd.heap.size wd).alloc (Nat.le_refl _) (.cells #[.int .u8 (cn : Int)] 5 (0, 0))
      have hT := text_byte wd 5 c cn HSF.out.2.2.1
      generalize wd.alloc (.cells #[.int .u8 (cn : Int)] 5 (0, 0)) = v1 at hT hb ⊢
      have HT := Lib.hid hT
      clear hT
      refine hK.out _ _ (below_next hHeld hb) (fun hHeld => ?_)
      clear hK K hb
      refine wpAnyH_ready (rs := [5, 16]) (by kernel_rfl) (by simp) ?_
      refine AllReadyH.cons rfl (fun K hK => ?_) (AllReadyH.cons rfl (fun K hK => ?_) AllReadyH.nil)
      · refine conv_step 56 rfl (by rfl) 39 9 5 (.tmp 55) _ rfl rfl Tryd.underlying39 Tryd.underlying5 Tryd.underlying9 [c] HT.out ?_
        refine hK.out _ _ hHeld (fun hHeld => ?_)
        clear hK K HT
        simp only [List.setIfInBounds_toArray, List.set_cons_zero, List.set_cons_succ]
        refine take_at (i := 6) 57 rfl rfl (by kernel_rfl) (by kernel_rfl) (by kernel_rfl) (fun _ _ _ h => h) (sure_yes (by rfl) (add_op (l := s.take k) (m := [c]) rfl rfl rfl (by rw [List.length_take]; simp; omega))) hHeld ?_
        simp only [List.setIfInBounds_toArray, List.set_cons_zero, List.set_cons_succ]
        refine take_at (i := 11) (v := .string (str l3)) 62 rfl rfl (by kernel_rfl) (by kernel_rfl) (by kernel_rfl) (fun _ _ _ h => h) (sure_yes (by rfl) (fun w => by rw [HL3.out]; exact add_op rfl rfl rfl (by simp only [List.length_append, List.length_take, List.length_drop, List.length_cons, List.length_nil]; omega) w)) hHeld ?_
        simp only [List.setIfInBounds_toArray, List.set_cons_zero, List.set_cons_succ]
        refine wpAnyH_ready (rs := [12, 16]) (by kernel_rfl) (by simp) ?_
        refine AllReadyH.cons rfl (fun K hK => ?_) (AllReadyH.cons rfl (fun K hK => ?_) AllReadyH.nil)
        · go_simp
          go_at_call 10
          refine (P3.out _).mono ?_
          rintro e v3 ⟨rfl, hb⟩
          dsimp only
          refine hK.out _ _ (below_next hHeld hb) (fun hHeld => ?_)
          clear hK K
          clear hb
          refine take_at (i := 13) 50 rfl rfl (by kernel_rfl) (by kernel_rfl) (by kernel_rfl) (fun _ _ _ h => h) (sure_yes (by rfl) (fun w => by go_simp; try with_reducible rfl)) hHeld ?_
          simp only [List.setIfInBounds_toArray, List.set_cons_zero, List.set_cons_succ]
          refine take_at (i := 14) 64 rfl rfl (by kernel_rfl) (by kernel_rfl) (by kernel_rfl) (fun _ _ _ h => h) (sure_yes (by rfl) (fun w => by go_simp; try with_reducible rfl)) hHeld ?_
          simp only [List.setIfInBounds_toArray, List.set_cons_zero, List.set_cons_succ]
          refine take_at (i := 15) 65 rfl rfl (by kernel_rfl) (by kernel_rfl) (by kernel_rfl) (fun _ _ _ h => h) (sure_yes (by rfl) (fun w => by go_simp; try with_reducible rfl)) hHeld ?_
          simp only [List.setIfInBounds_toArray, List.set_cons_zero, List.set_cons_succ]
          refine wpAnyH_ready (rs := [16]) (by kernel_rfl) (by simp) ?_
          refine AllReadyH.cons rfl (fun K hK => ?_) AllReadyH.nil
          refine alloc_at 14 rfl (by rfl) 23 rfl _ zeroDigest ?_
          have hA := heap_last v3 (.cells (row .u8 32 fun _ => 0#32) 23 (0, 0))
          have hb := (Below.refl v3.heap.size v3).alloc (Nat.le_refl _) (.cells (row .u8 32 fun _ => 0#32) 23 (0, 0))
          have hAs : v3.heap.size < (v3.alloc (.cells (row .u8 32 fun _ => 0#32) 23 (0, 0))).heap.size := by simp
          have hA0 : wc.heap.size ≤ v3.heap.size := hHeld.size
          generalize v3.alloc (.cells (row .u8 32 fun _ => 0#32) 23 (0, 0)) = v4 at hA hAs hb ⊢
          have HA := Lib.hid (And.intro hA (And.intro hAs hA0))
          clear hA hAs hA0
          refine hK.out _ _ (below_next hHeld hb) (fun hHeld => ?_)
          clear hK K hb
          simp only [List.setIfInBounds_toArray, List.set_cons_zero, List.set_cons_succ]
          refine wpAnyH_ready (rs := [17]) (by kernel_rfl) (by simp) ?_
          refine AllReadyH.cons rfl (fun K hK => ?_) AllReadyH.nil
          refine store_at rfl (by rfl) 23 (.tmp 14) (.tmp 64) rfl v3.heap.size (row .u8 32 pt) rfl rfl 23 _ HA.out.1 (by kernel_rfl) ((row_size _ _ _).trans (row_size _ _ _).symm) (row_one _ _ _) ?_
          have hX := setRow_heap _ _ _ (row .u8 32 pt) _ _ HA.out.1
          have hbel : Below wc.heap.size wc (v4.setRow v3.heap.size (row .u8 32 pt)) := below_setRow hHeld HA.out.2.2 _
          have hXs : v3.heap.size < (v4.setRow v3.heap.size (row .u8 32 pt)).heap.size := by simpa using HA.out.2.1
          generalize v4.setRow v3.heap.size (row .u8 32 pt) = v5 at hX hbel hXs ⊢
          have HX := Lib.hid (And.intro hX (And.intro hXs HA.out.2.2))
          refine hK.out _ _ hbel (fun hHeld => ?_)
          clear hK K hbel HA hX hXs
          refine take_at (i := 18) 15 rfl rfl (by kernel_rfl) (by kernel_rfl) (by kernel_rfl) (fun _ _ _ h => h) (sure_yes (by rfl) (fun w => by go_simp; try with_reducible rfl)) hHeld ?_
          simp only [List.setIfInBounds_toArray, List.set_cons_zero, List.set_cons_succ]
          refine wpAnyH_done (by kernel_rfl) ?_ _
          refine HKK.out _ _ ?_
          have hJJ := HJJ.out
          go_meet
          exact ⟨_, rfl, HX.out.1, rfl, (hHeld.block _ hs3).trans H3.out, Nat.lt_of_lt_of_le hs3 hHeld.size, below_next B3.out hHeld⟩
        · refine alloc_at 14 rfl (by rfl) 23 rfl _ zeroDigest ?_
          have hA := heap_last v1 (.cells (row .u8 32 fun _ => 0#32) 23 (0, 0))
          have hb := (Below.refl v1.heap.size v1).alloc (Nat.le_refl _) (.cells (row .u8 32 fun _ => 0#32) 23 (0, 0))
          have hAs : v1.heap.size < (v1.alloc (.cells (row .u8 32 fun _ => 0#32) 23 (0, 0))).heap.size := by simp
          have hA0 : wc.heap.size ≤ v1.heap.size := hHeld.size
          generalize v1.alloc (.cells (row .u8 32 fun _ => 0#32) 23 (0, 0)) = v6 at hA hAs hb ⊢
          have HA := Lib.hid (And.intro hA (And.intro hAs hA0))
          clear hA hAs hA0
          refine hK.out _ _ (below_next hHeld hb) (fun hHeld => ?_)
          clear hK K hb
          simp only [List.setIfInBounds_toArray, List.set_cons_zero, List.set_cons_succ]
          refine wpAnyH_ready (rs := [12]) (by kernel_rfl) (by simp) ?_
          refine AllReadyH.cons rfl (fun K hK => ?_) AllReadyH.nil
          go_simp
          go_at_call 10
          refine (P3.out _).mono ?_
          rintro e v7 ⟨rfl, hb⟩
          dsimp only
          refine hK.out _ _ (below_next hHeld hb) (fun hHeld => ?_)
          clear hK K
          replace HA := Lib.hid (And.intro ((hb.block _ HA.out.2.1).trans HA.out.1) (And.intro (Nat.lt_of_lt_of_le HA.out.2.1 hb.size) HA.out.2.2))
          clear hb
          refine take_at (i := 13) 50 rfl rfl (by kernel_rfl) (by kernel_rfl) (by kernel_rfl) (fun _ _ _ h => h) (sure_yes (by rfl) (fun w => by go_simp; try with_reducible rfl)) hHeld ?_
          simp only [List.setIfInBounds_toArray, List.set_cons_zero, List.set_cons_succ]
          refine take_at (i := 14) 64 rfl rfl (by kernel_rfl) (by kernel_rfl) (by kernel_rfl) (fun _ _ _ h => h) (sure_yes (by rfl) (fun w => by go_simp; try with_reducible rfl)) hHeld ?_
          simp only [List.setIfInBounds_toArray, List.set_cons_zero, List.set_cons_succ]
          refine take_at (i := 15) 65 rfl rfl (by kernel_rfl) (by kernel_rfl) (by kernel_rfl) (fun _ _ _ h => h) (sure_yes (by rfl) (fun w => by go_simp; try with_reducible rfl)) hHeld ?_
          simp only [List.setIfInBounds_toArray, List.set_cons_zero, List.set_cons_succ]
          refine wpAnyH_ready (rs := [17]) (by kernel_rfl) (by simp) ?_
          refine AllReadyH.cons rfl (fun K hK => ?_) AllReadyH.nil
          refine store_at rfl (by rfl) 23 (.tmp 14) (.tmp 64) rfl v1.heap.size (row .u8 32 pt) rfl rfl 23 _ HA.out.1 (by kernel_rfl) ((row_size _ _ _).trans (row_size _ _ _).symm) (row_one _ _ _) ?_
          have hX := setRow_heap _ _ _ (row .u8 32 pt) _ _ HA.out.1
          have hbel : Below wc.heap.size wc (v7.setRow v1.heap.size (row .u8 32 pt)) := below_setRow hHeld HA.out.2.2 _
          have hXs : v1.heap.size < (v7.setRow v1.heap.size (row .u8 32 pt)).heap.size := by simpa using HA.out.2.1
          generalize v7.setRow v1.heap.size (row .u8 32 pt) = v8 at hX hbel hXs ⊢
          have HX := Lib.hid (And.intro hX (And.intro hXs HA.out.2.2))
          refine hK.out _ _ hbel (fun hHeld => ?_)
          clear hK K hbel HA hX hXs
          refine take_at (i := 18) 15 rfl rfl (by kernel_rfl) (by kernel_rfl) (by kernel_rfl) (fun _ _ _ h => h) (sure_yes (by rfl) (fun w => by go_simp; try with_reducible rfl)) hHeld ?_
          simp only [List.setIfInBounds_toArray, List.set_cons_zero, List.set_cons_succ]
          refine wpAnyH_done (by kernel_rfl) ?_ _
          refine HKK.out _ _ ?_
          have hJJ := HJJ.out
          go_meet
          exact ⟨_, rfl, HX.out.1, rfl, (hHeld.block _ hs3).trans H3.out, Nat.lt_of_lt_of_le hs3 hHeld.size, below_next B3.out hHeld⟩
      · refine alloc_at 14 rfl (by rfl) 23 rfl _ zeroDigest ?_
        have hA := heap_last v1 (.cells (row .u8 32 fun _ => 0#32) 23 (0, 0))
        have hb := (Below.refl v1.heap.size v1).alloc (Nat.le_refl _) (.cells (row .u8 32 fun _ => 0#32) 23 (0, 0))
        have hAs : v1.heap.size < (v1.alloc (.cells (row .u8 32 fun _ => 0#32) 23 (0, 0))).heap.size := by simp
        have hA0 : wc.heap.size ≤ v1.heap.size := hHeld.size
        generalize v1.alloc (.cells (row .u8 32 fun _ => 0#32) 23 (0, 0)) = v9 at hA hAs hb ⊢
        have HA := Lib.hid (And.intro hA (And.intro hAs hA0))
        clear hA hAs hA0
        replace HT := Lib.hid (has_below HT.out hb)
        refine hK.out _ _ (below_next hHeld hb) (fun hHeld => ?_)
        clear hK K hb
        simp only [List.setIfInBounds_toArray, List.set_cons_zero, List.set_cons_succ]
        refine wpAnyH_ready (rs := [5]) (by kernel_rfl) (by simp) ?_
        refine AllReadyH.cons rfl (fun K hK => ?_) AllReadyH.nil
        refine conv_step 56 rfl (by rfl) 39 9 5 (.tmp 55) _ rfl rfl Tryd.underlying39 Tryd.underlying5 Tryd.underlying9 [c] HT.out ?_
        refine hK.out _ _ hHeld (fun hHeld => ?_)
        clear hK K HT
        simp only [List.setIfInBounds_toArray, List.set_cons_zero, List.set_cons_succ]
        refine take_at (i := 6) 57 rfl rfl (by kernel_rfl) (by kernel_rfl) (by kernel_rfl) (fun _ _ _ h => h) (sure_yes (by rfl) (add_op (l := s.take k) (m := [c]) rfl rfl rfl (by rw [List.length_take]; simp; omega))) hHeld ?_
        simp only [List.setIfInBounds_toArray, List.set_cons_zero, List.set_cons_succ]
        refine take_at (i := 11) (v := .string (str l3)) 62 rfl rfl (by kernel_rfl) (by kernel_rfl) (by kernel_rfl) (fun _ _ _ h => h) (sure_yes (by rfl) (fun w => by rw [HL3.out]; exact add_op rfl rfl rfl (by simp only [List.length_append, List.length_take, List.length_drop, List.length_cons, List.length_nil]; omega) w)) hHeld ?_
        simp only [List.setIfInBounds_toArray, List.set_cons_zero, List.set_cons_succ]
        refine wpAnyH_ready (rs := [12]) (by kernel_rfl) (by simp) ?_
        refine AllReadyH.cons rfl (fun K hK => ?_) AllReadyH.nil
        go_simp
        go_at_call 10
        refine (P3.out _).mono ?_
        rintro e v11 ⟨rfl, hb⟩
        dsimp only
        refine hK.out _ _ (below_next hHeld hb) (fun hHeld => ?_)
        clear hK K
        replace HA := Lib.hid (And.intro ((hb.block _ HA.out.2.1).trans HA.out.1) (And.intro (Nat.lt_of_lt_of_le HA.out.2.1 hb.size) HA.out.2.2))
        clear hb
        refine take_at (i := 13) 50 rfl rfl (by kernel_rfl) (by kernel_rfl) (by kernel_rfl) (fun _ _ _ h => h) (sure_yes (by rfl) (fun w => by go_simp; try with_reducible rfl)) hHeld ?_
        simp only [List.setIfInBounds_toArray, List.set_cons_zero, List.set_cons_succ]
        refine take_at (i := 14) 64 rfl rfl (by kernel_rfl) (by kernel_rfl) (by kernel_rfl) (fun _ _ _ h => h) (sure_yes (by rfl) (fun w => by go_simp; try with_reducible rfl)) hHeld ?_
        simp only [List.setIfInBounds_toArray, List.set_cons_zero, List.set_cons_succ]
        refine take_at (i := 15) 65 rfl rfl (by kernel_rfl) (by kernel_rfl) (by kernel_rfl) (fun _ _ _ h => h) (sure_yes (by rfl) (fun w => by go_simp; try with_reducible rfl)) hHeld ?_
        simp only [List.setIfInBounds_toArray, List.set_cons_zero, List.set_cons_succ]
        refine wpAnyH_ready (rs := [17]) (by kernel_rfl) (by simp) ?_
        refine AllReadyH.cons rfl (fun K hK => ?_) AllReadyH.nil
        refine store_at rfl (by rfl) 23 (.tmp 14) (.tmp 64) rfl v1.heap.size (row .u8 32 pt) rfl rfl 23 _ HA.out.1 (by kernel_rfl) ((row_size _ _ _).trans (row_size _ _ _).symm) (row_one _ _ _) ?_
        have hX := setRow_heap _ _ _ (row .u8 32 pt) _ _ HA.out.1
        have hbel : Below wc.heap.size wc (v11.setRow v1.heap.size (row .u8 32 pt)) := below_setRow hHeld HA.out.2.2 _
        have hXs : v1.heap.size < (v11.setRow v1.heap.size (row .u8 32 pt)).heap.size := by simpa using HA.out.2.1
        generalize v11.setRow v1.heap.size (row .u8 32 pt) = v12 at hX hbel hXs ⊢
        have HX := Lib.hid (And.intro hX (And.intro hXs HA.out.2.2))
        refine hK.out _ _ hbel (fun hHeld => ?_)
        clear hK K hbel HA hX hXs
        refine take_at (i := 18) 15 rfl rfl (by kernel_rfl) (by kernel_rfl) (by kernel_rfl) (fun _ _ _ h => h) (sure_yes (by rfl) (fun w => by go_simp; try with_reducible rfl)) hHeld ?_
        simp only [List.setIfInBounds_toArray, List.set_cons_zero, List.set_cons_succ]
        refine wpAnyH_done (by kernel_rfl) ?_ _
        refine HKK.out _ _ ?_
        have hJJ := HJJ.out
        go_meet
        exact ⟨_, rfl, HX.out.1, rfl, (hHeld.block _ hs3).trans H3.out, Nat.lt_of_lt_of_le hs3 hHeld.size, below_next B3.out hHeld⟩
    · refine alloc_at 14 rfl (by rfl) 23 rfl _ zeroDigest ?_
      have hA := heap_last wd (.cells (row .u8 32 fun _ => 0#32) 23 (0, 0))
      have hb := (Below.refl wd.heap.size wd).alloc (Nat.le_refl _) (.cells (row .u8 32 fun _ => 0#32) 23 (0, 0))
      have hAs : wd.heap.size < (wd.alloc (.cells (row .u8 32 fun _ => 0#32) 23 (0, 0))).heap.size := by simp
      have hA0 : wc.heap.size ≤ wd.heap.size := hHeld.size
      generalize wd.alloc (.cells (row .u8 32 fun _ => 0#32) 23 (0, 0)) = v13 at hA hAs hb ⊢
      have HA := Lib.hid (And.intro hA (And.intro hAs hA0))
      clear hA hAs hA0
      refine hK.out _ _ (below_next hHeld hb) (fun hHeld => ?_)
      clear hK K hb
      simp only [List.setIfInBounds_toArray, List.set_cons_zero, List.set_cons_succ]
      refine wpAnyH_ready (rs := [4]) (by kernel_rfl) (by simp) ?_
      refine AllReadyH.cons rfl (fun K hK => ?_) AllReadyH.nil
      go_simp
      have hb := (Below.refl v13.heap.size v13).alloc (Nat.le_refl _) (.cells #[.int .u8 (cn : Int)] 5 (0, 0))
      have hT := text_byte v13 5 c cn HSF.out.2.2.1
      generalize v13.alloc (.cells #[.int .u8 (cn : Int)] 5 (0, 0)) = v14 at hT hb ⊢
      have HT := Lib.hid hT
      clear hT
      replace HA := Lib.hid (And.intro ((hb.block _ HA.out.2.1).trans HA.out.1) (And.intro (Nat.lt_of_lt_of_le HA.out.2.1 hb.size) HA.out.2.2))
      refine hK.out _ _ (below_next hHeld hb) (fun hHeld => ?_)
      clear hK K hb
      refine wpAnyH_ready (rs := [5]) (by kernel_rfl) (by simp) ?_
      refine AllReadyH.cons rfl (fun K hK => ?_) AllReadyH.nil
      refine conv_step 56 rfl (by rfl) 39 9 5 (.tmp 55) _ rfl rfl Tryd.underlying39 Tryd.underlying5 Tryd.underlying9 [c] HT.out ?_
      refine hK.out _ _ hHeld (fun hHeld => ?_)
      clear hK K HT
      simp only [List.setIfInBounds_toArray, List.set_cons_zero, List.set_cons_succ]
      refine take_at (i := 6) 57 rfl rfl (by kernel_rfl) (by kernel_rfl) (by kernel_rfl) (fun _ _ _ h => h) (sure_yes (by rfl) (add_op (l := s.take k) (m := [c]) rfl rfl rfl (by rw [List.length_take]; simp; omega))) hHeld ?_
      simp only [List.setIfInBounds_toArray, List.set_cons_zero, List.set_cons_succ]
      refine take_at (i := 11) (v := .string (str l3)) 62 rfl rfl (by kernel_rfl) (by kernel_rfl) (by kernel_rfl) (fun _ _ _ h => h) (sure_yes (by rfl) (fun w => by rw [HL3.out]; exact add_op rfl rfl rfl (by simp only [List.length_append, List.length_take, List.length_drop, List.length_cons, List.length_nil]; omega) w)) hHeld ?_
      simp only [List.setIfInBounds_toArray, List.set_cons_zero, List.set_cons_succ]
      refine wpAnyH_ready (rs := [12]) (by kernel_rfl) (by simp) ?_
      refine AllReadyH.cons rfl (fun K hK => ?_) AllReadyH.nil
      go_simp
      go_at_call 10
      refine (P3.out _).mono ?_
      rintro e v16 ⟨rfl, hb⟩
      dsimp only
      refine hK.out _ _ (below_next hHeld hb) (fun hHeld => ?_)
      clear hK K
      replace HA := Lib.hid (And.intro ((hb.block _ HA.out.2.1).trans HA.out.1) (And.intro (Nat.lt_of_lt_of_le HA.out.2.1 hb.size) HA.out.2.2))
      clear hb
      refine take_at (i := 13) 50 rfl rfl (by kernel_rfl) (by kernel_rfl) (by kernel_rfl) (fun _ _ _ h => h) (sure_yes (by rfl) (fun w => by go_simp; try with_reducible rfl)) hHeld ?_
      simp only [List.setIfInBounds_toArray, List.set_cons_zero, List.set_cons_succ]
      refine take_at (i := 14) 64 rfl rfl (by kernel_rfl) (by kernel_rfl) (by kernel_rfl) (fun _ _ _ h => h) (sure_yes (by rfl) (fun w => by go_simp; try with_reducible rfl)) hHeld ?_
      simp only [List.setIfInBounds_toArray, List.set_cons_zero, List.set_cons_succ]
      refine take_at (i := 15) 65 rfl rfl (by kernel_rfl) (by kernel_rfl) (by kernel_rfl) (fun _ _ _ h => h) (sure_yes (by rfl) (fun w => by go_simp; try with_reducible rfl)) hHeld ?_
      simp only [List.setIfInBounds_toArray, List.set_cons_zero, List.set_cons_succ]
      refine wpAnyH_ready (rs := [17]) (by kernel_rfl) (by simp) ?_
      refine AllReadyH.cons rfl (fun K hK => ?_) AllReadyH.nil
      refine store_at rfl (by rfl) 23 (.tmp 14) (.tmp 64) rfl wd.heap.size (row .u8 32 pt) rfl rfl 23 _ HA.out.1 (by kernel_rfl) ((row_size _ _ _).trans (row_size _ _ _).symm) (row_one _ _ _) ?_
      have hX := setRow_heap _ _ _ (row .u8 32 pt) _ _ HA.out.1
      have hbel : Below wc.heap.size wc (v16.setRow wd.heap.size (row .u8 32 pt)) := below_setRow hHeld HA.out.2.2 _
      have hXs : wd.heap.size < (v16.setRow wd.heap.size (row .u8 32 pt)).heap.size := by simpa using HA.out.2.1
      generalize v16.setRow wd.heap.size (row .u8 32 pt) = v17 at hX hbel hXs ⊢
      have HX := Lib.hid (And.intro hX (And.intro hXs HA.out.2.2))
      refine hK.out _ _ hbel (fun hHeld => ?_)
      clear hK K hbel HA hX hXs
      refine take_at (i := 18) 15 rfl rfl (by kernel_rfl) (by kernel_rfl) (by kernel_rfl) (fun _ _ _ h => h) (sure_yes (by rfl) (fun w => by go_simp; try with_reducible rfl)) hHeld ?_
      simp only [List.setIfInBounds_toArray, List.set_cons_zero, List.set_cons_succ]
      refine wpAnyH_done (by kernel_rfl) ?_ _
      refine HKK.out _ _ ?_
      have hJJ := HJJ.out
      go_meet
      exact ⟨_, rfl, HX.out.1, rfl, (hHeld.block _ hs3).trans H3.out, Nat.lt_of_lt_of_le hs3 hHeld.size, below_next B3.out hHeld⟩
  case rest =>
  obtain ⟨g8, rfl, x4, rfl, h4, hs4, b4⟩ := hcut
  have X4 := Lib.hid x4
  have H4 := Lib.hid h4
  have B4 := Lib.hid b4
  clear x4 h4 b4 H3 B3 P3
  cases hfine : (fig c).isSome with
  | true =>
    obtain ⟨hs, han, hcn, hk, hk1⟩ := HSF.out
    have hgood : isText l3 = true := by
      rw [HL3.out, hk1, hs]
      exact (turned_isText _ k c hk64 (isText_textF f hf)).trans hfine
    have het : et = 0 := by rw [← HPT.out.2]; exact (parsed_good hgood).2
    obtain ⟨x, hx⟩ : ∃ x, s[k]? = some x := ⟨s[k], List.getElem?_eq_getElem (by omega)⟩
    obtain ⟨b, hb⟩ : ∃ b, (x == c) = b := ⟨_, rfl⟩
    have hsame : sameRow 32 pt f = b := by
      rw [← HPT.out.1, (parsed_good hgood).1, HL3.out, hk1, hs, ← hb]
      exact turned_same f hf k c hk64 hfine x (hs ▸ hx)
    have i1 := fun w => index_str (P := Tryd.prog) w s .i64 k x hx Tryd.underlying9
    obtain ⟨xn, hxn⟩ : ∃ xn, x.toNat = xn := ⟨_, rfl⟩
    rw [hxn] at i1
    have hbx : ((xn : Int) == (cn : Int)) = b := by
      rw [← hb, ← hxn, ← hcn, Bool.eq_iff_iff, beq_iff_eq, beq_iff_eq]
      exact ⟨fun h => UInt8.toNat_inj.1 (by omega), fun h => by rw [h]⟩
    have HB2 := Lib.hid hsame
    subst het
    clear hs han hcn hk hk1 hgood hx hb hsame hxn
    rcases (show 48 ≤ cn ∧ cn ≤ 57 ∨ 97 ≤ cn ∧ cn ≤ 102 from by
        rw [fine_fig, HSF.out.2.2.1] at hfine; simp only [Bool.or_eq_true, Bool.and_eq_true, decide_eq_true_eq] at hfine; omega) with h | h
    · have d1 : decide ((48 : Int) ≤ (cn : Int)) = true := decide_eq_true (by omega)
      have d2 : decide ((cn : Int) ≤ 57) = true := decide_eq_true (by omega)
      have d3 : decide ((97 : Int) ≤ (cn : Int)) = false := decide_eq_false (by omega)
      have d4 : decide ((cn : Int) ≤ 102) = true := decide_eq_true (by omega)
      clear h
      go_upto_region 10 with fail
      refine wp_region_held_drew (S := fun w' => w'.rangeAt g8 0 (rowL .u8 32 pt) ∧ w'.rangeAt w.heap.size 0 (rowL .u8 32 f)) (by kernel_rfl) ⟨range_of_row X4.out, range_of_row H4.out⟩ (fun hHeld => ?_)
      refine take_at (i := 0) (v := .bool true) 80 rfl rfl (by kernel_rfl) (by kernel_rfl) (by kernel_rfl) (fun _ _ _ h => h) (sure_yes (by rfl) (fun w => by go_simp; try with_reducible rfl)) (by assumption) ?_
      simp only [List.setIfInBounds_toArray, List.set_cons_zero, List.set_cons_succ]
      refine take_at (i := 1) (v := .bool true) 81 rfl rfl (by kernel_rfl) (by kernel_rfl) (by kernel_rfl) (fun _ _ _ h => h) (sure_yes (by rfl) (fun w => by go_simp; try with_reducible rfl)) (by assumption) ?_
      simp only [List.setIfInBounds_toArray, List.set_cons_zero, List.set_cons_succ]
      refine take_at (i := 2) 82 rfl rfl (by kernel_rfl) (by kernel_rfl) (by kernel_rfl) (fun _ _ _ h => h) (sure_yes (by rfl) (fun w => by go_simp; try with_reducible rfl)) (by assumption) ?_
      simp only [List.setIfInBounds_toArray, List.set_cons_zero, List.set_cons_succ]
      refine take_at (i := 3) (v := .bool true) 83 rfl rfl (by kernel_rfl) (by kernel_rfl) (by kernel_rfl) (fun _ _ _ h => h) (sure_yes (by rfl) (fun w => by go_simp; try with_reducible rfl)) (by assumption) ?_
      simp only [List.setIfInBounds_toArray, List.set_cons_zero, List.set_cons_succ]
      refine take_at (i := 4) (v := .bool true) 84 rfl rfl (by kernel_rfl) (by kernel_rfl) (by kernel_rfl) (fun _ _ _ h => h) (sure_yes (by rfl) (fun w => by go_simp; try with_reducible rfl)) (by assumption) ?_
      simp only [List.setIfInBounds_toArray, List.set_cons_zero, List.set_cons_succ]
      refine take_at (i := 5) (v := .bool true) 85 rfl rfl (by kernel_rfl) (by kernel_rfl) (by kernel_rfl) (fun _ _ _ h => h) (sure_yes (by rfl) (fun w => by go_simp; try with_reducible rfl)) (by assumption) ?_
      simp only [List.setIfInBounds_toArray, List.set_cons_zero, List.set_cons_succ]
      refine take_at (i := 6) 86 rfl rfl (by kernel_rfl) (by kernel_rfl) (by kernel_rfl) (fun _ _ _ h => h) (sure_yes (by rfl) (fun w => by go_simp; try with_reducible rfl)) (by assumption) ?_
      simp only [List.setIfInBounds_toArray, List.set_cons_zero, List.set_cons_succ]
      refine take_at (i := 7) (v := .bool true) 87 rfl rfl (by kernel_rfl) (by kernel_rfl) (by kernel_rfl) (fun _ _ _ h => h) (sure_yes (by rfl) (fun w => by go_simp; try with_reducible rfl)) (by assumption) ?_
      simp only [List.setIfInBounds_toArray, List.set_cons_zero, List.set_cons_succ]
      refine take_at (i := 8) (v := .bool true) 88 rfl rfl (by kernel_rfl) (by kernel_rfl) (by kernel_rfl) (fun _ _ _ h => h) (sure_yes (by rfl) (fun w => by go_simp; try with_reducible rfl)) (by assumption) ?_
      simp only [List.setIfInBounds_toArray, List.set_cons_zero, List.set_cons_succ]
      refine take_at (i := 9) (v := .bool true) 89 rfl rfl (by kernel_rfl) (by kernel_rfl) (by kernel_rfl) (fun _ _ _ h => h) (sure_yes (by rfl) (fun w => by go_simp; try with_reducible rfl)) (by assumption) ?_
      simp only [List.setIfInBounds_toArray, List.set_cons_zero, List.set_cons_succ]
      refine take_at (i := 10) 90 rfl rfl (by kernel_rfl) (by kernel_rfl) (by kernel_rfl) (fun _ _ _ h => h) (sure_yes (by rfl) (fun w => by go_simp; try with_reducible rfl)) (by assumption) ?_
      simp only [List.setIfInBounds_toArray, List.set_cons_zero, List.set_cons_succ]
      refine take_at (i := 11) (v := .bool true) 91 rfl rfl (by kernel_rfl) (by kernel_rfl) (by kernel_rfl) (fun _ _ _ h => h) (sure_yes (by rfl) (fun w => by go_simp; try with_reducible rfl)) (by assumption) ?_
      simp only [List.setIfInBounds_toArray, List.set_cons_zero, List.set_cons_succ]
      refine take_at (i := 12) (v := .bool true) 92 rfl rfl (by kernel_rfl) (by kernel_rfl) (by kernel_rfl) (fun _ _ _ h => h) (sure_yes (by rfl) (fun w => by go_simp; try with_reducible rfl)) (by assumption) ?_
      simp only [List.setIfInBounds_toArray, List.set_cons_zero, List.set_cons_succ]
      refine take_at (i := 13) (v := .bool true) 93 rfl rfl (by kernel_rfl) (by kernel_rfl) (by kernel_rfl) (fun _ _ _ h => h) (sure_yes (by rfl) (fun w => by go_simp; try with_reducible rfl)) (by assumption) ?_
      simp only [List.setIfInBounds_toArray, List.set_cons_zero, List.set_cons_succ]
      refine take_at (i := 14) (v := .bool true) 94 rfl rfl (by kernel_rfl) (by kernel_rfl) (by kernel_rfl) (fun _ _ _ h => h) (sure_yes (by rfl) (fun w => by go_simp; try with_reducible rfl)) (by assumption) ?_
      simp only [List.setIfInBounds_toArray, List.set_cons_zero, List.set_cons_succ]
      refine take_at (i := 15) (v := .bool true) 95 rfl rfl (by kernel_rfl) (by kernel_rfl) (by kernel_rfl) (fun _ _ _ h => h) (sure_yes (by rfl) (fun w => by go_simp; try with_reducible rfl)) (by assumption) ?_
      simp only [List.setIfInBounds_toArray, List.set_cons_zero, List.set_cons_succ]
      refine take_at (i := 16) (v := .bool true) 96 rfl rfl (by kernel_rfl) (by kernel_rfl) (by kernel_rfl) (fun _ _ _ h => h) (sure_yes (by rfl) (fun w => by go_simp; try with_reducible rfl)) (by assumption) ?_
      simp only [List.setIfInBounds_toArray, List.set_cons_zero, List.set_cons_succ]
      refine take_at (i := 17) (v := .bool false) 97 rfl rfl (by kernel_rfl) (by kernel_rfl) (by kernel_rfl) (fun _ _ _ h => h) (sure_yes (by rfl) (fun w => by go_simp; try with_reducible rfl)) (by assumption) ?_
      simp only [List.setIfInBounds_toArray, List.set_cons_zero, List.set_cons_succ]
      refine take_at (i := 18) (v := .bool false) 98 rfl rfl (by kernel_rfl) (by kernel_rfl) (by kernel_rfl) (fun _ _ _ h => h) (sure_yes (by rfl) (fun w => by go_simp; try with_reducible rfl)) (by assumption) ?_
      simp only [List.setIfInBounds_toArray, List.set_cons_zero, List.set_cons_succ]
      refine take_at (i := 22) 102 rfl rfl (by kernel_rfl) (by kernel_rfl) (by kernel_rfl) (fun _ _ _ h => h) (sure_yes (by rfl) (fun w => by go_simp; try with_reducible rfl)) (by assumption) ?_
      simp only [List.setIfInBounds_toArray, List.set_cons_zero, List.set_cons_succ]
      refine take_at (i := 23) 103 rfl rfl (by kernel_rfl) (by kernel_rfl) (by kernel_rfl) (fun _ _ _ h => h) (sure_yes (by rfl) (fun w => by go_simp; try with_reducible rfl)) (by assumption) ?_
      simp only [List.setIfInBounds_toArray, List.set_cons_zero, List.set_cons_succ]
      refine take_at (i := 24) 104 rfl rfl (by kernel_rfl) (by kernel_rfl) (by kernel_rfl) (fun _ _ _ h => h) (sure_yes (by rfl) (fun w => by go_simp; try with_reducible rfl)) (by assumption) ?_
      simp only [List.setIfInBounds_toArray, List.set_cons_zero, List.set_cons_succ]
      refine take_at (i := 25) 105 rfl rfl (by kernel_rfl) (by kernel_rfl) (by kernel_rfl) (fun _ _ _ h => h) (sure_yes (by rfl) (fun w => by go_simp; try with_reducible rfl)) (by assumption) ?_
      simp only [List.setIfInBounds_toArray, List.set_cons_zero, List.set_cons_succ]
      refine take_at (i := 26) (v := .bool b) 106 rfl rfl (by kernel_rfl) (by kernel_rfl) (by kernel_rfl) (fun _ _ _ h => h) (sure_yes (by rfl) (fun w => by go_simp; try with_reducible rfl)) (by assumption) ?_
      simp only [List.setIfInBounds_toArray, List.set_cons_zero, List.set_cons_succ]
      refine take_at (i := 19) 99 rfl rfl (by kernel_rfl) (by kernel_rfl) (by kernel_rfl) (fun _ _ _ h => h) (yieldsIf_load_mid (by rfl) 23 (.tmp 14) rfl g8 0 rfl (rowL .u8 32 pt) _ (fun _ h => h.1) Tryd.underlying23 rfl info32) (by assumption) ?_
      simp only [List.setIfInBounds_toArray, List.set_cons_zero, List.set_cons_succ]
      refine take_at (i := 20) 100 rfl rfl (by kernel_rfl) (by kernel_rfl) (by kernel_rfl) (fun _ _ _ h => h) (yieldsIf_load_mid (by rfl) 23 (.tmp 3) rfl w.heap.size 0 rfl (rowL .u8 32 f) _ (fun _ h => h.2) Tryd.underlying23 rfl info32) (by assumption) ?_
      simp only [List.setIfInBounds_toArray, List.set_cons_zero, List.set_cons_succ]
      refine take_at (i := 21) (v := .bool b) 101 rfl rfl (by kernel_rfl) (by kernel_rfl) (by kernel_rfl) (fun _ _ _ h => h) (sure_yes (by rfl) (eql_op rfl rfl rfl (guardRows digestGuard (.tmp 99) (.tmp 100) .u8 32 pt f) (eqlRows Tryd.underlying23 Tryd.underlying5 cellsByte pt f HB2.out))) (by assumption) ?_
      simp only [List.setIfInBounds_toArray, List.set_cons_zero, List.set_cons_succ]
      refine take_at (i := 27) (v := .bool true) 107 rfl rfl (by kernel_rfl) (by kernel_rfl) (by kernel_rfl) (fun _ _ _ h => h) (sure_yes (by rfl) (fun w => by go_simp; try with_reducible rfl)) (by assumption) ?_
      simp only [List.setIfInBounds_toArray, List.set_cons_zero, List.set_cons_succ]
      refine take_at (i := 28) (v := .bool true) 108 rfl rfl (by kernel_rfl) (by kernel_rfl) (by kernel_rfl) (fun _ _ _ h => h) (sure_yes (by rfl) (fun w => by go_simp; try with_reducible rfl)) (by assumption) ?_
      simp only [List.setIfInBounds_toArray, List.set_cons_zero, List.set_cons_succ]
      refine take_at (i := 29) (v := .bool true) 109 rfl rfl (by kernel_rfl) (by kernel_rfl) (by kernel_rfl) (fun _ _ _ h => h) (sure_yes (by rfl) (fun w => by go_simp; try with_reducible rfl)) (by assumption) ?_
      simp only [List.setIfInBounds_toArray, List.set_cons_zero, List.set_cons_succ]
      refine take_at (i := 30) (v := .bool true) 6 rfl rfl (by kernel_rfl) (by kernel_rfl) (by kernel_rfl) (fun _ _ _ h => h) (sure_yes (by rfl) (fun w => by go_simp; try with_reducible rfl)) (by assumption) ?_
      simp only [List.setIfInBounds_toArray, List.set_cons_zero, List.set_cons_succ]
      refine wpAnyH_done (by kernel_rfl) ?_ _
      go_wp2
      go_ret
      exact ⟨rfl, below_draws B4.out 1⟩
    · have d1 : decide ((48 : Int) ≤ (cn : Int)) = true := decide_eq_true (by omega)
      have d2 : decide ((cn : Int) ≤ 57) = false := decide_eq_false (by omega)
      have d3 : decide ((97 : Int) ≤ (cn : Int)) = true := decide_eq_true (by omega)
      have d4 : decide ((cn : Int) ≤ 102) = true := decide_eq_true (by omega)
      clear h
      go_upto_region 10 with fail
      refine wp_region_held_drew (S := fun w' => w'.rangeAt g8 0 (rowL .u8 32 pt) ∧ w'.rangeAt w.heap.size 0 (rowL .u8 32 f)) (by kernel_rfl) ⟨range_of_row X4.out, range_of_row H4.out⟩ (fun hHeld => ?_)
      refine take_at (i := 0) (v := .bool true) 80 rfl rfl (by kernel_rfl) (by kernel_rfl) (by kernel_rfl) (fun _ _ _ h => h) (sure_yes (by rfl) (fun w => by go_simp; try with_reducible rfl)) (by assumption) ?_
      simp only [List.setIfInBounds_toArray, List.set_cons_zero, List.set_cons_succ]
      refine take_at (i := 1) (v := .bool true) 81 rfl rfl (by kernel_rfl) (by kernel_rfl) (by kernel_rfl) (fun _ _ _ h => h) (sure_yes (by rfl) (fun w => by go_simp; try with_reducible rfl)) (by assumption) ?_
      simp only [List.setIfInBounds_toArray, List.set_cons_zero, List.set_cons_succ]
      refine take_at (i := 2) 82 rfl rfl (by kernel_rfl) (by kernel_rfl) (by kernel_rfl) (fun _ _ _ h => h) (sure_yes (by rfl) (fun w => by go_simp; try with_reducible rfl)) (by assumption) ?_
      simp only [List.setIfInBounds_toArray, List.set_cons_zero, List.set_cons_succ]
      refine take_at (i := 3) (v := .bool true) 83 rfl rfl (by kernel_rfl) (by kernel_rfl) (by kernel_rfl) (fun _ _ _ h => h) (sure_yes (by rfl) (fun w => by go_simp; try with_reducible rfl)) (by assumption) ?_
      simp only [List.setIfInBounds_toArray, List.set_cons_zero, List.set_cons_succ]
      refine take_at (i := 4) (v := .bool true) 84 rfl rfl (by kernel_rfl) (by kernel_rfl) (by kernel_rfl) (fun _ _ _ h => h) (sure_yes (by rfl) (fun w => by go_simp; try with_reducible rfl)) (by assumption) ?_
      simp only [List.setIfInBounds_toArray, List.set_cons_zero, List.set_cons_succ]
      refine take_at (i := 5) (v := .bool true) 85 rfl rfl (by kernel_rfl) (by kernel_rfl) (by kernel_rfl) (fun _ _ _ h => h) (sure_yes (by rfl) (fun w => by go_simp; try with_reducible rfl)) (by assumption) ?_
      simp only [List.setIfInBounds_toArray, List.set_cons_zero, List.set_cons_succ]
      refine take_at (i := 6) 86 rfl rfl (by kernel_rfl) (by kernel_rfl) (by kernel_rfl) (fun _ _ _ h => h) (sure_yes (by rfl) (fun w => by go_simp; try with_reducible rfl)) (by assumption) ?_
      simp only [List.setIfInBounds_toArray, List.set_cons_zero, List.set_cons_succ]
      refine take_at (i := 7) (v := .bool true) 87 rfl rfl (by kernel_rfl) (by kernel_rfl) (by kernel_rfl) (fun _ _ _ h => h) (sure_yes (by rfl) (fun w => by go_simp; try with_reducible rfl)) (by assumption) ?_
      simp only [List.setIfInBounds_toArray, List.set_cons_zero, List.set_cons_succ]
      refine take_at (i := 8) (v := .bool true) 88 rfl rfl (by kernel_rfl) (by kernel_rfl) (by kernel_rfl) (fun _ _ _ h => h) (sure_yes (by rfl) (fun w => by go_simp; try with_reducible rfl)) (by assumption) ?_
      simp only [List.setIfInBounds_toArray, List.set_cons_zero, List.set_cons_succ]
      refine take_at (i := 9) (v := .bool true) 89 rfl rfl (by kernel_rfl) (by kernel_rfl) (by kernel_rfl) (fun _ _ _ h => h) (sure_yes (by rfl) (fun w => by go_simp; try with_reducible rfl)) (by assumption) ?_
      simp only [List.setIfInBounds_toArray, List.set_cons_zero, List.set_cons_succ]
      refine take_at (i := 10) 90 rfl rfl (by kernel_rfl) (by kernel_rfl) (by kernel_rfl) (fun _ _ _ h => h) (sure_yes (by rfl) (fun w => by go_simp; try with_reducible rfl)) (by assumption) ?_
      simp only [List.setIfInBounds_toArray, List.set_cons_zero, List.set_cons_succ]
      refine take_at (i := 11) (v := .bool true) 91 rfl rfl (by kernel_rfl) (by kernel_rfl) (by kernel_rfl) (fun _ _ _ h => h) (sure_yes (by rfl) (fun w => by go_simp; try with_reducible rfl)) (by assumption) ?_
      simp only [List.setIfInBounds_toArray, List.set_cons_zero, List.set_cons_succ]
      refine take_at (i := 12) (v := .bool true) 92 rfl rfl (by kernel_rfl) (by kernel_rfl) (by kernel_rfl) (fun _ _ _ h => h) (sure_yes (by rfl) (fun w => by go_simp; try with_reducible rfl)) (by assumption) ?_
      simp only [List.setIfInBounds_toArray, List.set_cons_zero, List.set_cons_succ]
      refine take_at (i := 13) (v := .bool true) 93 rfl rfl (by kernel_rfl) (by kernel_rfl) (by kernel_rfl) (fun _ _ _ h => h) (sure_yes (by rfl) (fun w => by go_simp; try with_reducible rfl)) (by assumption) ?_
      simp only [List.setIfInBounds_toArray, List.set_cons_zero, List.set_cons_succ]
      refine take_at (i := 14) (v := .bool true) 94 rfl rfl (by kernel_rfl) (by kernel_rfl) (by kernel_rfl) (fun _ _ _ h => h) (sure_yes (by rfl) (fun w => by go_simp; try with_reducible rfl)) (by assumption) ?_
      simp only [List.setIfInBounds_toArray, List.set_cons_zero, List.set_cons_succ]
      refine take_at (i := 15) (v := .bool true) 95 rfl rfl (by kernel_rfl) (by kernel_rfl) (by kernel_rfl) (fun _ _ _ h => h) (sure_yes (by rfl) (fun w => by go_simp; try with_reducible rfl)) (by assumption) ?_
      simp only [List.setIfInBounds_toArray, List.set_cons_zero, List.set_cons_succ]
      refine take_at (i := 16) (v := .bool true) 96 rfl rfl (by kernel_rfl) (by kernel_rfl) (by kernel_rfl) (fun _ _ _ h => h) (sure_yes (by rfl) (fun w => by go_simp; try with_reducible rfl)) (by assumption) ?_
      simp only [List.setIfInBounds_toArray, List.set_cons_zero, List.set_cons_succ]
      refine take_at (i := 17) (v := .bool false) 97 rfl rfl (by kernel_rfl) (by kernel_rfl) (by kernel_rfl) (fun _ _ _ h => h) (sure_yes (by rfl) (fun w => by go_simp; try with_reducible rfl)) (by assumption) ?_
      simp only [List.setIfInBounds_toArray, List.set_cons_zero, List.set_cons_succ]
      refine take_at (i := 18) (v := .bool false) 98 rfl rfl (by kernel_rfl) (by kernel_rfl) (by kernel_rfl) (fun _ _ _ h => h) (sure_yes (by rfl) (fun w => by go_simp; try with_reducible rfl)) (by assumption) ?_
      simp only [List.setIfInBounds_toArray, List.set_cons_zero, List.set_cons_succ]
      refine take_at (i := 22) 102 rfl rfl (by kernel_rfl) (by kernel_rfl) (by kernel_rfl) (fun _ _ _ h => h) (sure_yes (by rfl) (fun w => by go_simp; try with_reducible rfl)) (by assumption) ?_
      simp only [List.setIfInBounds_toArray, List.set_cons_zero, List.set_cons_succ]
      refine take_at (i := 23) 103 rfl rfl (by kernel_rfl) (by kernel_rfl) (by kernel_rfl) (fun _ _ _ h => h) (sure_yes (by rfl) (fun w => by go_simp; try with_reducible rfl)) (by assumption) ?_
      simp only [List.setIfInBounds_toArray, List.set_cons_zero, List.set_cons_succ]
      refine take_at (i := 24) 104 rfl rfl (by kernel_rfl) (by kernel_rfl) (by kernel_rfl) (fun _ _ _ h => h) (sure_yes (by rfl) (fun w => by go_simp; try with_reducible rfl)) (by assumption) ?_
      simp only [List.setIfInBounds_toArray, List.set_cons_zero, List.set_cons_succ]
      refine take_at (i := 25) 105 rfl rfl (by kernel_rfl) (by kernel_rfl) (by kernel_rfl) (fun _ _ _ h => h) (sure_yes (by rfl) (fun w => by go_simp; try with_reducible rfl)) (by assumption) ?_
      simp only [List.setIfInBounds_toArray, List.set_cons_zero, List.set_cons_succ]
      refine take_at (i := 26) (v := .bool b) 106 rfl rfl (by kernel_rfl) (by kernel_rfl) (by kernel_rfl) (fun _ _ _ h => h) (sure_yes (by rfl) (fun w => by go_simp; try with_reducible rfl)) (by assumption) ?_
      simp only [List.setIfInBounds_toArray, List.set_cons_zero, List.set_cons_succ]
      refine take_at (i := 19) 99 rfl rfl (by kernel_rfl) (by kernel_rfl) (by kernel_rfl) (fun _ _ _ h => h) (yieldsIf_load_mid (by rfl) 23 (.tmp 14) rfl g8 0 rfl (rowL .u8 32 pt) _ (fun _ h => h.1) Tryd.underlying23 rfl info32) (by assumption) ?_
      simp only [List.setIfInBounds_toArray, List.set_cons_zero, List.set_cons_succ]
      refine take_at (i := 20) 100 rfl rfl (by kernel_rfl) (by kernel_rfl) (by kernel_rfl) (fun _ _ _ h => h) (yieldsIf_load_mid (by rfl) 23 (.tmp 3) rfl w.heap.size 0 rfl (rowL .u8 32 f) _ (fun _ h => h.2) Tryd.underlying23 rfl info32) (by assumption) ?_
      simp only [List.setIfInBounds_toArray, List.set_cons_zero, List.set_cons_succ]
      refine take_at (i := 21) (v := .bool b) 101 rfl rfl (by kernel_rfl) (by kernel_rfl) (by kernel_rfl) (fun _ _ _ h => h) (sure_yes (by rfl) (eql_op rfl rfl rfl (guardRows digestGuard (.tmp 99) (.tmp 100) .u8 32 pt f) (eqlRows Tryd.underlying23 Tryd.underlying5 cellsByte pt f HB2.out))) (by assumption) ?_
      simp only [List.setIfInBounds_toArray, List.set_cons_zero, List.set_cons_succ]
      refine take_at (i := 27) (v := .bool true) 107 rfl rfl (by kernel_rfl) (by kernel_rfl) (by kernel_rfl) (fun _ _ _ h => h) (sure_yes (by rfl) (fun w => by go_simp; try with_reducible rfl)) (by assumption) ?_
      simp only [List.setIfInBounds_toArray, List.set_cons_zero, List.set_cons_succ]
      refine take_at (i := 28) (v := .bool true) 108 rfl rfl (by kernel_rfl) (by kernel_rfl) (by kernel_rfl) (fun _ _ _ h => h) (sure_yes (by rfl) (fun w => by go_simp; try with_reducible rfl)) (by assumption) ?_
      simp only [List.setIfInBounds_toArray, List.set_cons_zero, List.set_cons_succ]
      refine take_at (i := 29) (v := .bool true) 109 rfl rfl (by kernel_rfl) (by kernel_rfl) (by kernel_rfl) (fun _ _ _ h => h) (sure_yes (by rfl) (fun w => by go_simp; try with_reducible rfl)) (by assumption) ?_
      simp only [List.setIfInBounds_toArray, List.set_cons_zero, List.set_cons_succ]
      refine take_at (i := 30) (v := .bool true) 6 rfl rfl (by kernel_rfl) (by kernel_rfl) (by kernel_rfl) (fun _ _ _ h => h) (sure_yes (by rfl) (fun w => by go_simp; try with_reducible rfl)) (by assumption) ?_
      simp only [List.setIfInBounds_toArray, List.set_cons_zero, List.set_cons_succ]
      refine wpAnyH_done (by kernel_rfl) ?_ _
      go_wp2
      go_ret
      exact ⟨rfl, below_draws B4.out 1⟩

  | false =>
    obtain ⟨hs, han, hcn, hk, hk1⟩ := HSF.out
    have hbad : isText l3 = false := by
      rw [HL3.out, hk1, hs]
      exact (turned_isText _ k c hk64 (isText_textF f hf)).trans hfine
    have het : et = 2 := by rw [← HPT.out.2]; exact (parsed_bad hbad).2
    subst het
    clear hs han hcn hk hk1 hbad
    rcases (show cn < 48 ∨ 57 < cn ∧ cn < 97 ∨ 102 < cn from by
        rw [fine_fig, HSF.out.2.2.1] at hfine; simp only [Bool.or_eq_false_iff, Bool.and_eq_false_iff, decide_eq_false_iff_not] at hfine; omega) with h | h | h
    · have d1 : decide ((48 : Int) ≤ (cn : Int)) = false := decide_eq_false (by omega)
      have d2 : decide ((cn : Int) ≤ 57) = true := decide_eq_true (by omega)
      have d3 : decide ((97 : Int) ≤ (cn : Int)) = false := decide_eq_false (by omega)
      have d4 : decide ((cn : Int) ≤ 102) = true := decide_eq_true (by omega)
      clear h
      go_upto_region 10 with fail
      refine wp_region_held_drew (S := fun w' => w'.rangeAt g8 0 (rowL .u8 32 pt) ∧ w'.rangeAt w.heap.size 0 (rowL .u8 32 f)) (by kernel_rfl) ⟨range_of_row X4.out, range_of_row H4.out⟩ (fun hHeld => ?_)
      refine take_at (i := 0) (v := .bool true) 80 rfl rfl (by kernel_rfl) (by kernel_rfl) (by kernel_rfl) (fun _ _ _ h => h) (sure_yes (by rfl) (fun w => by go_simp; try with_reducible rfl)) (by assumption) ?_
      simp only [List.setIfInBounds_toArray, List.set_cons_zero, List.set_cons_succ]
      refine take_at (i := 1) (v := .bool true) 81 rfl rfl (by kernel_rfl) (by kernel_rfl) (by kernel_rfl) (fun _ _ _ h => h) (sure_yes (by rfl) (fun w => by go_simp; try with_reducible rfl)) (by assumption) ?_
      simp only [List.setIfInBounds_toArray, List.set_cons_zero, List.set_cons_succ]
      refine take_at (i := 2) 82 rfl rfl (by kernel_rfl) (by kernel_rfl) (by kernel_rfl) (fun _ _ _ h => h) (sure_yes (by rfl) (fun w => by go_simp; try with_reducible rfl)) (by assumption) ?_
      simp only [List.setIfInBounds_toArray, List.set_cons_zero, List.set_cons_succ]
      refine take_at (i := 3) (v := .bool true) 83 rfl rfl (by kernel_rfl) (by kernel_rfl) (by kernel_rfl) (fun _ _ _ h => h) (sure_yes (by rfl) (fun w => by go_simp; try with_reducible rfl)) (by assumption) ?_
      simp only [List.setIfInBounds_toArray, List.set_cons_zero, List.set_cons_succ]
      refine take_at (i := 4) (v := .bool true) 84 rfl rfl (by kernel_rfl) (by kernel_rfl) (by kernel_rfl) (fun _ _ _ h => h) (sure_yes (by rfl) (fun w => by go_simp; try with_reducible rfl)) (by assumption) ?_
      simp only [List.setIfInBounds_toArray, List.set_cons_zero, List.set_cons_succ]
      refine take_at (i := 5) (v := .bool true) 85 rfl rfl (by kernel_rfl) (by kernel_rfl) (by kernel_rfl) (fun _ _ _ h => h) (sure_yes (by rfl) (fun w => by go_simp; try with_reducible rfl)) (by assumption) ?_
      simp only [List.setIfInBounds_toArray, List.set_cons_zero, List.set_cons_succ]
      refine take_at (i := 6) 86 rfl rfl (by kernel_rfl) (by kernel_rfl) (by kernel_rfl) (fun _ _ _ h => h) (sure_yes (by rfl) (fun w => by go_simp; try with_reducible rfl)) (by assumption) ?_
      simp only [List.setIfInBounds_toArray, List.set_cons_zero, List.set_cons_succ]
      refine take_at (i := 7) (v := .bool true) 87 rfl rfl (by kernel_rfl) (by kernel_rfl) (by kernel_rfl) (fun _ _ _ h => h) (sure_yes (by rfl) (fun w => by go_simp; try with_reducible rfl)) (by assumption) ?_
      simp only [List.setIfInBounds_toArray, List.set_cons_zero, List.set_cons_succ]
      refine take_at (i := 8) (v := .bool true) 88 rfl rfl (by kernel_rfl) (by kernel_rfl) (by kernel_rfl) (fun _ _ _ h => h) (sure_yes (by rfl) (fun w => by go_simp; try with_reducible rfl)) (by assumption) ?_
      simp only [List.setIfInBounds_toArray, List.set_cons_zero, List.set_cons_succ]
      refine take_at (i := 9) (v := .bool true) 89 rfl rfl (by kernel_rfl) (by kernel_rfl) (by kernel_rfl) (fun _ _ _ h => h) (sure_yes (by rfl) (fun w => by go_simp; try with_reducible rfl)) (by assumption) ?_
      simp only [List.setIfInBounds_toArray, List.set_cons_zero, List.set_cons_succ]
      refine take_at (i := 10) 90 rfl rfl (by kernel_rfl) (by kernel_rfl) (by kernel_rfl) (fun _ _ _ h => h) (sure_yes (by rfl) (fun w => by go_simp; try with_reducible rfl)) (by assumption) ?_
      simp only [List.setIfInBounds_toArray, List.set_cons_zero, List.set_cons_succ]
      refine take_at (i := 11) (v := .bool false) 91 rfl rfl (by kernel_rfl) (by kernel_rfl) (by kernel_rfl) (fun _ _ _ h => h) (sure_yes (by rfl) (fun w => by go_simp; try with_reducible rfl)) (by assumption) ?_
      simp only [List.setIfInBounds_toArray, List.set_cons_zero, List.set_cons_succ]
      refine take_at (i := 12) (v := .bool false) 92 rfl rfl (by kernel_rfl) (by kernel_rfl) (by kernel_rfl) (fun _ _ _ h => h) (sure_yes (by rfl) (fun w => by go_simp; try with_reducible rfl)) (by assumption) ?_
      simp only [List.setIfInBounds_toArray, List.set_cons_zero, List.set_cons_succ]
      refine take_at (i := 13) (v := .bool true) 93 rfl rfl (by kernel_rfl) (by kernel_rfl) (by kernel_rfl) (fun _ _ _ h => h) (sure_yes (by rfl) (fun w => by go_simp; try with_reducible rfl)) (by assumption) ?_
      simp only [List.setIfInBounds_toArray, List.set_cons_zero, List.set_cons_succ]
      refine take_at (i := 14) (v := .bool true) 94 rfl rfl (by kernel_rfl) (by kernel_rfl) (by kernel_rfl) (fun _ _ _ h => h) (sure_yes (by rfl) (fun w => by go_simp; try with_reducible rfl)) (by assumption) ?_
      simp only [List.setIfInBounds_toArray, List.set_cons_zero, List.set_cons_succ]
      refine take_at (i := 15) (v := .bool true) 95 rfl rfl (by kernel_rfl) (by kernel_rfl) (by kernel_rfl) (fun _ _ _ h => h) (sure_yes (by rfl) (fun w => by go_simp; try with_reducible rfl)) (by assumption) ?_
      simp only [List.setIfInBounds_toArray, List.set_cons_zero, List.set_cons_succ]
      refine take_at (i := 16) (v := .bool false) 96 rfl rfl (by kernel_rfl) (by kernel_rfl) (by kernel_rfl) (fun _ _ _ h => h) (sure_yes (by rfl) (fun w => by go_simp; try with_reducible rfl)) (by assumption) ?_
      simp only [List.setIfInBounds_toArray, List.set_cons_zero, List.set_cons_succ]
      refine take_at (i := 17) (v := .bool true) 97 rfl rfl (by kernel_rfl) (by kernel_rfl) (by kernel_rfl) (fun _ _ _ h => h) (sure_yes (by rfl) (fun w => by go_simp; try with_reducible rfl)) (by assumption) ?_
      simp only [List.setIfInBounds_toArray, List.set_cons_zero, List.set_cons_succ]
      refine take_at (i := 18) (v := .bool true) 98 rfl rfl (by kernel_rfl) (by kernel_rfl) (by kernel_rfl) (fun _ _ _ h => h) (sure_yes (by rfl) (fun w => by go_simp; try with_reducible rfl)) (by assumption) ?_
      simp only [List.setIfInBounds_toArray, List.set_cons_zero, List.set_cons_succ]
      refine take_at (i := 19) 99 rfl rfl (by kernel_rfl) (by kernel_rfl) (by kernel_rfl) (fun _ _ _ h => h) (.inr ⟨by rfl, rfl⟩) (by assumption) ?_
      simp only [List.setIfInBounds_toArray, List.set_cons_zero, List.set_cons_succ]
      refine take_at (i := 20) 100 rfl rfl (by kernel_rfl) (by kernel_rfl) (by kernel_rfl) (fun _ _ _ h => h) (.inr ⟨by rfl, rfl⟩) (by assumption) ?_
      simp only [List.setIfInBounds_toArray, List.set_cons_zero, List.set_cons_succ]
      refine take_at (i := 21) 101 rfl rfl (by kernel_rfl) (by kernel_rfl) (by kernel_rfl) (fun _ _ _ h => h) (.inr ⟨by rfl, rfl⟩) (by assumption) ?_
      simp only [List.setIfInBounds_toArray, List.set_cons_zero, List.set_cons_succ]
      refine take_at (i := 22) 102 rfl rfl (by kernel_rfl) (by kernel_rfl) (by kernel_rfl) (fun _ _ _ h => h) (.inr ⟨by rfl, rfl⟩) (by assumption) ?_
      simp only [List.setIfInBounds_toArray, List.set_cons_zero, List.set_cons_succ]
      refine take_at (i := 23) 103 rfl rfl (by kernel_rfl) (by kernel_rfl) (by kernel_rfl) (fun _ _ _ h => h) (.inr ⟨by rfl, rfl⟩) (by assumption) ?_
      simp only [List.setIfInBounds_toArray, List.set_cons_zero, List.set_cons_succ]
      refine take_at (i := 24) 104 rfl rfl (by kernel_rfl) (by kernel_rfl) (by kernel_rfl) (fun _ _ _ h => h) (.inr ⟨by rfl, rfl⟩) (by assumption) ?_
      simp only [List.setIfInBounds_toArray, List.set_cons_zero, List.set_cons_succ]
      refine take_at (i := 25) 105 rfl rfl (by kernel_rfl) (by kernel_rfl) (by kernel_rfl) (fun _ _ _ h => h) (.inr ⟨by rfl, rfl⟩) (by assumption) ?_
      simp only [List.setIfInBounds_toArray, List.set_cons_zero, List.set_cons_succ]
      refine take_at (i := 26) 106 rfl rfl (by kernel_rfl) (by kernel_rfl) (by kernel_rfl) (fun _ _ _ h => h) (.inr ⟨by rfl, rfl⟩) (by assumption) ?_
      simp only [List.setIfInBounds_toArray, List.set_cons_zero, List.set_cons_succ]
      refine take_at (i := 27) 107 rfl rfl (by kernel_rfl) (by kernel_rfl) (by kernel_rfl) (fun _ _ _ h => h) (.inr ⟨by rfl, rfl⟩) (by assumption) ?_
      simp only [List.setIfInBounds_toArray, List.set_cons_zero, List.set_cons_succ]
      refine take_at (i := 28) (v := .bool true) 108 rfl rfl (by kernel_rfl) (by kernel_rfl) (by kernel_rfl) (fun _ _ _ h => h) (sure_yes (by rfl) (fun w => by go_simp; try with_reducible rfl)) (by assumption) ?_
      simp only [List.setIfInBounds_toArray, List.set_cons_zero, List.set_cons_succ]
      refine take_at (i := 29) (v := .bool true) 109 rfl rfl (by kernel_rfl) (by kernel_rfl) (by kernel_rfl) (fun _ _ _ h => h) (sure_yes (by rfl) (fun w => by go_simp; try with_reducible rfl)) (by assumption) ?_
      simp only [List.setIfInBounds_toArray, List.set_cons_zero, List.set_cons_succ]
      refine take_at (i := 30) (v := .bool true) 6 rfl rfl (by kernel_rfl) (by kernel_rfl) (by kernel_rfl) (fun _ _ _ h => h) (sure_yes (by rfl) (fun w => by go_simp; try with_reducible rfl)) (by assumption) ?_
      simp only [List.setIfInBounds_toArray, List.set_cons_zero, List.set_cons_succ]
      refine wpAnyH_done (by kernel_rfl) ?_ _
      go_wp2
      go_ret
      exact ⟨rfl, below_draws B4.out 1⟩
    · have d1 : decide ((48 : Int) ≤ (cn : Int)) = true := decide_eq_true (by omega)
      have d2 : decide ((cn : Int) ≤ 57) = false := decide_eq_false (by omega)
      have d3 : decide ((97 : Int) ≤ (cn : Int)) = false := decide_eq_false (by omega)
      have d4 : decide ((cn : Int) ≤ 102) = true := decide_eq_true (by omega)
      clear h
      go_upto_region 10 with fail
      refine wp_region_held_drew (S := fun w' => w'.rangeAt g8 0 (rowL .u8 32 pt) ∧ w'.rangeAt w.heap.size 0 (rowL .u8 32 f)) (by kernel_rfl) ⟨range_of_row X4.out, range_of_row H4.out⟩ (fun hHeld => ?_)
      refine take_at (i := 0) (v := .bool true) 80 rfl rfl (by kernel_rfl) (by kernel_rfl) (by kernel_rfl) (fun _ _ _ h => h) (sure_yes (by rfl) (fun w => by go_simp; try with_reducible rfl)) (by assumption) ?_
      simp only [List.setIfInBounds_toArray, List.set_cons_zero, List.set_cons_succ]
      refine take_at (i := 1) (v := .bool true) 81 rfl rfl (by kernel_rfl) (by kernel_rfl) (by kernel_rfl) (fun _ _ _ h => h) (sure_yes (by rfl) (fun w => by go_simp; try with_reducible rfl)) (by assumption) ?_
      simp only [List.setIfInBounds_toArray, List.set_cons_zero, List.set_cons_succ]
      refine take_at (i := 2) 82 rfl rfl (by kernel_rfl) (by kernel_rfl) (by kernel_rfl) (fun _ _ _ h => h) (sure_yes (by rfl) (fun w => by go_simp; try with_reducible rfl)) (by assumption) ?_
      simp only [List.setIfInBounds_toArray, List.set_cons_zero, List.set_cons_succ]
      refine take_at (i := 3) (v := .bool true) 83 rfl rfl (by kernel_rfl) (by kernel_rfl) (by kernel_rfl) (fun _ _ _ h => h) (sure_yes (by rfl) (fun w => by go_simp; try with_reducible rfl)) (by assumption) ?_
      simp only [List.setIfInBounds_toArray, List.set_cons_zero, List.set_cons_succ]
      refine take_at (i := 4) (v := .bool true) 84 rfl rfl (by kernel_rfl) (by kernel_rfl) (by kernel_rfl) (fun _ _ _ h => h) (sure_yes (by rfl) (fun w => by go_simp; try with_reducible rfl)) (by assumption) ?_
      simp only [List.setIfInBounds_toArray, List.set_cons_zero, List.set_cons_succ]
      refine take_at (i := 5) (v := .bool true) 85 rfl rfl (by kernel_rfl) (by kernel_rfl) (by kernel_rfl) (fun _ _ _ h => h) (sure_yes (by rfl) (fun w => by go_simp; try with_reducible rfl)) (by assumption) ?_
      simp only [List.setIfInBounds_toArray, List.set_cons_zero, List.set_cons_succ]
      refine take_at (i := 6) 86 rfl rfl (by kernel_rfl) (by kernel_rfl) (by kernel_rfl) (fun _ _ _ h => h) (sure_yes (by rfl) (fun w => by go_simp; try with_reducible rfl)) (by assumption) ?_
      simp only [List.setIfInBounds_toArray, List.set_cons_zero, List.set_cons_succ]
      refine take_at (i := 7) (v := .bool true) 87 rfl rfl (by kernel_rfl) (by kernel_rfl) (by kernel_rfl) (fun _ _ _ h => h) (sure_yes (by rfl) (fun w => by go_simp; try with_reducible rfl)) (by assumption) ?_
      simp only [List.setIfInBounds_toArray, List.set_cons_zero, List.set_cons_succ]
      refine take_at (i := 8) (v := .bool true) 88 rfl rfl (by kernel_rfl) (by kernel_rfl) (by kernel_rfl) (fun _ _ _ h => h) (sure_yes (by rfl) (fun w => by go_simp; try with_reducible rfl)) (by assumption) ?_
      simp only [List.setIfInBounds_toArray, List.set_cons_zero, List.set_cons_succ]
      refine take_at (i := 9) (v := .bool true) 89 rfl rfl (by kernel_rfl) (by kernel_rfl) (by kernel_rfl) (fun _ _ _ h => h) (sure_yes (by rfl) (fun w => by go_simp; try with_reducible rfl)) (by assumption) ?_
      simp only [List.setIfInBounds_toArray, List.set_cons_zero, List.set_cons_succ]
      refine take_at (i := 10) 90 rfl rfl (by kernel_rfl) (by kernel_rfl) (by kernel_rfl) (fun _ _ _ h => h) (sure_yes (by rfl) (fun w => by go_simp; try with_reducible rfl)) (by assumption) ?_
      simp only [List.setIfInBounds_toArray, List.set_cons_zero, List.set_cons_succ]
      refine take_at (i := 11) (v := .bool false) 91 rfl rfl (by kernel_rfl) (by kernel_rfl) (by kernel_rfl) (fun _ _ _ h => h) (sure_yes (by rfl) (fun w => by go_simp; try with_reducible rfl)) (by assumption) ?_
      simp only [List.setIfInBounds_toArray, List.set_cons_zero, List.set_cons_succ]
      refine take_at (i := 12) (v := .bool false) 92 rfl rfl (by kernel_rfl) (by kernel_rfl) (by kernel_rfl) (fun _ _ _ h => h) (sure_yes (by rfl) (fun w => by go_simp; try with_reducible rfl)) (by assumption) ?_
      simp only [List.setIfInBounds_toArray, List.set_cons_zero, List.set_cons_succ]
      refine take_at (i := 13) (v := .bool true) 93 rfl rfl (by kernel_rfl) (by kernel_rfl) (by kernel_rfl) (fun _ _ _ h => h) (sure_yes (by rfl) (fun w => by go_simp; try with_reducible rfl)) (by assumption) ?_
      simp only [List.setIfInBounds_toArray, List.set_cons_zero, List.set_cons_succ]
      refine take_at (i := 14) (v := .bool true) 94 rfl rfl (by kernel_rfl) (by kernel_rfl) (by kernel_rfl) (fun _ _ _ h => h) (sure_yes (by rfl) (fun w => by go_simp; try with_reducible rfl)) (by assumption) ?_
      simp only [List.setIfInBounds_toArray, List.set_cons_zero, List.set_cons_succ]
      refine take_at (i := 15) (v := .bool true) 95 rfl rfl (by kernel_rfl) (by kernel_rfl) (by kernel_rfl) (fun _ _ _ h => h) (sure_yes (by rfl) (fun w => by go_simp; try with_reducible rfl)) (by assumption) ?_
      simp only [List.setIfInBounds_toArray, List.set_cons_zero, List.set_cons_succ]
      refine take_at (i := 16) (v := .bool false) 96 rfl rfl (by kernel_rfl) (by kernel_rfl) (by kernel_rfl) (fun _ _ _ h => h) (sure_yes (by rfl) (fun w => by go_simp; try with_reducible rfl)) (by assumption) ?_
      simp only [List.setIfInBounds_toArray, List.set_cons_zero, List.set_cons_succ]
      refine take_at (i := 17) (v := .bool true) 97 rfl rfl (by kernel_rfl) (by kernel_rfl) (by kernel_rfl) (fun _ _ _ h => h) (sure_yes (by rfl) (fun w => by go_simp; try with_reducible rfl)) (by assumption) ?_
      simp only [List.setIfInBounds_toArray, List.set_cons_zero, List.set_cons_succ]
      refine take_at (i := 18) (v := .bool true) 98 rfl rfl (by kernel_rfl) (by kernel_rfl) (by kernel_rfl) (fun _ _ _ h => h) (sure_yes (by rfl) (fun w => by go_simp; try with_reducible rfl)) (by assumption) ?_
      simp only [List.setIfInBounds_toArray, List.set_cons_zero, List.set_cons_succ]
      refine take_at (i := 19) 99 rfl rfl (by kernel_rfl) (by kernel_rfl) (by kernel_rfl) (fun _ _ _ h => h) (.inr ⟨by rfl, rfl⟩) (by assumption) ?_
      simp only [List.setIfInBounds_toArray, List.set_cons_zero, List.set_cons_succ]
      refine take_at (i := 20) 100 rfl rfl (by kernel_rfl) (by kernel_rfl) (by kernel_rfl) (fun _ _ _ h => h) (.inr ⟨by rfl, rfl⟩) (by assumption) ?_
      simp only [List.setIfInBounds_toArray, List.set_cons_zero, List.set_cons_succ]
      refine take_at (i := 21) 101 rfl rfl (by kernel_rfl) (by kernel_rfl) (by kernel_rfl) (fun _ _ _ h => h) (.inr ⟨by rfl, rfl⟩) (by assumption) ?_
      simp only [List.setIfInBounds_toArray, List.set_cons_zero, List.set_cons_succ]
      refine take_at (i := 22) 102 rfl rfl (by kernel_rfl) (by kernel_rfl) (by kernel_rfl) (fun _ _ _ h => h) (.inr ⟨by rfl, rfl⟩) (by assumption) ?_
      simp only [List.setIfInBounds_toArray, List.set_cons_zero, List.set_cons_succ]
      refine take_at (i := 23) 103 rfl rfl (by kernel_rfl) (by kernel_rfl) (by kernel_rfl) (fun _ _ _ h => h) (.inr ⟨by rfl, rfl⟩) (by assumption) ?_
      simp only [List.setIfInBounds_toArray, List.set_cons_zero, List.set_cons_succ]
      refine take_at (i := 24) 104 rfl rfl (by kernel_rfl) (by kernel_rfl) (by kernel_rfl) (fun _ _ _ h => h) (.inr ⟨by rfl, rfl⟩) (by assumption) ?_
      simp only [List.setIfInBounds_toArray, List.set_cons_zero, List.set_cons_succ]
      refine take_at (i := 25) 105 rfl rfl (by kernel_rfl) (by kernel_rfl) (by kernel_rfl) (fun _ _ _ h => h) (.inr ⟨by rfl, rfl⟩) (by assumption) ?_
      simp only [List.setIfInBounds_toArray, List.set_cons_zero, List.set_cons_succ]
      refine take_at (i := 26) 106 rfl rfl (by kernel_rfl) (by kernel_rfl) (by kernel_rfl) (fun _ _ _ h => h) (.inr ⟨by rfl, rfl⟩) (by assumption) ?_
      simp only [List.setIfInBounds_toArray, List.set_cons_zero, List.set_cons_succ]
      refine take_at (i := 27) 107 rfl rfl (by kernel_rfl) (by kernel_rfl) (by kernel_rfl) (fun _ _ _ h => h) (.inr ⟨by rfl, rfl⟩) (by assumption) ?_
      simp only [List.setIfInBounds_toArray, List.set_cons_zero, List.set_cons_succ]
      refine take_at (i := 28) (v := .bool true) 108 rfl rfl (by kernel_rfl) (by kernel_rfl) (by kernel_rfl) (fun _ _ _ h => h) (sure_yes (by rfl) (fun w => by go_simp; try with_reducible rfl)) (by assumption) ?_
      simp only [List.setIfInBounds_toArray, List.set_cons_zero, List.set_cons_succ]
      refine take_at (i := 29) (v := .bool true) 109 rfl rfl (by kernel_rfl) (by kernel_rfl) (by kernel_rfl) (fun _ _ _ h => h) (sure_yes (by rfl) (fun w => by go_simp; try with_reducible rfl)) (by assumption) ?_
      simp only [List.setIfInBounds_toArray, List.set_cons_zero, List.set_cons_succ]
      refine take_at (i := 30) (v := .bool true) 6 rfl rfl (by kernel_rfl) (by kernel_rfl) (by kernel_rfl) (fun _ _ _ h => h) (sure_yes (by rfl) (fun w => by go_simp; try with_reducible rfl)) (by assumption) ?_
      simp only [List.setIfInBounds_toArray, List.set_cons_zero, List.set_cons_succ]
      refine wpAnyH_done (by kernel_rfl) ?_ _
      go_wp2
      go_ret
      exact ⟨rfl, below_draws B4.out 1⟩
    · have d1 : decide ((48 : Int) ≤ (cn : Int)) = true := decide_eq_true (by omega)
      have d2 : decide ((cn : Int) ≤ 57) = false := decide_eq_false (by omega)
      have d3 : decide ((97 : Int) ≤ (cn : Int)) = true := decide_eq_true (by omega)
      have d4 : decide ((cn : Int) ≤ 102) = false := decide_eq_false (by omega)
      clear h
      go_upto_region 10 with fail
      refine wp_region_held_drew (S := fun w' => w'.rangeAt g8 0 (rowL .u8 32 pt) ∧ w'.rangeAt w.heap.size 0 (rowL .u8 32 f)) (by kernel_rfl) ⟨range_of_row X4.out, range_of_row H4.out⟩ (fun hHeld => ?_)
      refine take_at (i := 0) (v := .bool true) 80 rfl rfl (by kernel_rfl) (by kernel_rfl) (by kernel_rfl) (fun _ _ _ h => h) (sure_yes (by rfl) (fun w => by go_simp; try with_reducible rfl)) (by assumption) ?_
      simp only [List.setIfInBounds_toArray, List.set_cons_zero, List.set_cons_succ]
      refine take_at (i := 1) (v := .bool true) 81 rfl rfl (by kernel_rfl) (by kernel_rfl) (by kernel_rfl) (fun _ _ _ h => h) (sure_yes (by rfl) (fun w => by go_simp; try with_reducible rfl)) (by assumption) ?_
      simp only [List.setIfInBounds_toArray, List.set_cons_zero, List.set_cons_succ]
      refine take_at (i := 2) 82 rfl rfl (by kernel_rfl) (by kernel_rfl) (by kernel_rfl) (fun _ _ _ h => h) (sure_yes (by rfl) (fun w => by go_simp; try with_reducible rfl)) (by assumption) ?_
      simp only [List.setIfInBounds_toArray, List.set_cons_zero, List.set_cons_succ]
      refine take_at (i := 3) (v := .bool true) 83 rfl rfl (by kernel_rfl) (by kernel_rfl) (by kernel_rfl) (fun _ _ _ h => h) (sure_yes (by rfl) (fun w => by go_simp; try with_reducible rfl)) (by assumption) ?_
      simp only [List.setIfInBounds_toArray, List.set_cons_zero, List.set_cons_succ]
      refine take_at (i := 4) (v := .bool true) 84 rfl rfl (by kernel_rfl) (by kernel_rfl) (by kernel_rfl) (fun _ _ _ h => h) (sure_yes (by rfl) (fun w => by go_simp; try with_reducible rfl)) (by assumption) ?_
      simp only [List.setIfInBounds_toArray, List.set_cons_zero, List.set_cons_succ]
      refine take_at (i := 5) (v := .bool true) 85 rfl rfl (by kernel_rfl) (by kernel_rfl) (by kernel_rfl) (fun _ _ _ h => h) (sure_yes (by rfl) (fun w => by go_simp; try with_reducible rfl)) (by assumption) ?_
      simp only [List.setIfInBounds_toArray, List.set_cons_zero, List.set_cons_succ]
      refine take_at (i := 6) 86 rfl rfl (by kernel_rfl) (by kernel_rfl) (by kernel_rfl) (fun _ _ _ h => h) (sure_yes (by rfl) (fun w => by go_simp; try with_reducible rfl)) (by assumption) ?_
      simp only [List.setIfInBounds_toArray, List.set_cons_zero, List.set_cons_succ]
      refine take_at (i := 7) (v := .bool true) 87 rfl rfl (by kernel_rfl) (by kernel_rfl) (by kernel_rfl) (fun _ _ _ h => h) (sure_yes (by rfl) (fun w => by go_simp; try with_reducible rfl)) (by assumption) ?_
      simp only [List.setIfInBounds_toArray, List.set_cons_zero, List.set_cons_succ]
      refine take_at (i := 8) (v := .bool true) 88 rfl rfl (by kernel_rfl) (by kernel_rfl) (by kernel_rfl) (fun _ _ _ h => h) (sure_yes (by rfl) (fun w => by go_simp; try with_reducible rfl)) (by assumption) ?_
      simp only [List.setIfInBounds_toArray, List.set_cons_zero, List.set_cons_succ]
      refine take_at (i := 9) (v := .bool true) 89 rfl rfl (by kernel_rfl) (by kernel_rfl) (by kernel_rfl) (fun _ _ _ h => h) (sure_yes (by rfl) (fun w => by go_simp; try with_reducible rfl)) (by assumption) ?_
      simp only [List.setIfInBounds_toArray, List.set_cons_zero, List.set_cons_succ]
      refine take_at (i := 10) 90 rfl rfl (by kernel_rfl) (by kernel_rfl) (by kernel_rfl) (fun _ _ _ h => h) (sure_yes (by rfl) (fun w => by go_simp; try with_reducible rfl)) (by assumption) ?_
      simp only [List.setIfInBounds_toArray, List.set_cons_zero, List.set_cons_succ]
      refine take_at (i := 11) (v := .bool false) 91 rfl rfl (by kernel_rfl) (by kernel_rfl) (by kernel_rfl) (fun _ _ _ h => h) (sure_yes (by rfl) (fun w => by go_simp; try with_reducible rfl)) (by assumption) ?_
      simp only [List.setIfInBounds_toArray, List.set_cons_zero, List.set_cons_succ]
      refine take_at (i := 12) (v := .bool false) 92 rfl rfl (by kernel_rfl) (by kernel_rfl) (by kernel_rfl) (fun _ _ _ h => h) (sure_yes (by rfl) (fun w => by go_simp; try with_reducible rfl)) (by assumption) ?_
      simp only [List.setIfInBounds_toArray, List.set_cons_zero, List.set_cons_succ]
      refine take_at (i := 13) (v := .bool true) 93 rfl rfl (by kernel_rfl) (by kernel_rfl) (by kernel_rfl) (fun _ _ _ h => h) (sure_yes (by rfl) (fun w => by go_simp; try with_reducible rfl)) (by assumption) ?_
      simp only [List.setIfInBounds_toArray, List.set_cons_zero, List.set_cons_succ]
      refine take_at (i := 14) (v := .bool true) 94 rfl rfl (by kernel_rfl) (by kernel_rfl) (by kernel_rfl) (fun _ _ _ h => h) (sure_yes (by rfl) (fun w => by go_simp; try with_reducible rfl)) (by assumption) ?_
      simp only [List.setIfInBounds_toArray, List.set_cons_zero, List.set_cons_succ]
      refine take_at (i := 15) (v := .bool true) 95 rfl rfl (by kernel_rfl) (by kernel_rfl) (by kernel_rfl) (fun _ _ _ h => h) (sure_yes (by rfl) (fun w => by go_simp; try with_reducible rfl)) (by assumption) ?_
      simp only [List.setIfInBounds_toArray, List.set_cons_zero, List.set_cons_succ]
      refine take_at (i := 16) (v := .bool false) 96 rfl rfl (by kernel_rfl) (by kernel_rfl) (by kernel_rfl) (fun _ _ _ h => h) (sure_yes (by rfl) (fun w => by go_simp; try with_reducible rfl)) (by assumption) ?_
      simp only [List.setIfInBounds_toArray, List.set_cons_zero, List.set_cons_succ]
      refine take_at (i := 17) (v := .bool true) 97 rfl rfl (by kernel_rfl) (by kernel_rfl) (by kernel_rfl) (fun _ _ _ h => h) (sure_yes (by rfl) (fun w => by go_simp; try with_reducible rfl)) (by assumption) ?_
      simp only [List.setIfInBounds_toArray, List.set_cons_zero, List.set_cons_succ]
      refine take_at (i := 18) (v := .bool true) 98 rfl rfl (by kernel_rfl) (by kernel_rfl) (by kernel_rfl) (fun _ _ _ h => h) (sure_yes (by rfl) (fun w => by go_simp; try with_reducible rfl)) (by assumption) ?_
      simp only [List.setIfInBounds_toArray, List.set_cons_zero, List.set_cons_succ]
      refine take_at (i := 19) 99 rfl rfl (by kernel_rfl) (by kernel_rfl) (by kernel_rfl) (fun _ _ _ h => h) (.inr ⟨by rfl, rfl⟩) (by assumption) ?_
      simp only [List.setIfInBounds_toArray, List.set_cons_zero, List.set_cons_succ]
      refine take_at (i := 20) 100 rfl rfl (by kernel_rfl) (by kernel_rfl) (by kernel_rfl) (fun _ _ _ h => h) (.inr ⟨by rfl, rfl⟩) (by assumption) ?_
      simp only [List.setIfInBounds_toArray, List.set_cons_zero, List.set_cons_succ]
      refine take_at (i := 21) 101 rfl rfl (by kernel_rfl) (by kernel_rfl) (by kernel_rfl) (fun _ _ _ h => h) (.inr ⟨by rfl, rfl⟩) (by assumption) ?_
      simp only [List.setIfInBounds_toArray, List.set_cons_zero, List.set_cons_succ]
      refine take_at (i := 22) 102 rfl rfl (by kernel_rfl) (by kernel_rfl) (by kernel_rfl) (fun _ _ _ h => h) (.inr ⟨by rfl, rfl⟩) (by assumption) ?_
      simp only [List.setIfInBounds_toArray, List.set_cons_zero, List.set_cons_succ]
      refine take_at (i := 23) 103 rfl rfl (by kernel_rfl) (by kernel_rfl) (by kernel_rfl) (fun _ _ _ h => h) (.inr ⟨by rfl, rfl⟩) (by assumption) ?_
      simp only [List.setIfInBounds_toArray, List.set_cons_zero, List.set_cons_succ]
      refine take_at (i := 24) 104 rfl rfl (by kernel_rfl) (by kernel_rfl) (by kernel_rfl) (fun _ _ _ h => h) (.inr ⟨by rfl, rfl⟩) (by assumption) ?_
      simp only [List.setIfInBounds_toArray, List.set_cons_zero, List.set_cons_succ]
      refine take_at (i := 25) 105 rfl rfl (by kernel_rfl) (by kernel_rfl) (by kernel_rfl) (fun _ _ _ h => h) (.inr ⟨by rfl, rfl⟩) (by assumption) ?_
      simp only [List.setIfInBounds_toArray, List.set_cons_zero, List.set_cons_succ]
      refine take_at (i := 26) 106 rfl rfl (by kernel_rfl) (by kernel_rfl) (by kernel_rfl) (fun _ _ _ h => h) (.inr ⟨by rfl, rfl⟩) (by assumption) ?_
      simp only [List.setIfInBounds_toArray, List.set_cons_zero, List.set_cons_succ]
      refine take_at (i := 27) 107 rfl rfl (by kernel_rfl) (by kernel_rfl) (by kernel_rfl) (fun _ _ _ h => h) (.inr ⟨by rfl, rfl⟩) (by assumption) ?_
      simp only [List.setIfInBounds_toArray, List.set_cons_zero, List.set_cons_succ]
      refine take_at (i := 28) (v := .bool true) 108 rfl rfl (by kernel_rfl) (by kernel_rfl) (by kernel_rfl) (fun _ _ _ h => h) (sure_yes (by rfl) (fun w => by go_simp; try with_reducible rfl)) (by assumption) ?_
      simp only [List.setIfInBounds_toArray, List.set_cons_zero, List.set_cons_succ]
      refine take_at (i := 29) (v := .bool true) 109 rfl rfl (by kernel_rfl) (by kernel_rfl) (by kernel_rfl) (fun _ _ _ h => h) (sure_yes (by rfl) (fun w => by go_simp; try with_reducible rfl)) (by assumption) ?_
      simp only [List.setIfInBounds_toArray, List.set_cons_zero, List.set_cons_succ]
      refine take_at (i := 30) (v := .bool true) 6 rfl rfl (by kernel_rfl) (by kernel_rfl) (by kernel_rfl) (fun _ _ _ h => h) (sure_yes (by rfl) (fun w => by go_simp; try with_reducible rfl)) (by assumption) ?_
      simp only [List.setIfInBounds_toArray, List.set_cons_zero, List.set_cons_succ]
      refine wpAnyH_done (by kernel_rfl) ?_ _
      go_wp2
      go_ret
      exact ⟨rfl, below_draws B4.out 1⟩

end Go.Proofs.YtikhmhgjaipnaaaDoor
