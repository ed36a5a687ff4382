/-
Texts that all claims of this seat share, part 10: SortSymA.
-/
import Derived.Test.YtppmbdpfledejaaGreatDoorPk9
namespace Go.Proofs.YtppmbdpfledejaaGreatDoor
open Go.RowKit
set_option linter.unusedSimpArgs false in
set_option maxRecDepth 100000 in
set_option maxHeartbeats 16000000 in
theorem symC1_any (F : FuncId) (hF : CmpF F) (P X Y Q : List Sh) (a m b n cap g B : Nat) (hX : 1 < X.length) (hY : 1 < Y.length) (sX : SortedK Sh.path X) (sY : SortedK Sh.path Y) (ha : a = P.length) (hm : m = P.length + X.length) (hb : b = P.length + X.length + Y.length) (hn5 : n ≤ 50000)
    (ih : ∀ (P' X' Y' Q' : List Sh) (a' m' b' : Nat), X'.length + Y'.length < X.length + Y.length → 0 < X'.length → 0 < Y'.length → SortedK Sh.path X' → SortedK Sh.path Y' → a' = P'.length → m' = P'.length + X'.length → b' = P'.length + X'.length + Y'.length → ∀ w, w.ownsRow B 33 36 (.slice (some ⟨g, 0, none⟩) n cap) n (shsC (P' ++ (X' ++ (Y' ++ Q')))) →
      Calls Tryz.prog 105 #[(.slice (some ⟨g, 0, none⟩) n cap), .int .i64 (a' : Int), .int .i64 (m' : Int), .int .i64 (b' : Int), .func (.func F) #[] #[]] w fun x w' => x = .returned (.tuple #[]) ∧ ∃ S, StableK Sh.path (X' ++ Y') S ∧ w'.ownsRow B 33 36 (.slice (some ⟨g, 0, none⟩) n cap) n (shsC (P' ++ S ++ Q')) ∧ Below B w w')
    (hmid0 : (a + b) / 2 < m) (w : World) (hw : w.ownsRow B 33 36 (.slice (some ⟨g, 0, none⟩) n cap) n (shsC (P ++ (X ++ (Y ++ Q))))) :
    Calls Tryz.prog 105 #[(.slice (some ⟨g, 0, none⟩) n cap), .int .i64 (a : Int), .int .i64 (m : Int), .int .i64 (b : Int), .func (.func F) #[] #[]] w fun x w' => x = .returned (.tuple #[]) ∧ ∃ S, StableK Sh.path (X ++ Y) S ∧ w'.ownsRow B 33 36 (.slice (some ⟨g, 0, none⟩) n cap) n (shsC (P ++ S ++ Q)) ∧ Below B w w' := by
  obtain ⟨hBg, hB0⟩ := own_in hw
  have HB0 := Lib.hid hB0
  have hn := own_len hw
  have HLN := Lib.hid hn
  have hbn : b ≤ n := by rw [hn, hb]; simp only [List.length_append]; omega
  have HW := Lib.hid hw
  have HSX := Lib.hid sX
  have HSY := Lib.hid sY
  have REC := Lib.hid ih
  have CMF := Lib.hid hF
  obtain ⟨s, md, nn, p, ⟨u1, u2, u3, u4, u5, u6⟩, ⟨u7, u8, u9, u10⟩, n3, n4, n5, n6⟩ := mid_nums a m b (by omega) (by omega) (by omega)
  have hmid : md < m := by omega
  clear hmid0
  have HNN := Lib.hid (And.intro hbn (And.intro ha (And.intro hm (And.intro hb (And.intro n3 (And.intro n4 (And.intro n5 n6)))))))
  obtain ⟨lx, hlx⟩ : ∃ l, l = X.length := ⟨_, rfl⟩
  obtain ⟨ly, hly⟩ : ∃ l, l = Y.length := ⟨_, rfl⟩
  have HL := Lib.hid (And.intro hlx (And.intro hly (And.intro hX hY)))
  have q0 : (m : Int) - (a : Int) = (lx : Int) := by omega
  have q0b : ((lx : Int) == 1) = false := by have : (lx : Int) ≠ 1 := by omega
                                             simpa using this
  have q0d : IntKind.i64.wrap (lx : Int) = (lx : Int) := by rw [IntKind.wrap_i64]; omega
  have q0f : ¬ lx = 1 := by omega
  have r0 : (b : Int) - (m : Int) = (ly : Int) := by omega
  have r0b : ((ly : Int) == 1) = false := by have : (ly : Int) ≠ 1 := by omega
                                             simpa using this
  have r0d : IntKind.i64.wrap (ly : Int) = (ly : Int) := by rw [IntKind.wrap_i64]; omega
  have r0f : ¬ ly = 1 := by omega
  have ham : a < m := by omega
  have hmb : m < b := by omega
  have hX1 : True := trivial
  have hY1 : True := trivial
  have hn5' := hn5
  clear hF hw hn hBg hB0 sX sY ih hX hY hlx hly
  go_enter Tryz.func105, Tryz.ntmps105
  have hmid' := hmid
  have qm : (m : Int) > (md : Int) := by omega
  have qmn : md < m := by omega
  obtain ⟨s0, hs0⟩ : ∃ s0, s0 = nn - b := ⟨_, rfl⟩
  have q10 : (nn : Int) - (b : Int) = (s0 : Int) := by omega
  have q11 : IntKind.i64.wrap (s0 : Int) = (s0 : Int) := by rw [IntKind.wrap_i64]; omega
  have HS := Lib.hid (show a ≤ s0 ∧ s0 ≤ md ∧ md < m ∧ s0 + b = nn by omega)
  clear hs0
  clear hX1 hY1 ha hm hb hbn n3 n4 n5 n6 ham hmb
  go_wp2
  go_loopw [20, 21, 23] (fun c d e wr => ∃ i r : Nat, c = .int .i64 (i : Int) ∧ d = .int .i64 (r : Int) ∧ s0 ≤ i ∧ i ≤ r ∧ r ≤ md ∧ (s0 < i → ∃ x y, (P ++ (X ++ (Y ++ Q)))[i - 1]? = some x ∧ (P ++ (X ++ (Y ++ Q)))[p - (i - 1)]? = some y ∧ leK Sh.path x y) ∧ (r < md → ∃ x y, (P ++ (X ++ (Y ++ Q)))[r]? = some x ∧ (P ++ (X ++ (Y ++ Q)))[p - r]? = some y ∧ ltK Sh.path y x = true) ∧ wr.ownsRow B 33 36 (.slice (some ⟨g, 0, none⟩) n cap) n (shsC (P ++ (X ++ (Y ++ Q)))) ∧ Below B w wr) (fun c d _ _ => (intOf d).toNat - (intOf c).toNat)
  case atStart => exact ⟨s0, md, rfl, rfl, Nat.le_refl _, by have := HS.out; have := HNN.out; omega, Nat.le_refl _, fun h => by omega, fun h => by omega, HW.out, Below.refl _ _⟩
  case round =>
    obtain ⟨i, r, rfl, rfl, hsi, hir, hrr, hlo, hhi, ho, hbw⟩ := hrel
    have hs := HS.out
    obtain ⟨hbn, ha, hm, hb, n3, n4, n5, n6⟩ := HNN.out
    have HLO := Lib.hid hlo
    have HHI := Lib.hid hhi
    have OWN := Lib.hid ho
    have BEL := Lib.hid hbw
    clear hlo hhi ho hbw
    generalize wr = w2 at *
    by_cases hlt : i < r
    · have q1 : (i : Int) < (r : Int) := by omega
      obtain ⟨s2, h, t1, t2, t3, t4, t5, t6, hih, hhj, t7⟩ := half_nums i r hlt (by omega)
      obtain ⟨v, hv⟩ : ∃ v, v = p - h := ⟨_, rfl⟩
      have hLN := HLN.out
      obtain ⟨x, hx⟩ : ∃ x, (P ++ (X ++ (Y ++ Q)))[h]? = some x := ⟨_, List.getElem?_eq_getElem (by omega)⟩
      obtain ⟨y, hy⟩ : ∃ x, (P ++ (X ++ (Y ++ Q)))[v]? = some x := ⟨_, List.getElem?_eq_getElem (by omega)⟩
      have HXH := Lib.hid hx
      have HYH := Lib.hid hy
      have CX := Lib.hid (own_sh OWN.out h x hx)
      have CY := Lib.hid (own_sh OWN.out v y hy)
      have q2 : (h : Int) < (n : Int) := by omega
      have q3 : h < n := by omega
      have q4 : (p : Int) - (h : Int) = (v : Int) := by omega
      have q5 : IntKind.i64.wrap (v : Int) = (v : Int) := by rw [IntKind.wrap_i64]; omega
      have q6 : (v : Int) < (n : Int) := by omega
      have q7 : v < n := by omega
      obtain ⟨c, hc⟩ : ∃ c, cmpB y.path x.path = c := ⟨_, rfl⟩
      have HC := Lib.hid hc
      have HLT := Lib.hid (lt_cmp y x)
      have HN3 := Lib.hid (And.intro hsi (And.intro hrr (And.intro hih (And.intro hhj hv))))
      clear hc hx hy hlt hir hsi hrr hih hhj hv hLN hs hbn ha hm hb n3 n4 n5 n6
      by_cases hc0 : c < 0
      · have q9 : decide (c < 0) = true := decide_eq_true hc0
        have HXY := Lib.hid (show ltK Sh.path y x = true by rw [← HLT.out, HC.out]; exact q9)
        clear hc0
        go_upto_region 35 with fail
        refine wp_region_held_drew (S := fun w' => Below w2.heap.size w2 w') (by kernel_rfl) (drawS (Below.refl _ _)) (fun hHeld => ?_)
        generalize w2.drew = wd at hHeld ⊢
        refine take_at (i := 0) 158 rfl rfl (by kernel_rfl) (by kernel_rfl) (by kernel_rfl) (fun _ _ _ h => h) (sure_yes (by rfl) (fun w => by go_simp; try with_reducible rfl)) hHeld ?_
        simp only [List.setIfInBounds_toArray, List.set_cons_zero, List.set_cons_succ]
        refine take_at (i := 1) 159 rfl rfl (by kernel_rfl) (by kernel_rfl) (by kernel_rfl) (fun _ _ _ h => h) (sure_yes (by rfl) (fun w => by go_simp; try with_reducible rfl)) hHeld ?_
        simp only [List.setIfInBounds_toArray, List.set_cons_zero, List.set_cons_succ]
        refine take_at (i := 2) 160 rfl rfl (by kernel_rfl) (by kernel_rfl) (by kernel_rfl) (fun _ _ _ h => h) (sure_yes (by rfl) (fun w => by go_simp; try with_reducible rfl)) hHeld ?_
        simp only [List.setIfInBounds_toArray, List.set_cons_zero, List.set_cons_succ]
        refine take_at (i := 3) 161 rfl rfl (by kernel_rfl) (by kernel_rfl) (by kernel_rfl) (fun _ _ _ h => h) (sure_yes (by rfl) (fun w => by go_simp; try with_reducible rfl)) hHeld ?_
        simp only [List.setIfInBounds_toArray, List.set_cons_zero, List.set_cons_succ]
        refine take_at (i := 4) 162 rfl rfl (by kernel_rfl) (by kernel_rfl) (by kernel_rfl) (fun _ _ _ h => h) (sure_yes (by rfl) (fun w => by go_simp; try with_reducible rfl)) hHeld ?_
        simp only [List.setIfInBounds_toArray, List.set_cons_zero, List.set_cons_succ]
        refine take_at (i := 5) 163 rfl rfl (by kernel_rfl) (by kernel_rfl) (by kernel_rfl) (fun _ _ _ h => h) (sure_yes (by rfl) (fun w => by go_simp; try with_reducible rfl)) hHeld ?_
        simp only [List.setIfInBounds_toArray, List.set_cons_zero, List.set_cons_succ]
        refine take_at (i := 7) 165 rfl rfl (by kernel_rfl) (by kernel_rfl) (by kernel_rfl) (fun _ _ _ h => h) (sure_yes (by rfl) (fun w => by go_simp; try with_reducible rfl)) hHeld ?_
        simp only [List.setIfInBounds_toArray, List.set_cons_zero, List.set_cons_succ]
        refine take_at (i := 8) 166 rfl rfl (by kernel_rfl) (by kernel_rfl) (by kernel_rfl) (fun _ _ _ h => h) (sure_yes (by rfl) (fun w => by go_simp; try with_reducible rfl)) hHeld ?_
        simp only [List.setIfInBounds_toArray, List.set_cons_zero, List.set_cons_succ]
        refine take_at (i := 9) 167 rfl rfl (by kernel_rfl) (by kernel_rfl) (by kernel_rfl) (fun _ _ _ h => h) (sure_yes (by rfl) (fun w => by go_simp; try with_reducible rfl)) hHeld ?_
        simp only [List.setIfInBounds_toArray, List.set_cons_zero, List.set_cons_succ]
        refine take_at (i := 6) 164 rfl rfl (by kernel_rfl) (by kernel_rfl) (by kernel_rfl) (fun _ _ _ h => h) (shA_yields (by rfl) 33 (.tmp 163) rfl ⟨g, v * 36, none⟩ rfl Tryz.underlying33 shSize (fun w h j u hu => cell_under12 (CY.out j u hu) h)) hHeld ?_
        simp only [List.setIfInBounds_toArray, List.set_cons_zero, List.set_cons_succ]
        refine take_at (i := 10) 168 rfl rfl (by kernel_rfl) (by kernel_rfl) (by kernel_rfl) (fun _ _ _ h => h) (shA_yields (by rfl) 33 (.tmp 167) rfl ⟨g, h * 36, none⟩ rfl Tryz.underlying33 shSize (fun w h j u hu => cell_under12 (CX.out j u hu) h)) hHeld ?_
        simp only [List.setIfInBounds_toArray, List.set_cons_zero, List.set_cons_succ]
        refine ready_one 11 (by kernel_rfl) ?_
        refine opH_c2 169 rfl rfl (by rfl) F (.tmp 158) (.tmp 164) (.tmp 168) 33 33 rfl rfl (.agg (shC y)) (.agg (shC x)) rfl rfl CMF.out.2 _ (CMF.out.1 y x _) ?_
        rintro x wz ⟨rfl, hb⟩
        refine ⟨_, rfl, below_next hHeld hb, ?_⟩
        replace hHeld := below_next hHeld hb
        rw [HC.out]
        clear hb
        simp only [List.setIfInBounds_toArray, List.set_cons_zero, List.set_cons_succ]
        refine take_at (i := 12) 170 rfl rfl (by kernel_rfl) (by kernel_rfl) (by kernel_rfl) (fun _ _ _ h => h) (sure_yes (by rfl) (fun w => by go_simp; try with_reducible rfl)) hHeld ?_
        simp only [List.setIfInBounds_toArray, List.set_cons_zero, List.set_cons_succ]
        refine take_at (i := 13) 171 rfl rfl (by kernel_rfl) (by kernel_rfl) (by kernel_rfl) (fun _ _ _ h => h) (sure_yes (by rfl) (fun w => by go_simp; try with_reducible rfl)) hHeld ?_
        simp only [List.setIfInBounds_toArray, List.set_cons_zero, List.set_cons_succ]
        refine wpAnyH_done (by kernel_rfl) ?_ _
        have Z := Lib.hid hHeld
        clear hHeld
        have OWN2 := Lib.hid (own_below OWN.out Z.out)
        have BEL2 := Lib.hid (below_in BEL.out HB0.out Z.out)
        generalize wz = w3 at *
        go_wp2
        refine ⟨⟨i, h, rfl, rfl, HN3.out.1, HN3.out.2.2.1, by have := HN3.out; omega, HLO.out, fun _ => ⟨x, y, HXH.out, by rw [← HN3.out.2.2.2.2]; exact HYH.out, HXY.out⟩, OWN2.out, BEL2.out⟩, ?_⟩
        have := HN3.out; simp [intOf] <;> omega
      · have q9 : decide (c < 0) = false := decide_eq_false hc0
        have HXY := Lib.hid (show leK Sh.path x y by unfold leK; rw [← HLT.out, HC.out]; exact q9)
        clear hc0
        go_upto_region 35 with fail
        refine wp_region_held_drew (S := fun w' => Below w2.heap.size w2 w') (by kernel_rfl) (drawS (Below.refl _ _)) (fun hHeld => ?_)
        generalize w2.drew = wd at hHeld ⊢
        refine take_at (i := 0) 158 rfl rfl (by kernel_rfl) (by kernel_rfl) (by kernel_rfl) (fun _ _ _ h => h) (sure_yes (by rfl) (fun w => by go_simp; try with_reducible rfl)) hHeld ?_
        simp only [List.setIfInBounds_toArray, List.set_cons_zero, List.set_cons_succ]
        refine take_at (i := 1) 159 rfl rfl (by kernel_rfl) (by kernel_rfl) (by kernel_rfl) (fun _ _ _ h => h) (sure_yes (by rfl) (fun w => by go_simp; try with_reducible rfl)) hHeld ?_
        simp only [List.setIfInBounds_toArray, List.set_cons_zero, List.set_cons_succ]
        refine take_at (i := 2) 160 rfl rfl (by kernel_rfl) (by kernel_rfl) (by kernel_rfl) (fun _ _ _ h => h) (sure_yes (by rfl) (fun w => by go_simp; try with_reducible rfl)) hHeld ?_
        simp only [List.setIfInBounds_toArray, List.set_cons_zero, List.set_cons_succ]
        refine take_at (i := 3) 161 rfl rfl (by kernel_rfl) (by kernel_rfl) (by kernel_rfl) (fun _ _ _ h => h) (sure_yes (by rfl) (fun w => by go_simp; try with_reducible rfl)) hHeld ?_
        simp only [List.setIfInBounds_toArray, List.set_cons_zero, List.set_cons_succ]
        refine take_at (i := 4) 162 rfl rfl (by kernel_rfl) (by kernel_rfl) (by kernel_rfl) (fun _ _ _ h => h) (sure_yes (by rfl) (fun w => by go_simp; try with_reducible rfl)) hHeld ?_
        simp only [List.setIfInBounds_toArray, List.set_cons_zero, List.set_cons_succ]
        refine take_at (i := 5) 163 rfl rfl (by kernel_rfl) (by kernel_rfl) (by kernel_rfl) (fun _ _ _ h => h) (sure_yes (by rfl) (fun w => by go_simp; try with_reducible rfl)) hHeld ?_
        simp only [List.setIfInBounds_toArray, List.set_cons_zero, List.set_cons_succ]
        refine take_at (i := 7) 165 rfl rfl (by kernel_rfl) (by kernel_rfl) (by kernel_rfl) (fun _ _ _ h => h) (sure_yes (by rfl) (fun w => by go_simp; try with_reducible rfl)) hHeld ?_
        simp only [List.setIfInBounds_toArray, List.set_cons_zero, List.set_cons_succ]
        refine take_at (i := 8) 166 rfl rfl (by kernel_rfl) (by kernel_rfl) (by kernel_rfl) (fun _ _ _ h => h) (sure_yes (by rfl) (fun w => by go_simp; try with_reducible rfl)) hHeld ?_
        simp only [List.setIfInBounds_toArray, List.set_cons_zero, List.set_cons_succ]
        refine take_at (i := 9) 167 rfl rfl (by kernel_rfl) (by kernel_rfl) (by kernel_rfl) (fun _ _ _ h => h) (sure_yes (by rfl) (fun w => by go_simp; try with_reducible rfl)) hHeld ?_
        simp only [List.setIfInBounds_toArray, List.set_cons_zero, List.set_cons_succ]
        refine take_at (i := 6) 164 rfl rfl (by kernel_rfl) (by kernel_rfl) (by kernel_rfl) (fun _ _ _ h => h) (shA_yields (by rfl) 33 (.tmp 163) rfl ⟨g, v * 36, none⟩ rfl Tryz.underlying33 shSize (fun w h j u hu => cell_under12 (CY.out j u hu) h)) hHeld ?_
        simp only [List.setIfInBounds_toArray, List.set_cons_zero, List.set_cons_succ]
        refine take_at (i := 10) 168 rfl rfl (by kernel_rfl) (by kernel_rfl) (by kernel_rfl) (fun _ _ _ h => h) (shA_yields (by rfl) 33 (.tmp 167) rfl ⟨g, h * 36, none⟩ rfl Tryz.underlying33 shSize (fun w h j u hu => cell_under12 (CX.out j u hu) h)) hHeld ?_
        simp only [List.setIfInBounds_toArray, List.set_cons_zero, List.set_cons_succ]
        refine ready_one 11 (by kernel_rfl) ?_
        refine opH_c2 169 rfl rfl (by rfl) F (.tmp 158) (.tmp 164) (.tmp 168) 33 33 rfl rfl (.agg (shC y)) (.agg (shC x)) rfl rfl CMF.out.2 _ (CMF.out.1 y x _) ?_
        rintro x wz ⟨rfl, hb⟩
        refine ⟨_, rfl, below_next hHeld hb, ?_⟩
        replace hHeld := below_next hHeld hb
        rw [HC.out]
        clear hb
        simp only [List.setIfInBounds_toArray, List.set_cons_zero, List.set_cons_succ]
        refine take_at (i := 12) 170 rfl rfl (by kernel_rfl) (by kernel_rfl) (by kernel_rfl) (fun _ _ _ h => h) (sure_yes (by rfl) (fun w => by go_simp; try with_reducible rfl)) hHeld ?_
        simp only [List.setIfInBounds_toArray, List.set_cons_zero, List.set_cons_succ]
        refine take_at (i := 13) 171 rfl rfl (by kernel_rfl) (by kernel_rfl) (by kernel_rfl) (fun _ _ _ h => h) (sure_yes (by rfl) (fun w => by go_simp; try with_reducible rfl)) hHeld ?_
        simp only [List.setIfInBounds_toArray, List.set_cons_zero, List.set_cons_succ]
        refine wpAnyH_done (by kernel_rfl) ?_ _
        have Z := Lib.hid hHeld
        clear hHeld
        have OWN2 := Lib.hid (own_below OWN.out Z.out)
        have BEL2 := Lib.hid (below_in BEL.out HB0.out Z.out)
        generalize wz = w3 at *
        go_wp2
        refine ⟨⟨h + 1, r, by go_num, rfl, by have := HN3.out; omega, by have := HN3.out; omega, HN3.out.2.1, fun _ => ⟨x, y, HXH.out, by rw [show h + 1 - 1 = h by omega, ← HN3.out.2.2.2.2]; exact HYH.out, HXY.out⟩, HHI.out, OWN2.out, BEL2.out⟩, ?_⟩
        have := HN3.out; simp [intOf] <;> omega
    · obtain rfl : i = r := by omega
      have q1 : ¬ (i : Int) < (i : Int) := by omega
      obtain ⟨en, hen⟩ : ∃ en, en = nn - i := ⟨_, rfl⟩
      have q2 : (nn : Int) - (i : Int) = (en : Int) := by omega
      have q3 : IntKind.i64.wrap (en : Int) = (en : Int) := by rw [IntKind.wrap_i64]; omega
      have hX2 : i - a ≤ X.length := by omega
      have hY2 : en - m ≤ Y.length := by omega
      have hat : ∀ k, k < X.length → (P ++ (X ++ (Y ++ Q)))[P.length + k]? = X[k]? := fun k hk => by
        rw [List.getElem?_append_right (by omega), Nat.add_sub_cancel_left, List.getElem?_append_left hk]
      have hbt : ∀ k, k < Y.length → (P ++ (X ++ (Y ++ Q)))[P.length + X.length + k]? = Y[k]? := fun k hk => by
        rw [List.getElem?_append_right (by omega), List.getElem?_append_right (by omega), List.getElem?_append_left (by omega)]; congr 1; omega
      have hLT := cross_lt (d := i - a) (e := en - m) HSX.out HSY.out hY2 (fun h1 h2 => by
        obtain ⟨x, y, e1, e2, e3⟩ := HHI.out (by omega)
        refine ⟨x, y, ?_, ?_, e3⟩
        · rw [← hat _ h1, show P.length + (i - a) = i by omega]; exact e1
        · rw [← hbt _ (by omega), show P.length + X.length + (en - m - 1) = p - i by omega]; exact e2)
      have hLE := cross_le (d := i - a) (e := en - m) HSX.out HSY.out hX2 (fun h1 h2 => by
        obtain ⟨x, y, e1, e2, e3⟩ := HLO.out (by omega)
        refine ⟨x, y, ?_, ?_, e3⟩
        · rw [← hat _ (by omega), show P.length + (i - a - 1) = i - 1 by omega]; exact e1
        · rw [← hbt _ h2, show P.length + X.length + (en - m) = p - (i - 1) by omega]; exact e2)
      have eX := List.take_append_drop (i - a) X
      have eY := List.take_append_drop (en - m) Y
      have lX1 : (X.take (i - a)).length = i - a := by rw [List.length_take]; omega
      have lX2 : (X.drop (i - a)).length = m - i := by rw [List.length_drop]; omega
      have lY1 : (Y.take (en - m)).length = md - i := by rw [List.length_take]; omega
      have lY2 : (Y.drop (en - m)).length = b - en := by rw [List.length_drop]; omega
      generalize X.take (i - a) = X1 at *
      generalize X.drop (i - a) = X2 at *
      generalize Y.take (en - m) = Y1 at *
      generalize Y.drop (en - m) = Y2 at *
      have HB9 := Lib.hid (show (a = P.length ∧ en + i = md + m ∧ a < m ∧ m < b ∧ a ≤ i ∧ i ≤ m ∧ m ≤ en ∧ en ≤ b ∧ i ≤ md ∧ md ≤ en ∧ a < md ∧ md < b) ∧ (md < m) ∧ (a + X1.length = i ∧ i + X2.length = m ∧ i + Y1.length = md ∧ en + Y2.length = b ∧ m + Y1.length = en ∧ md + X2.length = en) ∧ X.length = X1.length + X2.length ∧ Y.length = Y1.length + Y2.length by
        have l1 := congrArg List.length eX
        have l2 := congrArg List.length eY
        rw [List.length_append] at l1 l2
        have := HL.out
        omega)
      have HEX := Lib.hid eX
      have HEY := Lib.hid eY
      have HLT9 := Lib.hid hLT
      have HLE9 := Lib.hid hLE
      have OWN1 := Lib.hid (show w2.ownsRow B 33 36 (.slice (some ⟨g, 0, none⟩) n cap) n (shsC (P ++ X1 ++ X2 ++ Y1 ++ (Y2 ++ Q))) by
        have h := OWN.out
        rw [← eX, ← eY] at h
        simpa only [List.append_assoc] using h)
      clear eX eY hLT hLE lX1 lX2 lY1 lY2 hat hbt hX2 hY2 hen HLO HHI OWN hir hsi hrr hs hbn ha hm hb n3 n4 n5 n6 hlt
      by_cases hcase1 : i < md
      · have z0 : (i : Int) < (m : Int) := by have := HB9.out; omega
        have z1 : (md : Int) < (en : Int) := by have := HB9.out; omega
        have z2 : (m : Int) < (en : Int) := by have := HB9.out; omega
        have z3 : (i : Int) < (md : Int) := by have := HB9.out; omega
        clear hcase1
        have ROT1 := Lib.hid (fun u => rotSh_any (P ++ X1) X2 Y1 (Y2 ++ Q) i m en n cap g B (by have := HB9.out; omega) (by have := HB9.out; omega) (by have := HB9.out; rw [List.length_append]; omega) (by have := HB9.out; rw [List.length_append]; omega) (by have := HB9.out; rw [List.length_append]; omega) hn5 u _ OWN1.out)
        go_upto_region 41 with (first
          | (go_at_call 131; refine (ROT1.out _).mono ?_; rintro x w4 ⟨rfl, h1, h2⟩; have OWN2 := Lib.hid (show w4.ownsRow B 33 36 (.slice (some ⟨g, 0, none⟩) n cap) n (shsC (P ++ (X1 ++ (Y1 ++ (X2 ++ (Y2 ++ Q)))))) by simpa only [List.append_assoc] using h1); have BEL2 := Lib.hid (BEL.out.trans h2); clear h1 h2))
        clear ROT1
        clear OWN1 BEL
        by_cases hcase2 : a < i
        · have z10 : (a : Int) < (i : Int) := by have := HB9.out; omega
          try clear hcase2
          have RE2 := Lib.hid (fun w hw => REC.out P X1 Y1 (X2 ++ (Y2 ++ Q)) a i md (by have := HB9.out; omega) (by have := HB9.out; omega) (by have := HB9.out; omega) (by have h := HSX.out; rw [← HEX.out] at h; exact (sorted_append.1 h).1) (by have h := HSY.out; rw [← HEY.out] at h; exact (sorted_append.1 h).1) HB9.out.1.1 (by have := HB9.out; omega) (by have := HB9.out; omega) w hw)
          go_upto_region 43 with (first
            | (go_at_call 105; refine (RE2.out _ OWN2.out).mono ?_; rintro x w5 ⟨rfl, S1, h0, h1, h2⟩; have HS1 := Lib.hid h0; have OWN3 := Lib.hid h1; have BEL3 := Lib.hid (BEL2.out.trans h2); clear h0 h1 h2))
          clear RE2
          by_cases hcase3 : en < b
          · have z20 : (en : Int) < (b : Int) := by have := HB9.out; omega
            try clear hcase3
            clear OWN2 BEL2
            have HLS := Lib.hid (show S1.length = X1.length + Y1.length by rw [HS1.out.2.2, List.length_append])
            have HFIN := Lib.hid (fun S2 (h : StableK Sh.path (X2 ++ Y2) S2) => (show StableK Sh.path (X ++ Y) (S1 ++ S2) from by
              have hx := HSX.out
              have hy := HSY.out
              rw [← HEX.out] at hx
              rw [← HEY.out] at hy
              have h0 := stable_cut hx hy HLT9.out HLE9.out HS1.out h
              rwa [HEX.out, HEY.out] at h0))
            have RO := Lib.hid (fun w hw => REC.out (P ++ S1) X2 Y2 Q md en b (by have := HB9.out; omega) (by have := HB9.out; omega) (by have := HB9.out; omega) (by have h := HSX.out; rw [← HEX.out] at h; exact (sorted_append.1 h).2.1) (by have h := HSY.out; rw [← HEY.out] at h; exact (sorted_append.1 h).2.1) (by have := HB9.out; have := HLS.out; rw [List.length_append]; omega) (by have := HB9.out; have := HLS.out; rw [List.length_append]; omega) (by have := HB9.out; have := HLS.out; rw [List.length_append]; omega) w hw)
            go_wp2_with (first
              | (go_at_call 105; refine (RO.out _ OWN3.out).mono ?_; rintro x w6 ⟨rfl, S2, h0, h1, h2⟩; have E0 := Lib.hid h0; have E1 := Lib.hid h1; have E2 := Lib.hid (BEL3.out.trans h2); clear h0 h1 h2))
            all_goals refine bodyPost_end (results_none rfl _ _ _) rfl ?_
            all_goals exact ⟨rfl, S1 ++ S2, HFIN.out S2 E0.out, (by have h := E1.out; simpa only [List.append_assoc] using h), E2.out⟩
          · have z20 : ¬ (en : Int) < (b : Int) := by have := HB9.out; omega
            try clear hcase3
            clear OWN2 BEL2
            have HLS := Lib.hid (show S1.length = X1.length + Y1.length by rw [HS1.out.2.2, List.length_append])
            have HFIN := Lib.hid (fun S2 (h : StableK Sh.path (X2 ++ Y2) S2) => (show StableK Sh.path (X ++ Y) (S1 ++ S2) from by
              have hx := HSX.out
              have hy := HSY.out
              rw [← HEX.out] at hx
              rw [← HEY.out] at hy
              have h0 := stable_cut hx hy HLT9.out HLE9.out HS1.out h
              rwa [HEX.out, HEY.out] at h0))
            have HQ := Lib.hid (show SortedK Sh.path (X2 ++ Y2) by
              have hx := HSX.out
              have hy := HSY.out
              rw [← HEX.out] at hx
              rw [← HEY.out] at hy
              have h1 := (sorted_append.1 hx).2.1
              have h2 := (sorted_append.1 hy).2.1
              have := HB9.out
              rcases Nat.eq_zero_or_pos X2.length with h | h
              · rw [List.eq_nil_of_length_eq_zero h]; exact h2
              · rw [List.eq_nil_of_length_eq_zero (show Y2.length = 0 by omega), List.append_nil]; exact h1)
            go_wp2_with fail
            all_goals refine bodyPost_end (results_none rfl _ _ _) rfl ?_
            all_goals exact ⟨rfl, S1 ++ (X2 ++ Y2), HFIN.out _ (stable_sorted HQ.out), (by have h := OWN3.out; simpa only [List.append_assoc] using h), BEL3.out⟩
        · have z10 : ¬ (a : Int) < (i : Int) := by have := HB9.out; omega
          try clear hcase2
          obtain ⟨S1, hS1⟩ : ∃ S, S = X1 ++ Y1 := ⟨_, rfl⟩
          have HS1 := Lib.hid (show StableK Sh.path (X1 ++ Y1) S1 by
            have hx := HSX.out
            have hy := HSY.out
            rw [← HEX.out] at hx
            rw [← HEY.out] at hy
            have h1 := (sorted_append.1 hx).1
            have h2 := (sorted_append.1 hy).1
            have := HB9.out
            rw [hS1]
            refine stable_sorted ?_
            rcases Nat.eq_zero_or_pos X1.length with h | h
            · rw [List.eq_nil_of_length_eq_zero h]; exact h2
            · rw [List.eq_nil_of_length_eq_zero (show Y1.length = 0 by omega), List.append_nil]; exact h1)
          have OWN3 := Lib.hid (show _ from by have h := OWN2.out; rw [← List.append_assoc X1, ← hS1, ← List.append_assoc P] at h; exact h)
          have BEL3 := Lib.hid BEL2.out
          clear hS1
          by_cases hcase3 : en < b
          · have z20 : (en : Int) < (b : Int) := by have := HB9.out; omega
            try clear hcase3
            clear OWN2 BEL2
            have HLS := Lib.hid (show S1.length = X1.length + Y1.length by rw [HS1.out.2.2, List.length_append])
            have HFIN := Lib.hid (fun S2 (h : StableK Sh.path (X2 ++ Y2) S2) => (show StableK Sh.path (X ++ Y) (S1 ++ S2) from by
              have hx := HSX.out
              have hy := HSY.out
              rw [← HEX.out] at hx
              rw [← HEY.out] at hy
              have h0 := stable_cut hx hy HLT9.out HLE9.out HS1.out h
              rwa [HEX.out, HEY.out] at h0))
            have RO := Lib.hid (fun w hw => REC.out (P ++ S1) X2 Y2 Q md en b (by have := HB9.out; omega) (by have := HB9.out; omega) (by have := HB9.out; omega) (by have h := HSX.out; rw [← HEX.out] at h; exact (sorted_append.1 h).2.1) (by have h := HSY.out; rw [← HEY.out] at h; exact (sorted_append.1 h).2.1) (by have := HB9.out; have := HLS.out; rw [List.length_append]; omega) (by have := HB9.out; have := HLS.out; rw [List.length_append]; omega) (by have := HB9.out; have := HLS.out; rw [List.length_append]; omega) w hw)
            go_wp2_with (first
              | (go_at_call 105; refine (RO.out _ OWN3.out).mono ?_; rintro x w6 ⟨rfl, S2, h0, h1, h2⟩; have E0 := Lib.hid h0; have E1 := Lib.hid h1; have E2 := Lib.hid (BEL3.out.trans h2); clear h0 h1 h2))
            all_goals refine bodyPost_end (results_none rfl _ _ _) rfl ?_
            all_goals exact ⟨rfl, S1 ++ S2, HFIN.out S2 E0.out, (by have h := E1.out; simpa only [List.append_assoc] using h), E2.out⟩
          · have z20 : ¬ (en : Int) < (b : Int) := by have := HB9.out; omega
            try clear hcase3
            clear OWN2 BEL2
            have HLS := Lib.hid (show S1.length = X1.length + Y1.length by rw [HS1.out.2.2, List.length_append])
            have HFIN := Lib.hid (fun S2 (h : StableK Sh.path (X2 ++ Y2) S2) => (show StableK Sh.path (X ++ Y) (S1 ++ S2) from by
              have hx := HSX.out
              have hy := HSY.out
              rw [← HEX.out] at hx
              rw [← HEY.out] at hy
              have h0 := stable_cut hx hy HLT9.out HLE9.out HS1.out h
              rwa [HEX.out, HEY.out] at h0))
            have HQ := Lib.hid (show SortedK Sh.path (X2 ++ Y2) by
              have hx := HSX.out
              have hy := HSY.out
              rw [← HEX.out] at hx
              rw [← HEY.out] at hy
              have h1 := (sorted_append.1 hx).2.1
              have h2 := (sorted_append.1 hy).2.1
              have := HB9.out
              rcases Nat.eq_zero_or_pos X2.length with h | h
              · rw [List.eq_nil_of_length_eq_zero h]; exact h2
              · rw [List.eq_nil_of_length_eq_zero (show Y2.length = 0 by omega), List.append_nil]; exact h1)
            go_wp2_with fail
            all_goals refine bodyPost_end (results_none rfl _ _ _) rfl ?_
            all_goals exact ⟨rfl, S1 ++ (X2 ++ Y2), HFIN.out _ (stable_sorted HQ.out), (by have h := OWN3.out; simpa only [List.append_assoc] using h), BEL3.out⟩
      · have z0 : (i : Int) < (m : Int) := by have := HB9.out; omega
        have z1 : (md : Int) < (en : Int) := by have := HB9.out; omega
        have z2 : ¬ (m : Int) < (en : Int) := by have := HB9.out; omega
        have z3 : (a : Int) < (i : Int) := by have := HB9.out; omega
        have z4 : ¬ (i : Int) < (md : Int) := by have := HB9.out; omega
        clear hcase1
        have OWN2 := Lib.hid (show w2.ownsRow B 33 36 (.slice (some ⟨g, 0, none⟩) n cap) n (shsC (P ++ (X1 ++ (Y1 ++ (X2 ++ (Y2 ++ Q)))))) by
          have h := OWN1.out
          have := HB9.out
          have e : X2 = [] ∨ Y1 = [] := by
            rcases Nat.eq_zero_or_pos X2.length with h | h
            · exact .inl (List.eq_nil_of_length_eq_zero h)
            · exact .inr (List.eq_nil_of_length_eq_zero (by omega))
          rcases e with e | e
          · subst e; simpa only [List.append_assoc, List.nil_append, List.append_nil] using h
          · subst e; simpa only [List.append_assoc, List.nil_append, List.append_nil] using h)
        have BEL2 := Lib.hid BEL.out
        clear OWN1 BEL
        try clear hcase2
        obtain ⟨S1, hS1⟩ : ∃ S, S = X1 ++ Y1 := ⟨_, rfl⟩
        have HS1 := Lib.hid (show StableK Sh.path (X1 ++ Y1) S1 by
          have hx := HSX.out
          have hy := HSY.out
          rw [← HEX.out] at hx
          rw [← HEY.out] at hy
          have h1 := (sorted_append.1 hx).1
          have h2 := (sorted_append.1 hy).1
          have := HB9.out
          rw [hS1]
          refine stable_sorted ?_
          rcases Nat.eq_zero_or_pos X1.length with h | h
          · rw [List.eq_nil_of_length_eq_zero h]; exact h2
          · rw [List.eq_nil_of_length_eq_zero (show Y1.length = 0 by omega), List.append_nil]; exact h1)
        have OWN3 := Lib.hid (show _ from by have h := OWN2.out; rw [← List.append_assoc X1, ← hS1, ← List.append_assoc P] at h; exact h)
        have BEL3 := Lib.hid BEL2.out
        clear hS1
        by_cases hcase3 : en < b
        · have z20 : (en : Int) < (b : Int) := by have := HB9.out; omega
          try clear hcase3
          clear OWN2 BEL2
          have HLS := Lib.hid (show S1.length = X1.length + Y1.length by rw [HS1.out.2.2, List.length_append])
          have HFIN := Lib.hid (fun S2 (h : StableK Sh.path (X2 ++ Y2) S2) => (show StableK Sh.path (X ++ Y) (S1 ++ S2) from by
            have hx := HSX.out
            have hy := HSY.out
            rw [← HEX.out] at hx
            rw [← HEY.out] at hy
            have h0 := stable_cut hx hy HLT9.out HLE9.out HS1.out h
            rwa [HEX.out, HEY.out] at h0))
          have RO := Lib.hid (fun w hw => REC.out (P ++ S1) X2 Y2 Q md en b (by have := HB9.out; omega) (by have := HB9.out; omega) (by have := HB9.out; omega) (by have h := HSX.out; rw [← HEX.out] at h; exact (sorted_append.1 h).2.1) (by have h := HSY.out; rw [← HEY.out] at h; exact (sorted_append.1 h).2.1) (by have := HB9.out; have := HLS.out; rw [List.length_append]; omega) (by have := HB9.out; have := HLS.out; rw [List.length_append]; omega) (by have := HB9.out; have := HLS.out; rw [List.length_append]; omega) w hw)
          go_wp2_with (first
            | (go_at_call 105; refine (RO.out _ OWN3.out).mono ?_; rintro x w6 ⟨rfl, S2, h0, h1, h2⟩; have E0 := Lib.hid h0; have E1 := Lib.hid h1; have E2 := Lib.hid (BEL3.out.trans h2); clear h0 h1 h2))
          all_goals refine bodyPost_end (results_none rfl _ _ _) rfl ?_
          all_goals exact ⟨rfl, S1 ++ S2, HFIN.out S2 E0.out, (by have h := E1.out; simpa only [List.append_assoc] using h), E2.out⟩
        · have z20 : ¬ (en : Int) < (b : Int) := by have := HB9.out; omega
          try clear hcase3
          clear OWN2 BEL2
          have HLS := Lib.hid (show S1.length = X1.length + Y1.length by rw [HS1.out.2.2, List.length_append])
          have HFIN := Lib.hid (fun S2 (h : StableK Sh.path (X2 ++ Y2) S2) => (show StableK Sh.path (X ++ Y) (S1 ++ S2) from by
            have hx := HSX.out
            have hy := HSY.out
            rw [← HEX.out] at hx
            rw [← HEY.out] at hy
            have h0 := stable_cut hx hy HLT9.out HLE9.out HS1.out h
            rwa [HEX.out, HEY.out] at h0))
          have HQ := Lib.hid (show SortedK Sh.path (X2 ++ Y2) by
            have hx := HSX.out
            have hy := HSY.out
            rw [← HEX.out] at hx
            rw [← HEY.out] at hy
            have h1 := (sorted_append.1 hx).2.1
            have h2 := (sorted_append.1 hy).2.1
            have := HB9.out
            rcases Nat.eq_zero_or_pos X2.length with h | h
            · rw [List.eq_nil_of_length_eq_zero h]; exact h2
            · rw [List.eq_nil_of_length_eq_zero (show Y2.length = 0 by omega), List.append_nil]; exact h1)
          go_wp2_with fail
          all_goals refine bodyPost_end (results_none rfl _ _ _) rfl ?_
          all_goals exact ⟨rfl, S1 ++ (X2 ++ Y2), HFIN.out _ (stable_sorted HQ.out), (by have h := OWN3.out; simpa only [List.append_assoc] using h), BEL3.out⟩
end Go.Proofs.YtppmbdpfledejaaGreatDoor
