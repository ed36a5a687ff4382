/-
Texts that all claims of this seat share, part 3: RefHistory, Float, DotHold, DotSmall, VecCounts, VecMade, VecSmall.
-/
import Derived.Deep.DeepCutAuto
import Derived.Laws.FloatArith
import Derived.WalkLawsBesides
import Derived.Test.YthkojphgjlojgaaDoorPk2
namespace Go.Proofs.YthkojphgjlojgaaDoor
open Go.RowKit
set_option maxRecDepth 100000 in
set_option maxHeartbeats 16000000 in
theorem history_any (l : List DeedT) (hs : ∀ x ∈ l, x.who < 256 ∧ x.other < 256 ∧ x.path < 256 ∧ x.size < 256) (v : Value) (w : World) (hv : HasDeeds w v l) : Calls Tryd.prog 7 #[v] w fun x w' => ∃ vo, ∃ a : Nat → Value, x = .returned (.tuple #[vo, .agg #[a 0, a 1, a 2]]) ∧ HasEvs w' vo (histN l).out ∧ (∀ j, j < 3 → TypDots w' (a j) ((histN l).know j)) ∧ Below w.heap.size w w' := by
  have HS := Lib.hid hs
  have HV := Lib.hid hv
  obtain ⟨n, hn⟩ : ∃ n, n = l.length := ⟨_, rfl⟩
  obtain ⟨ao, cap, rfl⟩ := deeds_shape hv n hn
  have HN := Lib.hid hn
  clear hs hv hn
  go_enter Tryd.func7, Tryd.ntmps7
  go_wp2
  have hk1 := heap_last (w.alloc (.cells #[.slice none 0 0, .slice none 0 0, .slice none 0 0] 27 (0, 0))) (.cells #[.slice none 0 0, .slice none 0 0, .slice none 0 0] 27 (0, 0))
  have HI := Lib.hid (show HistAt w (((w.alloc (.cells #[.slice none 0 0, .slice none 0 0, .slice none 0 0] 27 (0, 0))).alloc (.cells #[.slice none 0 0, .slice none 0 0, .slice none 0 0] 27 (0, 0))).alloc (.cells #[.string ⟨#[97]⟩, .string ⟨#[97, 47, 98]⟩, .string ⟨#[99]⟩, .string ⟨#[100]⟩] 9 (0, 0))) hist0 (.slice none 0 0) from hist_start w)
  clear hk1
  go_loopw [5, 7, 8, 9, 10] (fun o c _ _ _ wr => ∃ k : Nat, k ≤ n ∧ k ≤ 40 ∧ c = .int .i64 (k : Int) ∧ HistAt w wr ((l.take k).foldl stepH hist0) o) (fun _ c _ _ _ _ => 40 - (intOf c).toNat)
  case atStart => exact ⟨0, by omega, by omega, rfl, HI.out⟩
  case round =>
    obtain ⟨k, hkn, hk40, rfl, hh⟩ := hrel
    have HH := Lib.hid hh
    by_cases hr : k < n ∧ k < 40
    · have q0 : (k : Int) < (n : Int) := by omega
      have q1 : (k : Int) < 40 := by omega
      obtain ⟨d, hd⟩ : ∃ d, l[k]? = some d := ⟨_, List.getElem?_eq_getElem (by have := HN.out; omega)⟩
      obtain ⟨a, us, hus, hown, hres, hkn2, htyp, hpaths, hsz, hbel⟩ := hh
      obtain ⟨ad, cap', e, hdc⟩ := deeds_at (deeds_below HV.out hbel) n k HN.out.symm d hd
      cases e
      obtain ⟨b1, b2, b3, b4⟩ := HS.out d (List.mem_of_getElem? hd)
      obtain ⟨i, hi⟩ : ∃ i, i = d.who % 3 := ⟨_, rfl⟩
      obtain ⟨oo, hoo⟩ : ∃ j, j = d.other % 3 := ⟨_, rfl⟩
      have hi3 : i < 3 := by omega
      have ho3 : oo < 3 := by omega
      have q3 : (i : Int) < 3 := by omega
      have q4 : (oo : Int) < 3 := by omega
      obtain ⟨wa, ta, ea⟩ := deed_nums d.who 3 b1
      obtain ⟨wo, tq, eo⟩ := deed_nums d.other 3 b2
      have wo2 : IntKind.i64.wrap (d.other : Int) = (d.other : Int) := deed_wrap _ b2
      rw [← hi] at ta ea
      rw [← hoo] at tq eo
      have ta' : (d.who : Int).tmod 3 = (i : Int) := ta
      have ea' : (d.who : Int) % 3 = (i : Int) := ea
      have tq' : (d.other : Int).tmod 3 = (oo : Int) := tq
      have eo' : (d.other : Int) % 3 = (oo : Int) := eo
      have HIO := Lib.hid (And.intro hi (And.intro hoo (And.intro hi3 ho3)))
      clear ta ea tq eo hi hoo hi3 ho3
      have HDC := Lib.hid hdc
      have HD := Lib.hid hd
      have HB := Lib.hid (And.intro b1 (And.intro b2 (And.intro b3 b4)))
      have HO := Lib.hid hown
      have HR := Lib.hid (And.intro hres (And.intro hkn2 (And.intro hpaths hsz)))
      have HY := Lib.hid htyp
      have HU := Lib.hid hus
      have HBL := Lib.hid hbel
      clear hdc hd b1 b2 b3 b4 hown hres hkn2 hpaths hsz htyp hus hbel
      go_upto_region 9 with (first
        | (refine load_deed (by rfl) 56 (.tmp 24) rfl (ad.add (k * 6)) rfl Tryd.underlying56 deedSize HDC.out ?_))
      have hbw := (Below.refl wr.heap.size wr).alloc (Nat.le_refl _) (.cells #[.int .u8 (d.who : Int), .int .u8 (d.other : Int), .int .u8 (d.path : Int), .bool d.learns, .bool d.gone, .int .u8 (d.size : Int)] 56 (0, 0))
      have HD1 := Lib.hid (heap_last wr (.cells #[.int .u8 (d.who : Int), .int .u8 (d.other : Int), .int .u8 (d.path : Int), .bool d.learns, .bool d.gone, .int .u8 (d.size : Int)] 56 (0, 0)))
      have HR1 := Lib.hid (And.intro (row_kept HR.out.1 hbw) (And.intro (row_kept HR.out.2.1 hbw) (And.intro (row_kept HR.out.2.2.1 hbw) (Nat.le_trans HR.out.2.2.2 hbw.size))))
      have HY1 := Lib.hid (fun j hj => typ_below (HY.out j hj) hbw)
      have HO1 := Lib.hid (show OwnEvs _ _ _ us from ⟨own_below HO.out.1 hbw, fun x hx => typ_below (HO.out.2 x hx) hbw⟩)
      have HB1 := Lib.hid (below_next HBL.out hbw)
      have HLT := Lib.hid (show w.heap.size + 3 ≤ wr.heap.size from HR.out.2.2.2)
      clear hbw
      generalize wr.alloc (.cells #[.int .u8 (d.who : Int), .int .u8 (d.other : Int), .int .u8 (d.path : Int), .bool d.learns, .bool d.gone, .int .u8 (d.size : Int)] 56 (0, 0)) = W1 at *
      have c3 : W1.cell? ⟨wr.heap.size, 3, none⟩ = some (.bool d.learns) := (cell_of_row _ _ 3 _ _ _ HD1.out).trans rfl
      cases hL : d.learns with
      | true =>
        rw [hL] at c3
        go_upto_region 10 with fail
        obtain ⟨nn, hinv⟩ := inv_take l (fun x hx => (HS.out x hx).2.2.2) k hk40
        have JN := Lib.hid (fun v u w hv hu => refJoin_typ10 (((l.take k).foldl stepH hist0).know i) (((l.take k).foldl stepH hist0).know oo) (know_len hinv HIO.out.2.2.1) (know_len hinv HIO.out.2.2.2) v u w hv hu)
        clear hinv
        generalize hgen : (l.take k).foldl stepH hist0 = h at *
        obtain ⟨ai, ci, hai⟩ := dots_shape (HY1.out i HIO.out.2.2.1).1 _ rfl
        obtain ⟨aj, cj, haj⟩ := dots_shape (HY1.out oo HIO.out.2.2.2).1 _ rfl
        have HAI := Lib.hid hai
        have HAJ := Lib.hid haj
        have HG := Lib.hid hgen
        clear hai haj hgen
        refine wp_region_held_drew (S := fun w' => Below w.heap.size w w' ∧ w'.heap[wr.heap.size]? = some (.cells #[.int .u8 (d.who : Int), .int .u8 (d.other : Int), .int .u8 (d.path : Int), .bool d.learns, .bool d.gone, .int .u8 (d.size : Int)] 56 (0, 0))) (by kernel_rfl) ⟨drawS HB1.out, HD1.out⟩ (fun hHeld => ?_)
        have hdr : Below W1.heap.size W1 W1.drew := drawS (Below.refl _ _)
        have RD := Lib.hid (show W1.drew.heap[w.heap.size]? = _ ∧ W1.drew.heap[w.heap.size + 1]? = _ ∧ W1.drew.heap[w.heap.size + 2]? = _ ∧ w.heap.size + 3 ≤ W1.drew.heap.size from HR1.out)
        have YD := Lib.hid (fun j hj => typ_below (HY1.out j hj) hdr)
        have OD := Lib.hid (show OwnEvs _ _ _ us from ⟨own_below HO1.out.1 hdr, fun x hx => typ_below (HO1.out.2 x hx) hdr⟩)
        clear hdr
        generalize W1.drew = wd at *
        refine take_at (i := 0) 32 rfl rfl (by kernel_rfl) (by kernel_rfl) (by kernel_rfl) (fun _ _ _ h => h) (sure_yes (by rfl) (fun w => by go_simp; try with_reducible rfl)) hHeld ?_
        simp only [List.setIfInBounds_toArray, List.set_cons_zero, List.set_cons_succ]
        refine take_at (i := 1) 33 rfl rfl (by kernel_rfl) (by kernel_rfl) (by kernel_rfl) (fun _ _ _ h => h) (sure_yes (by rfl) (fun w => by go_simp; try with_reducible rfl)) hHeld ?_
        simp only [List.setIfInBounds_toArray, List.set_cons_zero, List.set_cons_succ]
        refine take_at (i := 2) 34 rfl rfl (by kernel_rfl) (by kernel_rfl) (by kernel_rfl) (fun _ _ _ h => h) (sure_yes (by rfl) (fun w => by go_simp; try with_reducible rfl)) hHeld ?_
        simp only [List.setIfInBounds_toArray, List.set_cons_zero, List.set_cons_succ]
        refine take_at (i := 4) 36 rfl rfl (by kernel_rfl) (by kernel_rfl) (by kernel_rfl) (fun _ _ _ h => h) (sure_yes (by rfl) (fun w => by go_simp; try with_reducible rfl)) hHeld ?_
        simp only [List.setIfInBounds_toArray, List.set_cons_zero, List.set_cons_succ]
        refine take_at (i := 5) 37 rfl rfl (by kernel_rfl) (by kernel_rfl) (by kernel_rfl) (fun _ _ _ h => h) (cell_yields (by rfl) 5 (.tmp 36) rfl wr.heap.size 1 rfl .u8 _ Tryd.underlying5 (fun _ h => (cell_of_row _ _ 1 _ _ _ h.2).trans rfl)) hHeld ?_
        simp only [List.setIfInBounds_toArray, List.set_cons_zero, List.set_cons_succ]
        refine take_at (i := 6) 38 rfl rfl (by kernel_rfl) (by kernel_rfl) (by kernel_rfl) (fun _ _ _ h => h) (sure_yes (by rfl) (fun w => by go_simp; try with_reducible rfl)) hHeld ?_
        simp only [List.setIfInBounds_toArray, List.set_cons_zero, List.set_cons_succ]
        refine take_at (i := 7) 39 rfl rfl (by kernel_rfl) (by kernel_rfl) (by kernel_rfl) (fun _ _ _ h => h) (sure_yes (by rfl) (fun w => by go_simp; try with_reducible rfl)) hHeld ?_
        simp only [List.setIfInBounds_toArray, List.set_cons_zero, List.set_cons_succ]
        refine take_at (i := 8) 40 rfl rfl (by kernel_rfl) (by kernel_rfl) (by kernel_rfl) (fun _ _ _ h => h) (sure_yes (by rfl) (fun w => by go_simp; try with_reducible rfl)) hHeld ?_
        simp only [List.setIfInBounds_toArray, List.set_cons_zero, List.set_cons_succ]
        refine wpAnyH_ready (rs := [3, 9]) (by kernel_rfl) (by simp) ?_
        refine AllReadyH.cons rfl (fun CONT hCONT => ?_) (AllReadyH.cons rfl (fun CONT hCONT => ?_) (AllReadyH.nil))
        · refine load_cell_at 35 rfl (by rfl) 26 (.tmp 34) rfl ⟨w.heap.size + 1, i, none⟩ rfl ai _ ci Tryd.underlying26 (by rw [← HAI.out]; exact know_cell RD.out.2.1 HIO.out.2.2.1) ?_
          refine hCONT.out _ _ hHeld (fun hHeld => ?_)
          clear hCONT CONT
          simp only [List.setIfInBounds_toArray, List.set_cons_zero, List.set_cons_succ]
          refine wpAnyH_ready (rs := [9]) (by kernel_rfl) (by simp) ?_
          refine AllReadyH.cons rfl (fun CONT hCONT => ?_) AllReadyH.nil
          refine load_cell_at 41 rfl (by rfl) 26 (.tmp 40) rfl ⟨w.heap.size + 1, oo, none⟩ rfl aj _ cj Tryd.underlying26 (by rw [← HAJ.out]; exact know_cell RD.out.2.1 HIO.out.2.2.2) ?_
          refine hCONT.out _ _ hHeld (fun hHeld => ?_)
          clear hCONT CONT
          simp only [List.setIfInBounds_toArray, List.set_cons_zero, List.set_cons_succ]
          refine wpAnyH_ready (rs := [10]) (by kernel_rfl) (by simp) ?_
          refine AllReadyH.cons rfl (fun CONT hCONT => ?_) AllReadyH.nil
          go_simp
          go_at_call 24
          refine (JN.out _ _ _ (by rw [← HAI.out]; exact (YD.out i HIO.out.2.2.1).1) (by rw [← HAJ.out]; exact (YD.out oo HIO.out.2.2.2).1)).mono ?_
          rintro x wz ⟨u, rfl, hu, hb⟩
          dsimp only
          have RZ := Lib.hid (And.intro (row_kept RD.out.1 hb) (And.intro (row_kept RD.out.2.1 hb) (And.intro (row_kept RD.out.2.2.1 hb) (Nat.le_trans RD.out.2.2.2 hb.size))))
          have YZ := Lib.hid (fun j hj => typ_below (YD.out j hj) hb)
          have OZ := Lib.hid (show OwnEvs _ _ _ us from ⟨own_below OD.out.1 hb, fun x hx => typ_below (OD.out.2 x hx) hb⟩)
          have UZ := Lib.hid hu
          obtain ⟨ao3, cap3, rfl⟩ := dots_shape hu.1 _ rfl
          refine hCONT.out _ _ ⟨below_next hHeld.1 hb, row_kept hHeld.2 hb⟩ (fun hHeld => ?_)
          clear hCONT CONT hb hu
          refine take_at (i := 11) 43 rfl rfl (by kernel_rfl) (by kernel_rfl) (by kernel_rfl) (fun _ _ _ h => h) (sure_yes (by rfl) (fun w => by go_simp; try with_reducible rfl)) hHeld ?_
          simp only [List.setIfInBounds_toArray, List.set_cons_zero, List.set_cons_succ]
          refine wpAnyH_ready (rs := [12]) (by kernel_rfl) (by simp) ?_
          refine AllReadyH.cons rfl (fun CONT hCONT => ?_) AllReadyH.nil
          refine store_slice_at rfl (by rfl) 26 (.tmp 43) (.tmp 42) rfl (w.heap.size + 1) i #[a 0, a 1, a 2] ao3 _ cap3 27 RZ.out.2.1 rfl rfl HIO.out.2.2.1 vecSize12 (fun w9 hg hs => ?_)
          have hlt := HLT.out
          have GK := Lib.hid (show w9.heap[w.heap.size + 1]? = _ from hg)
          have GS := Lib.hid hs
          refine hCONT.out _ _ ⟨solo_below hHeld.1 hs (by omega), (hs.block _ (by omega)).trans hHeld.2⟩ (fun hHeld => ?_)
          clear hCONT CONT hg hs hlt
          refine wpAnyH_done (by kernel_rfl) ?_ _
          have HX := Lib.hid (show HistAt w w9 ((l.take (k + 1)).foldl stepH hist0) _ by
            rw [take_step HD.out, HG.out]
            exact hist_learn hL HIO.out.1 HIO.out.2.1 HIO.out.2.2.1 HU.out RZ.out.1 RZ.out.2.1 RZ.out.2.2.1 RZ.out.2.2.2 YZ.out OZ.out UZ.out GK.out GS.out hHeld.1)
          go_wp2
          refine ⟨⟨k + 1, by omega, by omega, by simp, HX.out⟩, ?_⟩
          simp [intOf] <;> omega
        · refine load_cell_at 41 rfl (by rfl) 26 (.tmp 40) rfl ⟨w.heap.size + 1, oo, none⟩ rfl aj _ cj Tryd.underlying26 (by rw [← HAJ.out]; exact know_cell RD.out.2.1 HIO.out.2.2.2) ?_
          refine hCONT.out _ _ hHeld (fun hHeld => ?_)
          clear hCONT CONT
          simp only [List.setIfInBounds_toArray, List.set_cons_zero, List.set_cons_succ]
          refine wpAnyH_ready (rs := [3]) (by kernel_rfl) (by simp) ?_
          refine AllReadyH.cons rfl (fun CONT hCONT => ?_) AllReadyH.nil
          refine load_cell_at 35 rfl (by rfl) 26 (.tmp 34) rfl ⟨w.heap.size + 1, i, none⟩ rfl ai _ ci Tryd.underlying26 (by rw [← HAI.out]; exact know_cell RD.out.2.1 HIO.out.2.2.1) ?_
          refine hCONT.out _ _ hHeld (fun hHeld => ?_)
          clear hCONT CONT
          simp only [List.setIfInBounds_toArray, List.set_cons_zero, List.set_cons_succ]
          refine wpAnyH_ready (rs := [10]) (by kernel_rfl) (by simp) ?_
          refine AllReadyH.cons rfl (fun CONT hCONT => ?_) AllReadyH.nil
          go_simp
          go_at_call 24
          refine (JN.out _ _ _ (by rw [← HAI.out]; exact (YD.out i HIO.out.2.2.1).1) (by rw [← HAJ.out]; exact (YD.out oo HIO.out.2.2.2).1)).mono ?_
          rintro x wz ⟨u, rfl, hu, hb⟩
          dsimp only
          have RZ := Lib.hid (And.intro (row_kept RD.out.1 hb) (And.intro (row_kept RD.out.2.1 hb) (And.intro (row_kept RD.out.2.2.1 hb) (Nat.le_trans RD.out.2.2.2 hb.size))))
          have YZ := Lib.hid (fun j hj => typ_below (YD.out j hj) hb)
          have OZ := Lib.hid (show OwnEvs _ _ _ us from ⟨own_below OD.out.1 hb, fun x hx => typ_below (OD.out.2 x hx) hb⟩)
          have UZ := Lib.hid hu
          obtain ⟨ao3, cap3, rfl⟩ := dots_shape hu.1 _ rfl
          refine hCONT.out _ _ ⟨below_next hHeld.1 hb, row_kept hHeld.2 hb⟩ (fun hHeld => ?_)
          clear hCONT CONT hb hu
          refine take_at (i := 11) 43 rfl rfl (by kernel_rfl) (by kernel_rfl) (by kernel_rfl) (fun _ _ _ h => h) (sure_yes (by rfl) (fun w => by go_simp; try with_reducible rfl)) hHeld ?_
          simp only [List.setIfInBounds_toArray, List.set_cons_zero, List.set_cons_succ]
          refine wpAnyH_ready (rs := [12]) (by kernel_rfl) (by simp) ?_
          refine AllReadyH.cons rfl (fun CONT hCONT => ?_) AllReadyH.nil
          refine store_slice_at rfl (by rfl) 26 (.tmp 43) (.tmp 42) rfl (w.heap.size + 1) i #[a 0, a 1, a 2] ao3 _ cap3 27 RZ.out.2.1 rfl rfl HIO.out.2.2.1 vecSize12 (fun w9 hg hs => ?_)
          have hlt := HLT.out
          have GK := Lib.hid (show w9.heap[w.heap.size + 1]? = _ from hg)
          have GS := Lib.hid hs
          refine hCONT.out _ _ ⟨solo_below hHeld.1 hs (by omega), (hs.block _ (by omega)).trans hHeld.2⟩ (fun hHeld => ?_)
          clear hCONT CONT hg hs hlt
          refine wpAnyH_done (by kernel_rfl) ?_ _
          have HX := Lib.hid (show HistAt w w9 ((l.take (k + 1)).foldl stepH hist0) _ by
            rw [take_step HD.out, HG.out]
            exact hist_learn hL HIO.out.1 HIO.out.2.1 HIO.out.2.2.1 HU.out RZ.out.1 RZ.out.2.1 RZ.out.2.2.1 RZ.out.2.2.2 YZ.out OZ.out UZ.out GK.out GS.out hHeld.1)
          go_wp2
          refine ⟨⟨k + 1, by omega, by omega, by simp, HX.out⟩, ?_⟩
          simp [intOf] <;> omega
      | false =>
        rw [hL] at c3
        go_upto_region 11 with fail
        obtain ⟨nn, hinv⟩ := inv_take l (fun x hx => (HS.out x hx).2.2.2) k hk40
        have GN := Lib.hid (fun v w hv => refGet_any10 (((l.take k).foldl stepH hist0).know i) (know_len hinv HIO.out.2.2.1) (i : Int) v w hv)
        have HKL := Lib.hid (know_len hinv HIO.out.2.2.1)
        clear hinv
        generalize hgen : (l.take k).foldl stepH hist0 = h at *
        obtain ⟨ai, ci, hai⟩ := dots_shape (HY1.out i HIO.out.2.2.1).1 _ rfl
        have HAI := Lib.hid hai
        have HG := Lib.hid hgen
        have hbd := getV_bd (h.know i) (i : Int)
        obtain ⟨G, hG⟩ : ∃ G, G = getV (h.know i) (i : Int) := ⟨_, rfl⟩
        obtain ⟨q, hq⟩ : ∃ q, G + 1 = q := ⟨_, rfl⟩
        rw [← hG] at GN hbd
        obtain ⟨pp, hpp⟩ : ∃ pp, pp = d.path % 4 := ⟨_, rfl⟩
        have hp4 : pp < 4 := by rw [hpp]; exact Nat.mod_lt _ (by decide)
        have q5 : (pp : Int) < 4 := by omega
        obtain ⟨EN, hEN⟩ : ∃ EN : Ev, EN = ⟨(i : Int), q, h.know i, 1, pathsH.getD pp [], sizeF d.size, (d.size : Int)⟩ := ⟨_, rfl⟩
        have HEN := Lib.hid hEN
        have HP4 := Lib.hid (And.intro hpp (And.intro hp4 (And.intro hG hq)))
        have wq : IntKind.i64.wrap (G + 1) = q := by rw [hq, IntKind.wrap_i64]; omega
        have wq2 : wrap64 (G + 1) = q := by rw [hq, wrap64]; omega
        have ws2 : IntKind.i64.wrap (d.size : Int) = (d.size : Int) := deed_wrap _ HB.out.2.2.2
        have ws3 : wrap64 (d.size : Int) = (d.size : Int) := (deed_nums d.size 1 HB.out.2.2.2).1
        obtain ⟨wp, tp, ep⟩ := deed_nums d.path 4 HB.out.2.2.1
        rw [← hpp] at tp ep
        have wp2 : IntKind.i64.wrap (d.path : Int) = (d.path : Int) := deed_wrap _ HB.out.2.2.1
        have tp' : (d.path : Int).tmod 4 = (pp : Int) := tp
        have ep' : (d.path : Int) % 4 = (pp : Int) := ep
        clear hai hgen hEN hpp hp4 hG hq hbd tp ep
        go_cut [10] (fun s10 wx => ∃ PB, s10 = .pointer (some ⟨PB, 0, none⟩) ∧ W1.heap.size ≤ PB ∧ EvAt wx PB 36 EN (.slice ai (h.know i).length ci) ∧ Below W1.heap.size W1 wx)
        case first =>
          rename_i JJ KK hJJ hKK
          have HJJ := Lib.hid hJJ
          have HKK := Lib.hid hKK
          clear hJJ hKK
          refine wp_region_held_drew (S := fun w' => Below W1.heap.size W1 w') (by kernel_rfl) (drawS (Below.refl _ _)) (fun hHeld => ?_)
          generalize W1.drew = wd at hHeld ⊢
          refine take_at (i := 0) 44 rfl rfl (by kernel_rfl) (by kernel_rfl) (by kernel_rfl) (fun _ _ _ h => h) (sure_yes (by rfl) (fun w => by go_simp; try with_reducible rfl)) hHeld ?_
          simp only [List.setIfInBounds_toArray, List.set_cons_zero, List.set_cons_succ]
          refine take_at (i := 1) 45 rfl rfl (by kernel_rfl) (by kernel_rfl) (by kernel_rfl) (fun _ _ _ h => h) (sure_yes (by rfl) (fun w => by go_simp; try with_reducible rfl)) hHeld ?_
          simp only [List.setIfInBounds_toArray, List.set_cons_zero, List.set_cons_succ]
          refine take_at (i := 2) 46 rfl rfl (by kernel_rfl) (by kernel_rfl) (by kernel_rfl) (fun _ _ _ h => h) (sure_yes (by rfl) (fun w => by go_simp; try with_reducible rfl)) hHeld ?_
          simp only [List.setIfInBounds_toArray, List.set_cons_zero, List.set_cons_succ]
          refine take_at (i := 4) 48 rfl rfl (by kernel_rfl) (by kernel_rfl) (by kernel_rfl) (fun _ _ _ h => h) (sure_yes (by rfl) (fun w => by go_simp; try with_reducible rfl)) hHeld ?_
          simp only [List.setIfInBounds_toArray, List.set_cons_zero, List.set_cons_succ]
          refine take_at (i := 8) 52 rfl rfl (by kernel_rfl) (by kernel_rfl) (by kernel_rfl) (fun _ _ _ h => h) (sure_yes (by rfl) (fun w => by go_simp; try with_reducible rfl)) hHeld ?_
          simp only [List.setIfInBounds_toArray, List.set_cons_zero, List.set_cons_succ]
          refine take_at (i := 9) 53 rfl rfl (by kernel_rfl) (by kernel_rfl) (by kernel_rfl) (fun _ _ _ h => h) (sure_yes (by rfl) (fun w => by go_simp; try with_reducible rfl)) hHeld ?_
          simp only [List.setIfInBounds_toArray, List.set_cons_zero, List.set_cons_succ]
          refine take_at (i := 11) 55 rfl rfl (by kernel_rfl) (by kernel_rfl) (by kernel_rfl) (fun _ _ _ h => h) (sure_yes (by rfl) (fun w => by go_simp; try with_reducible rfl)) hHeld ?_
          simp only [List.setIfInBounds_toArray, List.set_cons_zero, List.set_cons_succ]
          refine take_at (i := 12) 56 rfl rfl (by kernel_rfl) (by kernel_rfl) (by kernel_rfl) (fun _ _ _ h => h) (sure_yes (by rfl) (fun w => by go_simp; try with_reducible rfl)) hHeld ?_
          simp only [List.setIfInBounds_toArray, List.set_cons_zero, List.set_cons_succ]
          refine take_at (i := 18) 62 rfl rfl (by kernel_rfl) (by kernel_rfl) (by kernel_rfl) (fun _ _ _ h => h) (sure_yes (by rfl) (fun w => by go_simp; try with_reducible rfl)) hHeld ?_
          simp only [List.setIfInBounds_toArray, List.set_cons_zero, List.set_cons_succ]
          refine take_at (i := 21) 65 rfl rfl (by kernel_rfl) (by kernel_rfl) (by kernel_rfl) (fun _ _ _ h => h) (sure_yes (by rfl) (fun w => by go_simp; try with_reducible rfl)) hHeld ?_
          simp only [List.setIfInBounds_toArray, List.set_cons_zero, List.set_cons_succ]
          refine take_at (i := 3) 47 rfl rfl (by kernel_rfl) (by kernel_rfl) (by kernel_rfl) (fun _ _ _ h => h) (slice_yields12H (by rfl) 26 (.tmp 46) rfl ⟨w.heap.size + 1, i, none⟩ rfl ai _ ci Tryd.underlying26 (fun _ h => by rw [← HAI.out]; exact know_cell (row_kept HR1.out.2.1 h) HIO.out.2.2.1)) hHeld ?_
          simp only [List.setIfInBounds_toArray, List.set_cons_zero, List.set_cons_succ]
          refine take_at (i := 10) 54 rfl rfl (by kernel_rfl) (by kernel_rfl) (by kernel_rfl) (fun _ _ _ h => h) (slice_yields12H (by rfl) 26 (.tmp 53) rfl ⟨w.heap.size + 1, i, none⟩ rfl ai _ ci Tryd.underlying26 (fun _ h => by rw [← HAI.out]; exact know_cell (row_kept HR1.out.2.1 h) HIO.out.2.2.1)) hHeld ?_
          simp only [List.setIfInBounds_toArray, List.set_cons_zero, List.set_cons_succ]
          refine take_at (i := 13) 57 rfl rfl (by kernel_rfl) (by kernel_rfl) (by kernel_rfl) (fun _ _ _ h => h) (cell_yields (by rfl) 5 (.tmp 56) rfl wr.heap.size 2 rfl .u8 _ Tryd.underlying5 (fun _ h => (cell_of_row _ _ 2 _ _ _ (row_kept HD1.out h)).trans rfl)) hHeld ?_
          simp only [List.setIfInBounds_toArray, List.set_cons_zero, List.set_cons_succ]
          refine take_at (i := 14) 58 rfl rfl (by kernel_rfl) (by kernel_rfl) (by kernel_rfl) (fun _ _ _ h => h) (sure_yes (by rfl) (fun w => by go_simp; try with_reducible rfl)) hHeld ?_
          simp only [List.setIfInBounds_toArray, List.set_cons_zero, List.set_cons_succ]
          refine take_at (i := 15) 59 rfl rfl (by kernel_rfl) (by kernel_rfl) (by kernel_rfl) (fun _ _ _ h => h) (sure_yes (by rfl) (fun w => by go_simp; try with_reducible rfl)) hHeld ?_
          simp only [List.setIfInBounds_toArray, List.set_cons_zero, List.set_cons_succ]
          refine take_at (i := 16) 60 rfl rfl (by kernel_rfl) (by kernel_rfl) (by kernel_rfl) (fun _ _ _ h => h) (sure_yes (by rfl) (fun w => by go_simp; try with_reducible rfl)) hHeld ?_
          simp only [List.setIfInBounds_toArray, List.set_cons_zero, List.set_cons_succ]
          refine take_at (i := 17) 61 rfl rfl (by kernel_rfl) (by kernel_rfl) (by kernel_rfl) (fun _ _ _ h => h) (str_yields12 (by rfl) 9 (.tmp 60) rfl ⟨w.heap.size + 1 + 1, pp, none⟩ rfl _ Tryd.underlying9 (fun _ h => path_cellH (row_kept HR1.out.2.2.1 h) HP4.out.2.1)) hHeld ?_
          simp only [List.setIfInBounds_toArray, List.set_cons_zero, List.set_cons_succ]
          refine take_at (i := 19) 63 rfl rfl (by kernel_rfl) (by kernel_rfl) (by kernel_rfl) (fun _ _ _ h => h) (cell_yields (by rfl) 5 (.tmp 62) rfl wr.heap.size 5 rfl .u8 _ Tryd.underlying5 (fun _ h => (cell_of_row _ _ 5 _ _ _ (row_kept HD1.out h)).trans rfl)) hHeld ?_
          simp only [List.setIfInBounds_toArray, List.set_cons_zero, List.set_cons_succ]
          refine take_at (i := 20) 64 rfl rfl (by kernel_rfl) (by kernel_rfl) (by kernel_rfl) (fun _ _ _ h => h) (build_yields (by rfl) 34 #[(0, .tmp 63)] rfl _ _ (dig_built HB.out.2.2.2) (by simp [Act.eval])) hHeld ?_
          simp only [List.setIfInBounds_toArray, List.set_cons_zero, List.set_cons_succ]
          refine take_at (i := 22) 66 rfl rfl (by kernel_rfl) (by kernel_rfl) (by kernel_rfl) (fun _ _ _ h => h) (cell_yields (by rfl) 5 (.tmp 65) rfl wr.heap.size 5 rfl .u8 _ Tryd.underlying5 (fun _ h => (cell_of_row _ _ 5 _ _ _ (row_kept HD1.out h)).trans rfl)) hHeld ?_
          simp only [List.setIfInBounds_toArray, List.set_cons_zero, List.set_cons_succ]
          refine take_at (i := 23) 67 rfl rfl (by kernel_rfl) (by kernel_rfl) (by kernel_rfl) (fun _ _ _ h => h) (sure_yes (by rfl) (fun w => by go_simp; try with_reducible rfl)) hHeld ?_
          simp only [List.setIfInBounds_toArray, List.set_cons_zero, List.set_cons_succ]
          refine wpAnyH_ready (rs := [5, 25]) (by kernel_rfl) (by simp) ?_
          refine AllReadyH.cons rfl (fun CONT hCONT => ?_) (AllReadyH.cons rfl (fun CONT hCONT => ?_) (AllReadyH.nil))
          · go_simp
            go_at_call 25
            refine (GN.out _ _ (by rw [← HAI.out]; exact dots_below (HY1.out i HIO.out.2.2.1).1 hHeld)).mono ?_
            rintro x wz ⟨rfl, hb⟩
            dsimp only
            refine hCONT.out _ _ (below_next hHeld hb) (fun hHeld => ?_)
            clear hCONT CONT hb
            refine take_at (i := 6) 50 rfl rfl (by kernel_rfl) (by kernel_rfl) (by kernel_rfl) (fun _ _ _ h => h) (sure_yes (by rfl) (fun w => by go_simp; try with_reducible rfl)) hHeld ?_
            simp only [List.setIfInBounds_toArray, List.set_cons_zero, List.set_cons_succ]
            refine take_at (i := 7) 51 rfl rfl (by kernel_rfl) (by kernel_rfl) (by kernel_rfl) (fun _ _ _ h => h) (sure_yes (by rfl) (fun w => by go_simp; try with_reducible rfl)) hHeld ?_
            simp only [List.setIfInBounds_toArray, List.set_cons_zero, List.set_cons_succ]
            refine take_at (i := 24) 68 rfl rfl (by kernel_rfl) (by kernel_rfl) (by kernel_rfl) (fun _ _ _ h => h) (build_yields (by rfl) 36 #[(0, .tmp 51), (1, .tmp 54), (2, .const (.int .i64 1)), (3, .tmp 61), (4, .tmp 64), (5, .tmp 67)] rfl _ _ (ev_built EN ai (h.know i).length ci) (by rw [HEN.out]; simp [Act.eval])) hHeld ?_
            simp only [List.setIfInBounds_toArray, List.set_cons_zero, List.set_cons_succ]
            refine ready_allocH 25 10 (by kernel_rfl) rfl rfl (by rfl) 36 rfl (evC noEv (.slice none 0 0)) ev_zeroH (hHeld.alloc hHeld.size _) ?_
            simp only [List.setIfInBounds_toArray, List.set_cons_zero, List.set_cons_succ]
            have hHeld2 := hHeld.alloc hHeld.size (.cells (evC noEv (.slice none 0 0)) 36 (0, 0))
            have A6 := Lib.hid (box_ev wz 36 noEv (.slice none 0 0))
            have LW := Lib.hid (show W1.heap.size ≤ wz.heap.size from hHeld.size)
            replace hHeld := hHeld2
            clear hHeld2
            generalize hgp : wz.heap.size = PB at *
            generalize wz.alloc (.cells (evC noEv (.slice none 0 0)) 36 (0, 0)) = W6 at *
            refine ready_store_ev 26 (by kernel_rfl) rfl rfl (by rfl) 36 (.tmp 10) (.tmp 68) rfl PB EN noEv (.slice ai (h.know i).length ci) (.slice none 0 0) rfl rfl 36 A6.out evSize rfl (fun w7 hg hs7 => ?_)
            have hb7 := solo_below hHeld hs7 LW.out
            refine ⟨hb7, ?_⟩
            have A7 := Lib.hid hg
            have B7 := Lib.hid hb7
            clear hg hs7 hb7 hHeld
            refine wpAnyH_done (by kernel_rfl) ?_ _
            refine HKK.out _ _ ?_
            have hJJ := HJJ.out
            go_meet
            exact ⟨PB, rfl, LW.out, A7.out, B7.out⟩
          · refine alloc_at 10 rfl (by rfl) 36 rfl (evC noEv (.slice none 0 0)) ev_zeroH ?_
            have A6 := Lib.hid (box_ev wd 36 noEv (.slice none 0 0))
            have LW := Lib.hid (show W1.heap.size ≤ wd.heap.size from hHeld.size)
            refine hCONT.out _ _ (hHeld.alloc hHeld.size _) (fun hHeld => ?_)
            clear hCONT CONT
            simp only [List.setIfInBounds_toArray, List.set_cons_zero, List.set_cons_succ]
            generalize hgp : wd.heap.size = PB at *
            generalize wd.alloc (.cells (evC noEv (.slice none 0 0)) 36 (0, 0)) = W6 at *
            refine wpAnyH_ready (rs := [5]) (by kernel_rfl) (by simp) ?_
            refine AllReadyH.cons rfl (fun CONT hCONT => ?_) AllReadyH.nil
            go_simp
            go_at_call 25
            refine (GN.out _ _ (by rw [← HAI.out]; exact dots_below (HY1.out i HIO.out.2.2.1).1 hHeld)).mono ?_
            rintro x wz ⟨rfl, hb⟩
            dsimp only
            have A6 := Lib.hid (evAt_kept A6.out hb)
            refine hCONT.out _ _ (below_next hHeld hb) (fun hHeld => ?_)
            clear hCONT CONT hb
            refine take_at (i := 6) 50 rfl rfl (by kernel_rfl) (by kernel_rfl) (by kernel_rfl) (fun _ _ _ h => h) (sure_yes (by rfl) (fun w => by go_simp; try with_reducible rfl)) hHeld ?_
            simp only [List.setIfInBounds_toArray, List.set_cons_zero, List.set_cons_succ]
            refine take_at (i := 7) 51 rfl rfl (by kernel_rfl) (by kernel_rfl) (by kernel_rfl) (fun _ _ _ h => h) (sure_yes (by rfl) (fun w => by go_simp; try with_reducible rfl)) hHeld ?_
            simp only [List.setIfInBounds_toArray, List.set_cons_zero, List.set_cons_succ]
            refine take_at (i := 24) 68 rfl rfl (by kernel_rfl) (by kernel_rfl) (by kernel_rfl) (fun _ _ _ h => h) (build_yields (by rfl) 36 #[(0, .tmp 51), (1, .tmp 54), (2, .const (.int .i64 1)), (3, .tmp 61), (4, .tmp 64), (5, .tmp 67)] rfl _ _ (ev_built EN ai (h.know i).length ci) (by rw [HEN.out]; simp [Act.eval])) hHeld ?_
            simp only [List.setIfInBounds_toArray, List.set_cons_zero, List.set_cons_succ]
            refine ready_store_ev 26 (by kernel_rfl) rfl rfl (by rfl) 36 (.tmp 10) (.tmp 68) rfl PB EN noEv (.slice ai (h.know i).length ci) (.slice none 0 0) rfl rfl 36 A6.out evSize rfl (fun w7 hg hs7 => ?_)
            have hb7 := solo_below hHeld hs7 LW.out
            refine ⟨hb7, ?_⟩
            have A7 := Lib.hid hg
            have B7 := Lib.hid hb7
            clear hg hs7 hb7 hHeld
            refine wpAnyH_done (by kernel_rfl) ?_ _
            refine HKK.out _ _ ?_
            have hJJ := HJJ.out
            go_meet
            exact ⟨PB, rfl, LW.out, A7.out, B7.out⟩
        case rest =>
          obtain ⟨PB, rfl, hpb, hev, hbw⟩ := hcut
          have PE := Lib.hid hev
          have MD := Lib.hid (show HistMid w wc a h _ us PB from ⟨row_kept HR1.out.1 hbw, row_kept HR1.out.2.1 hbw, row_kept HR1.out.2.2.1 hbw, fun j hj => typ_below (HY1.out j hj) hbw, ⟨own_below HO1.out.1 hbw, fun x hx => typ_below (HO1.out.2 x hx) hbw⟩, Nat.le_trans HR1.out.2.2.2 hpb, fun b hb => Nat.lt_of_lt_of_le (own_blockH HO1.out.1 b hb).2.1 hpb, (Array.getElem?_eq_some_iff.1 hev).1, below_next HB1.out hbw⟩)
          have c4 : wc.cell? ⟨wr.heap.size, 4, none⟩ = some (.bool d.gone) := (cell_of_row _ _ 4 _ _ _ (row_kept HD1.out hbw)).trans rfl
          have WT := Lib.hid (fun v w hv => refWith_typ10 (h.know i) (by have := HKL.out; exact this) (i : Int) q v w hv)
          have HUS := Lib.hid (show us.length ≤ 40 by have := congrArg List.length HU.out; rw [List.length_map] at this; rw [this, ← HG.out]; exact Nat.le_trans (hist_len l k) hk40)
          clear hpb hev hbw
          cases hGn : d.gone with
          | true =>
            rw [hGn] at c4
            go_upto_region 13 with (first
              | (refine load_cell_on (by rfl) 4 (.tmp 69) rfl ⟨wr.heap.size, 4, none⟩ rfl true Tryd.underlying4 c4 ?_))
            go_upto_region 14 with (first
              | (refine store_cell rfl 3 (.tmp 71) (.const (.int .i64 2)) rfl rfl .i64 PB 3 (evC EN (.slice ai (h.know i).length ci)) 2 36 PE.out rfl rfl (by rw [evC_size]; decide) intSizeH ?_; rintro w13 hg hs; rw [ev_kindH] at hg; have MD13 := Lib.hid (histMid_solo MD.out PE.out hs); have PE13 := Lib.hid (show EvAt w13 PB 36 (⟨EN.r, EN.q, EN.deps, 2, EN.path, EN.sum, EN.size⟩ : Ev) (.slice ai (h.know i).length ci) from hg); clear hg hs))
            go_upto_region 15 with (first
              | (refine build_on (by rfl) 34 #[] rfl [] (row .u8 32 zeroF) dig_built0 (by simp) ?_)
              | (refine store_in rfl 34 (.tmp 73) (.tmp 72) rfl rfl PB 5 (evC (⟨EN.r, EN.q, EN.deps, 2, EN.path, EN.sum, EN.size⟩ : Ev) (.slice ai (h.know i).length ci)).toList (row .u8 32 zeroF).toList 36 (by rw [Array.toArray_toList]; exact PE13.out) rfl (by rw [Array.toArray_toList]; rfl) (by rw [sumSize]; simp [row_size]) (by simp [evC_size, row_size]) (row_onesH _) ?_; rintro w14 hg hs; rw [ev_sumH] at hg; have MD14 := Lib.hid (histMid_solo MD13.out PE13.out hs); have PE14 := Lib.hid (show EvAt w14 PB 36 (⟨EN.r, EN.q, EN.deps, 2, EN.path, zeroF, EN.size⟩ : Ev) (.slice ai (h.know i).length ci) from hg); clear hg hs))
            go_upto_region 16 with (first
              | (refine store_cell rfl 3 (.tmp 74) (.const (.int .i64 0)) rfl rfl .i64 PB 37 (evC (⟨EN.r, EN.q, EN.deps, 2, EN.path, zeroF, EN.size⟩ : Ev) (.slice ai (h.know i).length ci)) 0 36 PE14.out rfl rfl (by rw [evC_size]; decide) intSizeH ?_; rintro w15 hg hs; rw [ev_sizeH] at hg; have MD15 := Lib.hid (histMid_solo MD14.out PE14.out hs); have PE15 := Lib.hid (show EvAt w15 PB 36 (⟨EN.r, EN.q, EN.deps, 2, EN.path, zeroF, 0⟩ : Ev) (.slice ai (h.know i).length ci) from hg); clear hg hs))
            trace_state
            have PX := Lib.hid (show EvAt w15 PB 36 (evH h d) (.slice ai (h.know i).length ci) by
              have e : evH h d = (⟨EN.r, EN.q, EN.deps, 2, EN.path, zeroF, 0⟩ : Ev) := by
                rw [HEN.out]; unfold evH; rw [hGn, ← HIO.out.1, ← HP4.out.1, ← HP4.out.2.2.2, HP4.out.2.2.1]; simp
              rw [e]; exact PE15.out)
            have MX := MD15
            generalize w15 = wE at *
            have hqe : q = (evH h d).q ∧ (i : Int) = (evH h d).r := by unfold evH; rw [← HIO.out.1, ← HP4.out.2.2.2, HP4.out.2.2.1]; exact ⟨rfl, rfl⟩
            have HQE := Lib.hid hqe
            clear hqe
            refine wp_region_held_drew (S := fun w' => EvAt w' PB 36 (evH h d) (.slice ai (h.know i).length ci)) (by kernel_rfl) (show EvAt wE.drew PB _ _ _ from PX.out) (fun hHeld => ?_)
            have MX1 := Lib.hid (show HistMid w wE.drew a h _ us PB from histMid_below MX.out (drawS (Below.refl _ _)))
            generalize wE.drew = wd at *
            refine take_at (i := 0) 75 rfl rfl (by kernel_rfl) (by kernel_rfl) (by kernel_rfl) (fun _ _ _ h => h) (sure_yes (by rfl) (fun w => by go_simp; try with_reducible rfl)) hHeld ?_
            simp only [List.setIfInBounds_toArray, List.set_cons_zero, List.set_cons_succ]
            refine take_at (i := 1) 76 rfl rfl (by kernel_rfl) (by kernel_rfl) (by kernel_rfl) (fun _ _ _ h => h) (sure_yes (by rfl) (fun w => by go_simp; try with_reducible rfl)) hHeld ?_
            simp only [List.setIfInBounds_toArray, List.set_cons_zero, List.set_cons_succ]
            refine take_at (i := 2) 77 rfl rfl (by kernel_rfl) (by kernel_rfl) (by kernel_rfl) (fun _ _ _ h => h) (sure_yes (by rfl) (fun w => by go_simp; try with_reducible rfl)) hHeld ?_
            simp only [List.setIfInBounds_toArray, List.set_cons_zero, List.set_cons_succ]
            refine take_at (i := 4) 79 rfl rfl (by kernel_rfl) (by kernel_rfl) (by kernel_rfl) (fun _ _ _ h => h) (sure_yes (by rfl) (fun w => by go_simp; try with_reducible rfl)) hHeld ?_
            simp only [List.setIfInBounds_toArray, List.set_cons_zero, List.set_cons_succ]
            refine take_at (i := 5) (v := .agg #[.int .i64 (i : Int), .int .i64 q]) 80 rfl rfl (by kernel_rfl) (by kernel_rfl) (by kernel_rfl) (fun _ _ _ h => h) (dot_yields (by rfl) 32 (.tmp 79) rfl ⟨PB, 0, none⟩ rfl (i : Int) q Tryd.underlying32 (by kernel_rfl) (fun _ h => by rw [HQE.out.1, HQE.out.2]; exact evAt_dot h)) hHeld ?_
            simp only [List.setIfInBounds_toArray, List.set_cons_zero, List.set_cons_succ]
            refine wpAnyH_ready (rs := [3]) (by kernel_rfl) (by simp) ?_
            refine AllReadyH.cons rfl (fun CONT hCONT => ?_) AllReadyH.nil
            refine load_cell_at 78 rfl (by rfl) 26 (.tmp 77) rfl ⟨w.heap.size + 1, i, none⟩ rfl ai _ ci Tryd.underlying26 (by rw [← HAI.out]; exact know_cell MX1.out.r2 HIO.out.2.2.1) ?_
            refine hCONT.out _ _ hHeld (fun hHeld => ?_)
            clear hCONT CONT
            simp only [List.setIfInBounds_toArray, List.set_cons_zero, List.set_cons_succ]
            refine wpAnyH_ready (rs := [6]) (by kernel_rfl) (by simp) ?_
            refine AllReadyH.cons rfl (fun CONT hCONT => ?_) AllReadyH.nil
            go_simp
            go_at_call 26
            refine (WT.out _ _ (by rw [← HAI.out]; exact (MX1.out.typ i HIO.out.2.2.1).1)).mono ?_
            rintro x wz ⟨u, rfl, hu, hb⟩
            dsimp only
            have MZ := Lib.hid (histMid_below MX1.out hb)
            have UZ := Lib.hid hu
            obtain ⟨ao3, cap3, rfl⟩ := dots_shape hu.1 _ rfl
            refine hCONT.out _ _ (evAt_kept hHeld hb) (fun hHeld => ?_)
            clear hCONT CONT hb hu
            refine take_at (i := 7) 82 rfl rfl (by kernel_rfl) (by kernel_rfl) (by kernel_rfl) (fun _ _ _ h => h) (sure_yes (by rfl) (fun w => by go_simp; try with_reducible rfl)) hHeld ?_
            simp only [List.setIfInBounds_toArray, List.set_cons_zero, List.set_cons_succ]
            refine wpAnyH_ready (rs := [8]) (by kernel_rfl) (by simp) ?_
            refine AllReadyH.cons rfl (fun CONT hCONT => ?_) AllReadyH.nil
            refine store_slice_at rfl (by rfl) 26 (.tmp 82) (.tmp 81) rfl (w.heap.size + 1) i #[a 0, a 1, a 2] ao3 _ cap3 27 MZ.out.r2 rfl rfl HIO.out.2.2.1 vecSize12 (fun w9 hg hs => ?_)
            have GK := Lib.hid (show w9.heap[w.heap.size + 1]? = _ from hg)
            have GS := Lib.hid hs
            refine hCONT.out _ _ ((hs.block _ (by have := MZ.out.low; omega)).trans hHeld) (fun hHeld => ?_)
            clear hCONT CONT hg hs
            refine wpAnyH_done (by kernel_rfl) ?_ _
            have P9 := Lib.hid hHeld
            clear hHeld
            obtain ⟨ie, hie, hiz⟩ := infoEv
            have HIZ := Lib.hid hiz
            clear hiz
            obtain ⟨N9, hN9⟩ : ∃ N, w9.heap.size = N := ⟨_, rfl⟩
            have HN9 := Lib.hid hN9
            clear hN9
            go_wp2_with (first
              | (refine load_ev_on (by rfl) 36 (.tmp 10) rfl PB rfl P9.out Tryd.underlying36 evSize ?_)
              | (refine build_ev1 rfl 85 rfl (.tmp 84) rfl N9 HN9.out (evH h d) ai (h.know i).length ci rfl ?_; rintro wA hEA hBA hNA; have EA := Lib.hid hEA; have BA := Lib.hid hBA; clear hEA hBA hNA)
              | (refine append_ev rfl (.tmp 83) (.tmp 85) 24 rfl (w.heap.size + 3) 36 ie Tryd.underlying24 hie HIZ.out _ us (evH h d, .slice ai (h.know i).length ci) rfl (own_below (own_solo MZ.out.own.1 GS.out (by omega)) BA.out) rfl ⟨N9, 0, none⟩ 1 rfl (fun j u hu => by rw [Addr.add_lit, Nat.zero_add]; exact evAt_cell EA.out j u hu) (by have := HUS.out; show us.length + 1 ≤ 100000; omega) (by have := BA.out.size; have := GS.out.size; have := MZ.out.low; have := MZ.out.top; omega) ?_; rintro v' w10 hown hgr; have HX := Lib.hid (show HistAt w w10 ((l.take (k + 1)).foldl stepH hist0) v' by
                  rw [take_step HD.out, HG.out]
                  exact hist_event hL HIO.out.1 HIO.out.2.2.1 HU.out MZ.out HAI.out.symm (by rw [← HQE.out.1, ← HQE.out.2]; exact UZ.out) GK.out GS.out BA.out hown hgr); clear hown hgr))
            refine ⟨⟨k + 1, by omega, by omega, by simp, HX.out⟩, ?_⟩
            simp [intOf] <;> omega
          | false =>
            rw [hGn] at c4
            go_upto_region 16 with (first
              | (refine load_cell_on (by rfl) 4 (.tmp 69) rfl ⟨wr.heap.size, 4, none⟩ rfl false Tryd.underlying4 c4 ?_))
            have PX := Lib.hid (show EvAt wc PB 36 (evH h d) (.slice ai (h.know i).length ci) by
              have e : evH h d = EN := by
                rw [HEN.out]; unfold evH; rw [hGn, ← HIO.out.1, ← HP4.out.1, ← HP4.out.2.2.2, HP4.out.2.2.1]; simp
              rw [e]; exact PE.out)
            have MX := MD
            generalize wc = wE at *
            have hqe : q = (evH h d).q ∧ (i : Int) = (evH h d).r := by unfold evH; rw [← HIO.out.1, ← HP4.out.2.2.2, HP4.out.2.2.1]; exact ⟨rfl, rfl⟩
            have HQE := Lib.hid hqe
            clear hqe
            refine wp_region_held_drew (S := fun w' => EvAt w' PB 36 (evH h d) (.slice ai (h.know i).length ci)) (by kernel_rfl) (show EvAt wE.drew PB _ _ _ from PX.out) (fun hHeld => ?_)
            have MX1 := Lib.hid (show HistMid w wE.drew a h _ us PB from histMid_below MX.out (drawS (Below.refl _ _)))
            generalize wE.drew = wd at *
            refine take_at (i := 0) 75 rfl rfl (by kernel_rfl) (by kernel_rfl) (by kernel_rfl) (fun _ _ _ h => h) (sure_yes (by rfl) (fun w => by go_simp; try with_reducible rfl)) hHeld ?_
            simp only [List.setIfInBounds_toArray, List.set_cons_zero, List.set_cons_succ]
            refine take_at (i := 1) 76 rfl rfl (by kernel_rfl) (by kernel_rfl) (by kernel_rfl) (fun _ _ _ h => h) (sure_yes (by rfl) (fun w => by go_simp; try with_reducible rfl)) hHeld ?_
            simp only [List.setIfInBounds_toArray, List.set_cons_zero, List.set_cons_succ]
            refine take_at (i := 2) 77 rfl rfl (by kernel_rfl) (by kernel_rfl) (by kernel_rfl) (fun _ _ _ h => h) (sure_yes (by rfl) (fun w => by go_simp; try with_reducible rfl)) hHeld ?_
            simp only [List.setIfInBounds_toArray, List.set_cons_zero, List.set_cons_succ]
            refine take_at (i := 4) 79 rfl rfl (by kernel_rfl) (by kernel_rfl) (by kernel_rfl) (fun _ _ _ h => h) (sure_yes (by rfl) (fun w => by go_simp; try with_reducible rfl)) hHeld ?_
            simp only [List.setIfInBounds_toArray, List.set_cons_zero, List.set_cons_succ]
            refine take_at (i := 5) (v := .agg #[.int .i64 (i : Int), .int .i64 q]) 80 rfl rfl (by kernel_rfl) (by kernel_rfl) (by kernel_rfl) (fun _ _ _ h => h) (dot_yields (by rfl) 32 (.tmp 79) rfl ⟨PB, 0, none⟩ rfl (i : Int) q Tryd.underlying32 (by kernel_rfl) (fun _ h => by rw [HQE.out.1, HQE.out.2]; exact evAt_dot h)) hHeld ?_
            simp only [List.setIfInBounds_toArray, List.set_cons_zero, List.set_cons_succ]
            refine wpAnyH_ready (rs := [3]) (by kernel_rfl) (by simp) ?_
            refine AllReadyH.cons rfl (fun CONT hCONT => ?_) AllReadyH.nil
            refine load_cell_at 78 rfl (by rfl) 26 (.tmp 77) rfl ⟨w.heap.size + 1, i, none⟩ rfl ai _ ci Tryd.underlying26 (by rw [← HAI.out]; exact know_cell MX1.out.r2 HIO.out.2.2.1) ?_
            refine hCONT.out _ _ hHeld (fun hHeld => ?_)
            clear hCONT CONT
            simp only [List.setIfInBounds_toArray, List.set_cons_zero, List.set_cons_succ]
            refine wpAnyH_ready (rs := [6]) (by kernel_rfl) (by simp) ?_
            refine AllReadyH.cons rfl (fun CONT hCONT => ?_) AllReadyH.nil
            go_simp
            go_at_call 26
            refine (WT.out _ _ (by rw [← HAI.out]; exact (MX1.out.typ i HIO.out.2.2.1).1)).mono ?_
            rintro x wz ⟨u, rfl, hu, hb⟩
            dsimp only
            have MZ := Lib.hid (histMid_below MX1.out hb)
            have UZ := Lib.hid hu
            obtain ⟨ao3, cap3, rfl⟩ := dots_shape hu.1 _ rfl
            refine hCONT.out _ _ (evAt_kept hHeld hb) (fun hHeld => ?_)
            clear hCONT CONT hb hu
            refine take_at (i := 7) 82 rfl rfl (by kernel_rfl) (by kernel_rfl) (by kernel_rfl) (fun _ _ _ h => h) (sure_yes (by rfl) (fun w => by go_simp; try with_reducible rfl)) hHeld ?_
            simp only [List.setIfInBounds_toArray, List.set_cons_zero, List.set_cons_succ]
            refine wpAnyH_ready (rs := [8]) (by kernel_rfl) (by simp) ?_
            refine AllReadyH.cons rfl (fun CONT hCONT => ?_) AllReadyH.nil
            refine store_slice_at rfl (by rfl) 26 (.tmp 82) (.tmp 81) rfl (w.heap.size + 1) i #[a 0, a 1, a 2] ao3 _ cap3 27 MZ.out.r2 rfl rfl HIO.out.2.2.1 vecSize12 (fun w9 hg hs => ?_)
            have GK := Lib.hid (show w9.heap[w.heap.size + 1]? = _ from hg)
            have GS := Lib.hid hs
            refine hCONT.out _ _ ((hs.block _ (by have := MZ.out.low; omega)).trans hHeld) (fun hHeld => ?_)
            clear hCONT CONT hg hs
            refine wpAnyH_done (by kernel_rfl) ?_ _
            have P9 := Lib.hid hHeld
            clear hHeld
            obtain ⟨ie, hie, hiz⟩ := infoEv
            have HIZ := Lib.hid hiz
            clear hiz
            obtain ⟨N9, hN9⟩ : ∃ N, w9.heap.size = N := ⟨_, rfl⟩
            have HN9 := Lib.hid hN9
            clear hN9
            go_wp2_with (first
              | (refine load_ev_on (by rfl) 36 (.tmp 10) rfl PB rfl P9.out Tryd.underlying36 evSize ?_)
              | (refine build_ev1 rfl 85 rfl (.tmp 84) rfl N9 HN9.out (evH h d) ai (h.know i).length ci rfl ?_; rintro wA hEA hBA hNA; have EA := Lib.hid hEA; have BA := Lib.hid hBA; clear hEA hBA hNA)
              | (refine append_ev rfl (.tmp 83) (.tmp 85) 24 rfl (w.heap.size + 3) 36 ie Tryd.underlying24 hie HIZ.out _ us (evH h d, .slice ai (h.know i).length ci) rfl (own_below (own_solo MZ.out.own.1 GS.out (by omega)) BA.out) rfl ⟨N9, 0, none⟩ 1 rfl (fun j u hu => by rw [Addr.add_lit, Nat.zero_add]; exact evAt_cell EA.out j u hu) (by have := HUS.out; show us.length + 1 ≤ 100000; omega) (by have := BA.out.size; have := GS.out.size; have := MZ.out.low; have := MZ.out.top; omega) ?_; rintro v' w10 hown hgr; have HX := Lib.hid (show HistAt w w10 ((l.take (k + 1)).foldl stepH hist0) v' by
                  rw [take_step HD.out, HG.out]
                  exact hist_event hL HIO.out.1 HIO.out.2.2.1 HU.out MZ.out HAI.out.symm (by rw [← HQE.out.1, ← HQE.out.2]; exact UZ.out) GK.out GS.out BA.out hown hgr); clear hown hgr))
            refine ⟨⟨k + 1, by omega, by omega, by simp, HX.out⟩, ?_⟩
            simp [intOf] <;> omega
    · obtain ⟨a, us, hus, hown, hres, hkn2, htyp, hpaths, hsz, hbel⟩ := hh
      have hend : (l.take k).foldl stepH hist0 = histN l := by
        unfold histN
        by_cases h40 : k = 40
        · rw [h40]
        · rw [List.take_of_length_le (by have := HN.out; omega), List.take_of_length_le (by have := HN.out; omega)]
      rw [hend] at hus htyp
      have hHS := Lib.hid (And.intro hown (And.intro hus htyp))
      have HRR := Lib.hid (And.intro hres (And.intro hkn2 hbel))
      have HA1 := Lib.hid (show (#[a 0, a 1, a 2] : Array Value).all (·.oneCell') = true by
        obtain ⟨x0, y0, e0⟩ := dots_shape (htyp 0 (by omega)).1 _ rfl
        obtain ⟨x1, y1, e1⟩ := dots_shape (htyp 1 (by omega)).1 _ rfl
        obtain ⟨x2, y2, e2⟩ := dots_shape (htyp 2 (by omega)).1 _ rfl
        rw [e0, e1, e2]; simp [Value.oneCell'])
      clear hus hown hres hkn2 htyp hpaths hsz hbel hend
      have q9 : ¬ ((k : Int) < (n : Int) ∧ (k : Int) < 40) := by omega
      by_cases hk1 : k < n
      · have q0 : (k : Int) < (n : Int) := by omega
        have q1 : ¬ (k : Int) < 40 := by omega
        clear q9 hr hkn hk40 hk1
        go_upto_region 18 with fail
        refine wp_region_held_drew (S := fun w' => w'.heap[w.heap.size + 1]? = some (.cells #[a 0, a 1, a 2] 27 (0, 0))) (by kernel_rfl) (show wr.drew.heap[w.heap.size + 1]? = _ from HRR.out.2.1) (fun hHeld => ?_)
        have hd0 : Below wr.heap.size wr wr.drew := drawS (Below.refl _ _)
        have RR := Lib.hid (show wr.drew.heap[w.heap.size]? = _ from HRR.out.1)
        have OW := Lib.hid (show OwnEvs (w.heap.size + 3) wr.drew _ us from ⟨own_below hHS.out.1.1 hd0, fun x hx => typ_below (hHS.out.1.2 x hx) hd0⟩)
        have TY := Lib.hid (fun j hj => typ_below (hHS.out.2.2 j hj) hd0)
        have BB := Lib.hid (below_next HRR.out.2.2 hd0)
        clear hd0
        generalize wr.drew = wd at *
        refine take_at (i := 0) 87 rfl rfl (by kernel_rfl) (by kernel_rfl) (by kernel_rfl) (fun _ _ _ h => h) (sure_yes (by rfl) (fun w => by go_simp; try with_reducible rfl)) hHeld ?_
        simp only [List.setIfInBounds_toArray, List.set_cons_zero, List.set_cons_succ]
        refine take_at (i := 1) 88 rfl rfl (by kernel_rfl) (by kernel_rfl) (by kernel_rfl) (fun _ _ _ h => h) (row_yields (by rfl) 27 (.tmp 4) rfl (w.heap.size + 1) rfl 27 #[a 0, a 1, a 2] (0, 0) _ Tryd.underlying27 rfl (by kernel_rfl) (fun _ h => h)) hHeld ?_
        simp only [List.setIfInBounds_toArray, List.set_cons_zero, List.set_cons_succ]
        refine take_at (i := 2) 2 rfl rfl (by kernel_rfl) (by kernel_rfl) (by kernel_rfl) (fun _ _ _ h => h) (sure_yes (by rfl) (fun w => by go_simp; try with_reducible rfl)) hHeld ?_
        simp only [List.setIfInBounds_toArray, List.set_cons_zero, List.set_cons_succ]
        refine wpAnyH_ready (rs := [3]) (by kernel_rfl) (by simp) ?_
        refine AllReadyH.cons rfl (fun CONT hCONT => ?_) AllReadyH.nil
        refine store_at rfl (by rfl) 27 (.tmp 3) (.tmp 88) rfl w.heap.size #[a 0, a 1, a 2] rfl rfl 27 _ RR.out (by kernel_rfl) rfl HA1.out ?_
        have hs := solo_setRow wd w.heap.size #[a 0, a 1, a 2]
        have R9 := Lib.hid (setRow_heap wd w.heap.size _ #[a 0, a 1, a 2] 27 (0, 0) RR.out)
        generalize wd.setRow w.heap.size #[a 0, a 1, a 2] = w9 at *
        have O9 := Lib.hid (show OwnEvs (w.heap.size + 3) w9 _ us from ⟨own_solo OW.out.1 hs (by omega), fun x hx => typ_solo (OW.out.2 x hx) hs RR.out (by decide)⟩)
        have T9 := Lib.hid (fun j hj => typ_solo (TY.out j hj) hs RR.out (by decide))
        have B9 := Lib.hid (solo_below BB.out hs (Nat.le_refl _))
        refine hCONT.out _ _ ((hs.block _ (by omega)).trans hHeld) (fun hHeld => ?_)
        clear hCONT CONT hs
        refine wpAnyH_done (by kernel_rfl) ?_ _
        go_wp2
        exact bodyPost_ret (results_2cell Tryd.results7 _ _ w.heap.size 27 _ (0, 0) _ _ rfl rfl R9.out Tryd.underlying27 rfl (by kernel_rfl)) rfl ⟨_, a, rfl, by rw [← hHS.out.2.1]; exact evs_of_own O9.out, T9.out, B9.out⟩
      · have q0 : ¬ (k : Int) < (n : Int) := by omega
        clear q9 hr hkn hk40 hk1
        go_upto_region 18 with fail
        refine wp_region_held_drew (S := fun w' => w'.heap[w.heap.size + 1]? = some (.cells #[a 0, a 1, a 2] 27 (0, 0))) (by kernel_rfl) (show wr.drew.heap[w.heap.size + 1]? = _ from HRR.out.2.1) (fun hHeld => ?_)
        have hd0 : Below wr.heap.size wr wr.drew := drawS (Below.refl _ _)
        have RR := Lib.hid (show wr.drew.heap[w.heap.size]? = _ from HRR.out.1)
        have OW := Lib.hid (show OwnEvs (w.heap.size + 3) wr.drew _ us from ⟨own_below hHS.out.1.1 hd0, fun x hx => typ_below (hHS.out.1.2 x hx) hd0⟩)
        have TY := Lib.hid (fun j hj => typ_below (hHS.out.2.2 j hj) hd0)
        have BB := Lib.hid (below_next HRR.out.2.2 hd0)
        clear hd0
        generalize wr.drew = wd at *
        refine take_at (i := 0) 87 rfl rfl (by kernel_rfl) (by kernel_rfl) (by kernel_rfl) (fun _ _ _ h => h) (sure_yes (by rfl) (fun w => by go_simp; try with_reducible rfl)) hHeld ?_
        simp only [List.setIfInBounds_toArray, List.set_cons_zero, List.set_cons_succ]
        refine take_at (i := 1) 88 rfl rfl (by kernel_rfl) (by kernel_rfl) (by kernel_rfl) (fun _ _ _ h => h) (row_yields (by rfl) 27 (.tmp 4) rfl (w.heap.size + 1) rfl 27 #[a 0, a 1, a 2] (0, 0) _ Tryd.underlying27 rfl (by kernel_rfl) (fun _ h => h)) hHeld ?_
        simp only [List.setIfInBounds_toArray, List.set_cons_zero, List.set_cons_succ]
        refine take_at (i := 2) 2 rfl rfl (by kernel_rfl) (by kernel_rfl) (by kernel_rfl) (fun _ _ _ h => h) (sure_yes (by rfl) (fun w => by go_simp; try with_reducible rfl)) hHeld ?_
        simp only [List.setIfInBounds_toArray, List.set_cons_zero, List.set_cons_succ]
        refine wpAnyH_ready (rs := [3]) (by kernel_rfl) (by simp) ?_
        refine AllReadyH.cons rfl (fun CONT hCONT => ?_) AllReadyH.nil
        refine store_at rfl (by rfl) 27 (.tmp 3) (.tmp 88) rfl w.heap.size #[a 0, a 1, a 2] rfl rfl 27 _ RR.out (by kernel_rfl) rfl HA1.out ?_
        have hs := solo_setRow wd w.heap.size #[a 0, a 1, a 2]
        have R9 := Lib.hid (setRow_heap wd w.heap.size _ #[a 0, a 1, a 2] 27 (0, 0) RR.out)
        generalize wd.setRow w.heap.size #[a 0, a 1, a 2] = w9 at *
        have O9 := Lib.hid (show OwnEvs (w.heap.size + 3) w9 _ us from ⟨own_solo OW.out.1 hs (by omega), fun x hx => typ_solo (OW.out.2 x hx) hs RR.out (by decide)⟩)
        have T9 := Lib.hid (fun j hj => typ_solo (TY.out j hj) hs RR.out (by decide))
        have B9 := Lib.hid (solo_below BB.out hs (Nat.le_refl _))
        refine hCONT.out _ _ ((hs.block _ (by omega)).trans hHeld) (fun hHeld => ?_)
        clear hCONT CONT hs
        refine wpAnyH_done (by kernel_rfl) ?_ _
        go_wp2
        exact bodyPost_ret (results_2cell Tryd.results7 _ _ w.heap.size 27 _ (0, 0) _ _ rfl rfl R9.out Tryd.underlying27 rfl (by kernel_rfl)) rfl ⟨_, a, rfl, by rw [← hHS.out.2.1]; exact evs_of_own O9.out, T9.out, B9.out⟩
end Go.Proofs.YthkojphgjlojgaaDoor
namespace Go.Proofs.YthkojphgjlojgaaDoor
open Ieee
/-- The rung of the float nearest to a number. -/
def kept (n : Nat) : Nat := Toward.even.cut false (n <<< (52 - n.log2)) (n.log2 - 52)
end Go.Proofs.YthkojphgjlojgaaDoor
namespace Go.Proofs.YthkojphgjlojgaaDoor
open Go.RowKit
def four (x0 x1 x2 x3 : Int) : Array Value := #[.int .i64 x0, .int .i64 x1, .int .i64 x2, .int .i64 x3]
end Go.Proofs.YthkojphgjlojgaaDoor
namespace Go.Proofs.YthkojphgjlojgaaDoor
open Go.RowKit
/-- May a replica have so many events so far, perhaps none? -/
def mayC (r q : Int) : Bool := decide (0 ≤ r ∧ r < 32 ∧ 0 ≤ q ∧ q ≤ 1099511627776)
set_option maxRecDepth 100000 in
set_option maxHeartbeats 4000000 in
theorem mayCount_any (r q : Int) (w : World) : Calls Tryd.prog 52 #[.agg #[.int .i64 r, .int .i64 q]] w fun e w' => e = .returned (.bool (mayC r q)) ∧ Below w.heap.size w w' := by
  have h1 := one_box w r q
  obtain ⟨c1, c2⟩ := dot_cells h1
  have B0 := Lib.hid ((Below.refl w.heap.size w).alloc (Nat.le_refl _) (dotO r q))
  clear h1
  unfold dotO at *
  go_enter Tryd.func52, Tryd.ntmps52
  go_wp2
  all_goals
    go_ret
    refine ⟨congrArg Ending.returned (show Value.bool _ = Value.bool _ from congrArg Value.bool ?_), B0.out⟩
    unfold mayC
    rw [Bool.eq_iff_iff]
    simp
    try omega
theorem mayC_q (r q : Int) : mayD r q = (mayC r q && decide (q > 0)) := by
  unfold mayD mayC
  rw [Bool.eq_iff_iff]
  simp
  omega
set_option maxRecDepth 100000 in
set_option maxHeartbeats 4000000 in
theorem may_any9 (r q : Int) (w : World) : Calls Tryd.prog 27 #[.agg #[.int .i64 r, .int .i64 q]] w fun e w' => e = .returned (.bool (mayD r q)) ∧ Below w.heap.size w w' := by
  have H1 := Lib.hid (one_box w r q)
  have B0 := Lib.hid ((Below.refl w.heap.size w).alloc (Nat.le_refl _) (dotO r q))
  have M1 := Lib.hid (mayCount_any r q)
  have HQ := Lib.hid (mayC_q r q)
  unfold dotO at *
  generalize mayC r q = m at *
  go_enter Tryd.func27, Tryd.ntmps27
  go_upto_region 1 with fail
  generalize w.alloc (.cells #[.int .i64 r, .int .i64 q] 32 (0, 0)) = W0 at *
  cases m with
  | true =>
    go_wp2_with (first
      | (refine load_row_on (by rfl) 32 (.tmp 1) rfl w.heap.size rfl 32 _ (0, 0) _ H1.out Tryd.underlying32 rfl (by kernel_rfl) ?_)
      | (go_at_call 52; refine (M1.out _).mono ?_; rintro e W1 ⟨rfl, hb⟩; have d1 := (dot_cells (row_kept H1.out hb)).2; have B1 := Lib.hid (below_next B0.out hb); clear hb))
    go_ret
    exact ⟨by rw [HQ.out]; try rfl, B1.out⟩
  | false =>
    go_wp2_with (first
      | (refine load_row_on (by rfl) 32 (.tmp 1) rfl w.heap.size rfl 32 _ (0, 0) _ H1.out Tryd.underlying32 rfl (by kernel_rfl) ?_)
      | (go_at_call 52; refine (M1.out _).mono ?_; rintro e W1 ⟨rfl, hb⟩; have B1 := Lib.hid (below_next B0.out hb); clear hb))
    go_ret
    exact ⟨by rw [HQ.out]; try rfl, B1.out⟩
end Go.Proofs.YthkojphgjlojgaaDoor
namespace Go.Proofs.YthkojphgjlojgaaDoor
open Go.RowKit
theorem zero49 : (Tryd.prog.info? 95).map (fun i => i.zero) = some (some (.agg (nums 32 fun _ => 0))) := by kernel_rfl
theorem seen_max (i : Nat) (m : Int) (d : D2) (hm : mayT d = true) (hd : d.1 = (i : Int)) : seen i m d = max m d.2 := by
  unfold seen
  by_cases h : m < d.2
  · rw [if_pos ⟨hm, hd, h⟩]; omega
  · rw [if_neg (fun hh => h hh.2.2)]; omega
set_option maxRecDepth 100000 in
set_option maxHeartbeats 16000000 in
theorem counts_long (l : List D2) (hl : l.length < 10000000000000) (v : Value) (w : World) (hv : HasDots w v l) : Calls Tryd.prog 73 #[v] w fun e w' => e = .returned (.agg (nums 32 (allV l))) ∧ Below w.heap.size w w' := by
  have HV := Lib.hid hv
  obtain ⟨n, hn⟩ : ∃ n, n = l.length := ⟨_, rfl⟩
  obtain ⟨ao, cap, rfl⟩ := dots_shape hv n hn
  have HN := Lib.hid hn
  have hn4 : n < 10000000000000 := by omega
  have Z0 := heap_last w (.cells (nums 32 fun _ => 0) 95 (0, 0))
  have Z1 := heap_last (w.alloc (.cells (nums 32 fun _ => 0) 95 (0, 0))) (.cells (nums 32 fun _ => 0) 95 (0, 0))
  have HZ := Lib.hid (And.intro (show ((w.alloc (.cells (nums 32 fun _ => 0) 95 (0, 0))).alloc (.cells (nums 32 fun _ => 0) 95 (0, 0))).heap[w.heap.size]? = some (.cells (nums 32 fun _ => 0) 95 (0, 0)) by rw [heap_at_alloc, if_neg (by simp)]; exact Z0) (by rwa [World.size_alloc] at Z1))
  have HB := Lib.hid (((Below.refl w.heap.size w).alloc (Nat.le_refl _) (.cells (nums 32 fun _ => 0) 95 (0, 0))).alloc (by simp) (.cells (nums 32 fun _ => 0) 95 (0, 0)))
  clear hn hv hl Z0 Z1
  go_enter Tryd.func73, Tryd.ntmps73
  go_wp2_with (first | (refine alloc_as rfl 95 rfl _ zero49 ?_))
  generalize ((w.alloc (.cells (nums 32 fun _ => 0) 95 (0, 0))).alloc (.cells (nums 32 fun _ => 0) 95 (0, 0))) = W0 at *
  go_loopw [8] (fun c wr => ∃ k : Nat, k ≤ n ∧ c = .int .i64 (k : Int) ∧ wr.heap[w.heap.size]? = some (.cells (nums 32 fun _ => 0) 95 (0, 0)) ∧ wr.heap[w.heap.size + 1]? = some (.cells (nums 32 (allV (l.take k))) 95 (0, 0)) ∧ Below w.heap.size w wr) (fun c _ => n - (intOf c).toNat)
  case atStart => exact ⟨0, Nat.zero_le _, rfl, HZ.out.1, HZ.out.2, HB.out⟩
  case round =>
    clear HZ HB
    obtain ⟨k, hk, rfl, hz, ho, hb⟩ := hrel
    by_cases hlt : k < n
    · have q0 : (k : Int) < (n : Int) := by omega
      have hkl : k < l.length := by rw [← HN.out]; exact hlt
      obtain ⟨d, hd⟩ : ∃ d, l[k]? = some d := ⟨_, List.getElem?_eq_getElem hkl⟩
      have HA := Lib.hid (allV_at hd)
      obtain ⟨r, q⟩ := d
      obtain ⟨ad, cap', e, c0, c1⟩ := dots_at (dots_below HV.out hb) n k HN.out.symm _ hd
      cases e
      have C0 := Lib.hid (And.intro c0 c1)
      have MY := Lib.hid (fun w => may_any9 r q w)
      have KK := Lib.hid (show k + 1 ≤ n ∧ n - (k + 1) < n - k by omega)
      have D0 := Lib.hid (heap_last wr (.cells #[.int .i64 r, .int .i64 q] 32 (0, 0)))
      have B0 := Lib.hid (hb.alloc hb.size (.cells #[.int .i64 r, .int .i64 q] 32 (0, 0)))
      have K0 := (Below.refl wr.heap.size wr).alloc (Nat.le_refl _) (.cells #[.int .i64 r, .int .i64 q] 32 (0, 0))
      have Z0 := Lib.hid (row_kept hz K0)
      have O0 := Lib.hid (row_kept ho K0)
      have LS := Lib.hid (show w.heap.size + 1 < wr.heap.size from by obtain ⟨h, -⟩ := Array.getElem?_eq_some_iff.1 ho; exact h)
      clear c0 c1 hz ho hb hd hkl K0
      generalize hW1 : wr.alloc (.cells #[.int .i64 r, .int .i64 q] 32 (0, 0)) = W1 at *
      cases hm : mayD r q with
      | false =>
        rw [hm] at MY
        have HS := Lib.hid (show nums 32 (allV (l.take (k + 1))) = nums 32 (allV (l.take k)) from nums_congr _ _ _ fun i _ => by
          rw [HA.out i, seen, if_neg (fun h => by have h2 := h.1; rw [mayT, hm] at h2; cases h2)])
        clear hm HA
        go_wp2_with (first
          | (refine load_dot10 (by rfl) 32 (.tmp 10) rfl (ad.add (k * 2)) rfl r q Tryd.underlying32 (by kernel_rfl) C0.out ?_; try rw [hW1])
          | (refine load_row_on (by rfl) 32 (.tmp 5) rfl wr.heap.size rfl 32 _ (0, 0) _ D0.out Tryd.underlying32 rfl (by kernel_rfl) ?_)
          | (go_at_call 27; refine (MY.out _).mono ?_; rintro e w1 ⟨rfl, hb⟩; have Z1 := Lib.hid (row_kept Z0.out hb); have O1 := Lib.hid (row_kept O0.out hb); have B1 := Lib.hid (below_next B0.out hb); clear hb))
        refine ⟨⟨k + 1, KK.out.1, by simp, Z1.out, by rw [HS.out]; exact O1.out, B1.out⟩, ?_⟩
        simp [intOf]; exact KK.out.2
      | true =>
        rw [hm] at MY
        have hb := mayT_bd (d := (r, q)) hm
        simp only at hb
        obtain ⟨i, hi⟩ : ∃ i : Nat, r = (i : Int) := ⟨r.toNat, by omega⟩
        subst hi
        have hi32 : i < 32 := by omega
        have qi : (i : Int) < 32 := by omega
        obtain ⟨m, hme⟩ : ∃ m, m = allV (l.take k) i := ⟨_, rfl⟩
        obtain ⟨M, hM⟩ : ∃ M, M = max m q := ⟨_, rfl⟩
        have HS := Lib.hid (show (nums 32 (allV (l.take k))).setIfInBounds i (.int .i64 M) = nums 32 (allV (l.take (k + 1))) from nums_set _ _ _ _ _ fun j _ => by
          rw [HA.out j]
          by_cases hj : j = i
          · subst hj; rw [if_pos rfl, seen_max _ _ ((j : Int), q) (show mayT ((j : Int), q) = true from hm) rfl, hM, hme]
          · rw [if_neg hj, seen, if_neg (fun h => hj (by have := h.2.1; simp only at this; omega))])
        have NC := Lib.hid (fun (w' : World) (h : w'.heap[w.heap.size + 1]? = some (.cells (nums 32 (allV (l.take k))) 95 (0, 0))) => show w'.cell? ⟨w.heap.size + 1, i, none⟩ = some (.int .i64 m) by rw [hme]; exact nums_cell h i hi32)
        have hI := Lib.hid hi32
        have hMM : (if m < q then q else m) = M := by rw [hM]; split <;> omega
        have hMX : max m q = M := hM.symm
        clear hm HA hb hme hi32 hM
        go_wp2_with (first
          | (refine load_dot10 (by rfl) 32 (.tmp 10) rfl (ad.add (k * 2)) rfl (i : Int) q Tryd.underlying32 (by kernel_rfl) C0.out ?_; try rw [hW1])
          | (refine load_row_on (by rfl) 32 (.tmp 5) rfl wr.heap.size rfl 32 _ (0, 0) _ D0.out Tryd.underlying32 rfl (by kernel_rfl) ?_)
          | (go_at_call 27; refine (MY.out _).mono ?_; rintro e w1 ⟨rfl, hb⟩; have Z1 := Lib.hid (row_kept Z0.out hb); have O1 := Lib.hid (row_kept O0.out hb); have D1 := Lib.hid (row_kept D0.out hb); have B1 := Lib.hid (below_next B0.out hb); clear hb))
        obtain ⟨c0, c1⟩ := dot_cells (show _ = some (dotO (i : Int) q) from D1.out)
        have cm := NC.out _ O1.out
        go_still_tail 10, (by kernel_rfl)
        change wpList _ _ _ _ _ w1.drew
        have hz : w1.drew.heap[w.heap.size]? = _ := Z1.out
        have ho : w1.drew.heap[w.heap.size + 1]? = _ := O1.out
        have hb := below_draws B1.out 1
        change Below _ _ w1.drew at hb
        clear O1 Z1 B1 c0 c1 cm D1
        generalize w1.drew = w7 at *
        go_wp2_with (first
          | (refine store_cell rfl 2 (.tmp 23) (.tmp 22) rfl rfl .i64 (w.heap.size + 1) i _ M 95 ho rfl rfl (by rw [nums_size]; exact hI.out) (by kernel_rfl) ?_; intro w8 hg8 hs8; rw [HS.out] at hg8; have H8 := Lib.hid (And.intro hg8 (And.intro ((hs8.block w.heap.size (by omega)).trans hz) (solo_below hb hs8 (by omega)))); clear hg8 hs8 hz ho hb))
        refine ⟨⟨k + 1, KK.out.1, by simp, H8.out.2.1, H8.out.1, H8.out.2.2⟩, ?_⟩
        simp [intOf]; exact KK.out.2
    · have q0 : ¬ (k : Int) < (n : Int) := by omega
      have HE := Lib.hid (show l.take k = l by rw [show k = l.length by rw [← HN.out]; omega, List.take_length])
      rw [HE.out] at ho
      have HZ := Lib.hid hz
      have HO := Lib.hid ho
      have HB := Lib.hid hb
      clear hz ho hb
      go_wp2_with (first
        | (refine wpList_load_row rfl 95 (.tmp 3) rfl (w.heap.size + 1) rfl 95 _ (0, 0) _ HO.out Tryd.underlying95 rfl (by rw [nums_size]; kernel_rfl) ?_)
        | (refine wpList_store_row rfl 95 (.tmp 2) (.tmp 25) rfl w.heap.size _ rfl rfl 95 _ HZ.out (by rw [nums_size]; kernel_rfl) (by rw [nums_size, nums_size]) (nums_one _ _) ?_))
      exact bodyPost_ret (results_cell_row Tryd.results73 _ _ w.heap.size 95 _ (0, 0) _ rfl (setRow_heap _ _ _ _ _ _ HZ.out) Tryd.underlying95 rfl (by rw [nums_size]; kernel_rfl)) rfl ⟨rfl, below_setRow HB.out (Nat.le_refl _) _⟩
theorem counts_any (l : List D2) (hl : l.length < 2000000) (v : Value) (w : World) (hv : HasDots w v l) : Calls Tryd.prog 73 #[v] w fun e w' => e = .returned (.agg (nums 32 (allV l))) ∧ Below w.heap.size w w' := counts_long l (by omega) v w hv
end Go.Proofs.YthkojphgjlojgaaDoor
namespace Go.Proofs.YthkojphgjlojgaaDoor
open Go.RowKit
set_option maxRecDepth 100000 in
set_option maxHeartbeats 4000000 in
theorem closeText_any (f : Nat → Int) (G i : Nat) (hi : i < 32) (w : World) (hG : w.heap[G]? = some (.cells (nums 32 f) 95 (0, 0))) : Calls Tryd.prog 75 #[.int .i64 (i : Int), .pointer (some ⟨G, 0, none⟩)] w fun e w' => e = .returned (.int .i64 (f i)) ∧ Below w.heap.size w w' := by
  have c0 := nums_cell hG i hi
  have q0 : (i : Int) < 32 := by omega
  obtain ⟨a, ha⟩ : ∃ a, a = f i := ⟨_, rfl⟩
  rw [← ha] at c0 ⊢
  clear hG hi ha
  go_enter Tryd.func75, Tryd.ntmps75
  go_wp2
  go_ret
  exact ⟨rfl, Below.refl _ _⟩
set_option maxRecDepth 100000 in
set_option maxHeartbeats 16000000 in
theorem madeText_any (f : Nat → Int) (G : Nat) (w : World) (hG : w.heap[G]? = some (.cells (nums 32 f) 95 (0, 0))) : Calls Tryd.prog 74 #[.func (.func 75) #[] #[.pointer (some ⟨G, 0, none⟩)]] w fun e w' => ∃ v, e = .returned v ∧ HasDots w' v (ofV (f)) ∧ Below w.heap.size w w' := by
  obtain ⟨i0, hi, hz⟩ := infoDot

  obtain ⟨F, hF⟩ : ∃ F, F = f := ⟨_, rfl⟩
  rw [← hF]
  have CL := Lib.hid (fun (k : Nat) (hk : k < 32) (wr : World) (hb : Below w.heap.size w wr) => show Calls Tryd.prog 75 #[.int .i64 (k : Int), .pointer (some ⟨G, 0, none⟩)] wr fun e w' => e = .returned (.int .i64 (F k)) ∧ Below wr.heap.size wr w' by rw [hF]; exact closeText_any f G k hk wr (row_kept hG hb))
  clear hG
  clear hF
  go_enter Tryd.func74, Tryd.ntmps74
  go_wp2
  go_loopw [3, 6] (fun v c wr => ∃ k : Nat, k ≤ 32 ∧ c = .int .i64 (k : Int) ∧ wr.ownsRow w.heap.size 32 2 v (ofN F k).length (dotsC (ofN F k)) ∧ Below w.heap.size w wr) (fun _ c _ => 32 - (intOf c).toNat)
  case atStart => exact ⟨0, by omega, rfl, dots_own_nil _ _ _, Below.refl _ _⟩
  case round =>
    obtain ⟨k, hk, rfl, ho, hb⟩ := hrel
    have HO := Lib.hid ho
    have HB := Lib.hid hb
    by_cases hlt : k < 32
    · have q0 : (k : Int) < 32 := by omega
      have HL := Lib.hid (ofN_length F k)
      have KK := Lib.hid (show k + 1 ≤ 32 ∧ 32 - (k + 1) < 32 - k by omega)
      have CC := Lib.hid (CL.out k hlt wr hb)
      obtain ⟨m, hm⟩ : ∃ m, m = F k := ⟨_, rfl⟩
      rw [← hm] at CC
      by_cases hp : 0 < m
      · have d1 : decide (m > 0) = true := decide_eq_true hp
        have HN := Lib.hid (show ofN F (k + 1) = ofN F k ++ [((k : Int), m)] by rw [ofN, if_pos (by rw [← hm]; exact hp), ← hm])
        clear hp hm ho hb hlt
        go_wp2_with (first
          | (go_at_call 75; refine CC.out.mono ?_; rintro e w1 ⟨rfl, hb⟩; have O1 := Lib.hid (own_below HO.out hb); have B1 := Lib.hid (below_next HB.out hb); clear hb)
          | (refine build_on (by rfl) 32 #[(0, .tmp 15), (1, .tmp 16)] rfl _ _ (dot_built2 (k : Int) m) (by simp [Act.eval]) ?_)
          | (at_builtin; refine append_dot rfl (.tmp 14) (.tmp 18) 26 rfl w.heap.size 32 i0 Tryd.underlying26 hi hz _ (ofN F k) ((k : Int), m) rfl (O1.out.alloc _) ⟨w1.heap.size, 0, none⟩ 1 rfl ⟨(cell_of_row _ _ 0 _ _ _ (heap_last w1 _)).trans rfl, by rw [Addr.add_lit]; exact (cell_of_row _ _ (0 + 1) _ _ _ (heap_last w1 _)).trans rfl⟩ (by have := HL.out; have := KK.out.1; omega) (by have := B1.out.size; simp <;> omega) ?_; intro v1 w2 ho hg; rw [← HN.out] at ho; have HO1 := Lib.hid ho; have HB1 := Lib.hid (below_grown (B1.out.alloc B1.out.size _) hg (by have := B1.out.size; simp <;> omega) (fun j hj => by have := (O1.out.lt j hj).1; omega)); clear ho hg))
        refine ⟨⟨k + 1, KK.out.1, by simp, HO1.out, HB1.out⟩, ?_⟩
        have := KK.out.2; simp [intOf]; omega
      · have d1 : decide (m > 0) = false := decide_eq_false hp
        have HN := Lib.hid (show ofN F (k + 1) = ofN F k by rw [ofN, if_neg (by rw [← hm]; exact hp), List.append_nil])
        clear hp hm ho hb hlt
        go_wp2_with (first
          | (go_at_call 75; refine CC.out.mono ?_; rintro e w1 ⟨rfl, hb⟩; have O1 := Lib.hid (own_below HO.out hb); have B1 := Lib.hid (below_next HB.out hb); clear hb))
        refine ⟨⟨k + 1, KK.out.1, by simp, by rw [HN.out]; exact O1.out, B1.out⟩, ?_⟩
        have := KK.out.2; simp [intOf]; omega
    · have q0 : ¬ (k : Int) < 32 := by omega
      obtain rfl : k = 32 := by omega
      have HD := Lib.hid (dots_of_own HO.out)
      clear ho hb hlt
      go_wp2
      go_ret
      exact ⟨_, rfl, HD.out, HB.out⟩
end Go.Proofs.YthkojphgjlojgaaDoor
namespace Go.Proofs.YthkojphgjlojgaaDoor
open Go.RowKit
theorem counts_V (l : List D2) (hl : l.length < 2000000) (v : Value) (w : World) (hv : HasDots w v l) : Calls Tryd.prog 73 #[v] w fun e w' => e = .returned (numsV 32 (allV l)) ∧ Below w.heap.size w w' := counts_any l hl v w hv
set_option maxRecDepth 100000 in
set_option maxHeartbeats 16000000 in
theorem vecGet_any (l : List D2) (hl : l.length < 2000000) (r : Int) (v : Value) (w : World) (hv : HasDots w v l) : Calls Tryd.prog 54 #[v, .int .i64 r] w fun e w' => e = .returned (.int .i64 (getV l r)) ∧ Below w.heap.size w w' := by
  have HV := Lib.hid hv
  have A1 := Lib.hid (fun w v hv => counts_V l hl v w hv)
  obtain ⟨ao, cap, rfl⟩ := dots_shape hv l.length rfl
  obtain ⟨n, hn⟩ : ∃ n, n = l.length := ⟨_, rfl⟩
  rw [← hn] at HV ⊢
  clear hv hl hn
  by_cases h0 : r < 0
  · have d1 : decide (r < 0) = true := decide_eq_true h0
    have HR := Lib.hid (show getV l r = 0 by rw [getV, if_pos (.inl h0)])
    clear h0
    go_enter Tryd.func54, Tryd.ntmps54
    go_wp2
    go_ret
    exact ⟨by rw [HR.out]; rfl, Below.refl _ _⟩
  · have d1 : decide (r < 0) = false := decide_eq_false h0
    by_cases h1 : 31 < r
    · have d2 : decide (r ≥ 32) = true := decide_eq_true (by omega)
      have HR := Lib.hid (show getV l r = 0 by rw [getV, if_pos (.inr h1)])
      clear h0 h1
      go_enter Tryd.func54, Tryd.ntmps54
      go_wp2
      go_ret
      exact ⟨by rw [HR.out]; rfl, Below.refl _ _⟩
    · have d2 : decide (r ≥ 32) = false := decide_eq_false (by omega)
      obtain ⟨i, hi⟩ : ∃ i : Nat, r = (i : Int) := ⟨r.toNat, by omega⟩
      subst hi
      have ix := fun w => index_nums (P := Tryd.prog) w (t := 95) (n := 32) (allV l) i (by omega) Tryd.underlying95 Tryd.underlying2 (by kernel_rfl)
      replace ix : ∀ w, (Instr.index 95 (numsV 32 (allV l)) (.int .i64 (i : Int))).run Tryd.prog w = .ok (.int .i64 (allV l i)) w := ix
      have HR := Lib.hid (show getV l (i : Int) = allV l i by rw [getV, if_neg (by omega), Int.toNat_natCast])
      clear h0 h1
      go_enter Tryd.func54, Tryd.ntmps54
      go_wp2_with (first
        | (go_at_call 73; refine (A1.out w _ HV.out).mono ?_; rintro e w1 ⟨rfl, hb⟩; have B1 := Lib.hid hb; clear hb))
      go_ret
      exact ⟨by rw [HR.out]; rfl, B1.out⟩
set_option maxRecDepth 100000 in
set_option maxHeartbeats 16000000 in
theorem vecHas_any (l : List D2) (hl : l.length < 2000000) (r q : Int) (v : Value) (w : World) (hv : HasDots w v l) : Calls Tryd.prog 31 #[v, .agg #[.int .i64 r, .int .i64 q]] w fun e w' => e = .returned (.bool (hasV l r q)) ∧ Below w.heap.size w w' := by
  have HV := Lib.hid hv
  have MY := Lib.hid (fun w => may_any9 r q w)
  have GT := Lib.hid (fun w hv => vecGet_any l hl r v w hv)
  have E0 := Lib.hid (show (w.alloc (.cells #[.int .i64 r, .int .i64 q] 32 (0, 0))).heap[w.heap.size]? = some (.cells #[.int .i64 r, .int .i64 q] 32 (0, 0)) from one_box w r q)
  obtain ⟨c0, c1⟩ := dot_cells (show _ = some (dotO r q) from E0.out)
  have C0 := Lib.hid c0
  have C1 := Lib.hid c1
  have B0 := Lib.hid ((Below.refl w.heap.size w).alloc (Nat.le_refl _) (.cells #[.int .i64 r, .int .i64 q] 32 (0, 0)))
  obtain ⟨ao, cap, rfl⟩ := dots_shape hv l.length rfl
  obtain ⟨n, hn⟩ : ∃ n, n = l.length := ⟨_, rfl⟩
  rw [← hn] at HV GT ⊢
  obtain ⟨G, hG⟩ : ∃ G, G = getV l r := ⟨_, rfl⟩
  rw [← hG] at GT
  have HR := Lib.hid (show hasV l r q = (mayD r q && decide (q ≤ G)) by rw [hasV, hG])
  clear hv hl hn hG c0 c1
  cases hm : mayD r q with
  | true =>
    rw [hm] at MY HR
    clear hm
    go_enter Tryd.func31, Tryd.ntmps31
    go_wp2
    generalize w.alloc (.cells #[.int .i64 r, .int .i64 q] 32 (0, 0)) = W0 at *
    refine wp_region_held_drew (S := fun w' => Below W0.heap.size W0 w') (by kernel_rfl) (drawS (Below.refl _ _)) (fun hHeld => ?_)
    generalize W0.drew = wd at hHeld ⊢
    refine take_at (i := 0) 5 rfl rfl (by kernel_rfl) (by kernel_rfl) (by kernel_rfl) (fun _ _ _ h => h) (row_yields (by rfl) 32 (.tmp 3) rfl w.heap.size rfl 32 _ (0, 0) _ Tryd.underlying32 rfl (by kernel_rfl) (fun _ h => row_kept E0.out h)) hHeld ?_
    simp only [List.setIfInBounds_toArray, List.set_cons_zero, List.set_cons_succ]
    refine wpAnyH_ready (rs := [1]) (by kernel_rfl) (by simp) ?_
    refine AllReadyH.cons rfl (fun K hK => ?_) AllReadyH.nil
    go_simp
    go_at_call 27
    refine (MY.out _).mono ?_
    rintro e w6 ⟨rfl, hb⟩
    dsimp only
    refine hK.out _ _ (below_next hHeld hb) (fun hHeld => ?_)
    clear hK K hb
    refine take_at (i := 2) 7 rfl rfl (by kernel_rfl) (by kernel_rfl) (by kernel_rfl) (fun _ _ _ h => h) (sure_yes (by rfl) (fun w => by go_simp; try with_reducible rfl)) hHeld ?_
    simp only [List.setIfInBounds_toArray, List.set_cons_zero, List.set_cons_succ]
    refine take_at (i := 3) 8 rfl rfl (by kernel_rfl) (by kernel_rfl) (by kernel_rfl) (fun _ _ _ h => h) (sure_yes (by rfl) (fun w => by go_simp; try with_reducible rfl)) hHeld ?_
    simp only [List.setIfInBounds_toArray, List.set_cons_zero, List.set_cons_succ]
    refine take_at (i := 5) 10 rfl rfl (by kernel_rfl) (by kernel_rfl) (by kernel_rfl) (fun _ _ _ h => h) (sure_yes (by rfl) (fun w => by go_simp; try with_reducible rfl)) hHeld ?_
    simp only [List.setIfInBounds_toArray, List.set_cons_zero, List.set_cons_succ]
    refine take_at (i := 6) 11 rfl rfl (by kernel_rfl) (by kernel_rfl) (by kernel_rfl) (fun _ _ _ h => h) (sure_yes (by rfl) (fun w => by go_simp; try with_reducible rfl)) hHeld ?_
    simp only [List.setIfInBounds_toArray, List.set_cons_zero, List.set_cons_succ]
    refine take_at (i := 4) 9 rfl rfl (by kernel_rfl) (by kernel_rfl) (by kernel_rfl) (fun _ _ _ h => h) (cell_yields (by rfl) 2 (.tmp 8) rfl w.heap.size 1 rfl .i64 q Tryd.underlying2 (fun w h => (World.cell?_of_block (h.block _ (World.block_lt_of_cell? _ _ C1.out))).trans C1.out)) hHeld ?_
    simp only [List.setIfInBounds_toArray, List.set_cons_zero, List.set_cons_succ]
    refine take_at (i := 7) 12 rfl rfl (by kernel_rfl) (by kernel_rfl) (by kernel_rfl) (fun _ _ _ h => h) (cell_yields (by rfl) 3 (.tmp 11) rfl w.heap.size 0 rfl .i64 r Tryd.underlying3 (fun w h => (World.cell?_of_block (h.block _ (World.block_lt_of_cell? _ _ C0.out))).trans C0.out)) hHeld ?_
    simp only [List.setIfInBounds_toArray, List.set_cons_zero, List.set_cons_succ]
    refine wpAnyH_ready (rs := [8]) (by kernel_rfl) (by simp) ?_
    refine AllReadyH.cons rfl (fun K hK => ?_) AllReadyH.nil
    go_simp
    go_at_call 54
    refine (GT.out _ (dots_below HV.out (below_next B0.out hHeld))).mono ?_
    rintro e w6 ⟨rfl, hb⟩
    dsimp only
    refine hK.out _ _ (below_next hHeld hb) (fun hHeld => ?_)
    clear hK K hb
    refine take_at (i := 9) 14 rfl rfl (by kernel_rfl) (by kernel_rfl) (by kernel_rfl) (fun _ _ _ h => h) (sure_yes (by rfl) (fun w => by go_simp; try with_reducible rfl)) hHeld ?_
    simp only [List.setIfInBounds_toArray, List.set_cons_zero, List.set_cons_succ]
    refine take_at (i := 10) 15 rfl rfl (by kernel_rfl) (by kernel_rfl) (by kernel_rfl) (fun _ _ _ h => h) (sure_yes (by rfl) (fun w => by go_simp; try with_reducible rfl)) hHeld ?_
    simp only [List.setIfInBounds_toArray, List.set_cons_zero, List.set_cons_succ]
    refine take_at (i := 11) 4 rfl rfl (by kernel_rfl) (by kernel_rfl) (by kernel_rfl) (fun _ _ _ h => h) (sure_yes (by rfl) (fun w => by go_simp; try with_reducible rfl)) hHeld ?_
    simp only [List.setIfInBounds_toArray, List.set_cons_zero, List.set_cons_succ]
    refine wpAnyH_done (by kernel_rfl) ?_ _
    go_wp2
    go_ret
    exact ⟨by rw [HR.out]; rfl, below_next B0.out hHeld⟩
  | false =>
    rw [hm] at MY HR
    clear hm
    go_enter Tryd.func31, Tryd.ntmps31
    go_wp2
    generalize w.alloc (.cells #[.int .i64 r, .int .i64 q] 32 (0, 0)) = W0 at *
    refine wp_region_held_drew (S := fun w' => Below W0.heap.size W0 w') (by kernel_rfl) (drawS (Below.refl _ _)) (fun hHeld => ?_)
    generalize W0.drew = wd at hHeld ⊢
    refine take_at (i := 0) 5 rfl rfl (by kernel_rfl) (by kernel_rfl) (by kernel_rfl) (fun _ _ _ h => h) (row_yields (by rfl) 32 (.tmp 3) rfl w.heap.size rfl 32 _ (0, 0) _ Tryd.underlying32 rfl (by kernel_rfl) (fun _ h => row_kept E0.out h)) hHeld ?_
    simp only [List.setIfInBounds_toArray, List.set_cons_zero, List.set_cons_succ]
    refine wpAnyH_ready (rs := [1]) (by kernel_rfl) (by simp) ?_
    refine AllReadyH.cons rfl (fun K hK => ?_) AllReadyH.nil
    go_simp
    go_at_call 27
    refine (MY.out _).mono ?_
    rintro e w6 ⟨rfl, hb⟩
    dsimp only
    refine hK.out _ _ (below_next hHeld hb) (fun hHeld => ?_)
    clear hK K hb
    refine take_at (i := 2) 7 rfl rfl (by kernel_rfl) (by kernel_rfl) (by kernel_rfl) (fun _ _ _ h => h) (sure_yes (by rfl) (fun w => by go_simp; try with_reducible rfl)) hHeld ?_
    simp only [List.setIfInBounds_toArray, List.set_cons_zero, List.set_cons_succ]
    refine take_at (i := 3) 8 rfl rfl (by kernel_rfl) (by kernel_rfl) (by kernel_rfl) (fun _ _ _ h => h) (.inr ⟨by rfl, rfl⟩) hHeld ?_
    simp only [List.setIfInBounds_toArray, List.set_cons_zero, List.set_cons_succ]
    refine take_at (i := 4) 9 rfl rfl (by kernel_rfl) (by kernel_rfl) (by kernel_rfl) (fun _ _ _ h => h) (.inr ⟨by rfl, rfl⟩) hHeld ?_
    simp only [List.setIfInBounds_toArray, List.set_cons_zero, List.set_cons_succ]
    refine take_at (i := 5) 10 rfl rfl (by kernel_rfl) (by kernel_rfl) (by kernel_rfl) (fun _ _ _ h => h) (.inr ⟨by rfl, rfl⟩) hHeld ?_
    simp only [List.setIfInBounds_toArray, List.set_cons_zero, List.set_cons_succ]
    refine take_at (i := 6) 11 rfl rfl (by kernel_rfl) (by kernel_rfl) (by kernel_rfl) (fun _ _ _ h => h) (.inr ⟨by rfl, rfl⟩) hHeld ?_
    simp only [List.setIfInBounds_toArray, List.set_cons_zero, List.set_cons_succ]
    refine take_at (i := 7) 12 rfl rfl (by kernel_rfl) (by kernel_rfl) (by kernel_rfl) (fun _ _ _ h => h) (.inr ⟨by rfl, rfl⟩) hHeld ?_
    simp only [List.setIfInBounds_toArray, List.set_cons_zero, List.set_cons_succ]
    refine take_at (i := 8) 13 rfl rfl (by kernel_rfl) (by kernel_rfl) (by kernel_rfl) (fun _ _ _ h => h) (.inr ⟨by rfl, rfl⟩) hHeld ?_
    simp only [List.setIfInBounds_toArray, List.set_cons_zero, List.set_cons_succ]
    refine take_at (i := 9) 14 rfl rfl (by kernel_rfl) (by kernel_rfl) (by kernel_rfl) (fun _ _ _ h => h) (.inr ⟨by rfl, rfl⟩) hHeld ?_
    simp only [List.setIfInBounds_toArray, List.set_cons_zero, List.set_cons_succ]
    refine take_at (i := 10) 15 rfl rfl (by kernel_rfl) (by kernel_rfl) (by kernel_rfl) (fun _ _ _ h => h) (sure_yes (by rfl) (fun w => by go_simp; try with_reducible rfl)) hHeld ?_
    simp only [List.setIfInBounds_toArray, List.set_cons_zero, List.set_cons_succ]
    refine take_at (i := 11) 4 rfl rfl (by kernel_rfl) (by kernel_rfl) (by kernel_rfl) (fun _ _ _ h => h) (sure_yes (by rfl) (fun w => by go_simp; try with_reducible rfl)) hHeld ?_
    simp only [List.setIfInBounds_toArray, List.set_cons_zero, List.set_cons_succ]
    refine wpAnyH_done (by kernel_rfl) ?_ _
    go_wp2
    go_ret
    exact ⟨by rw [HR.out]; rfl, below_next B0.out hHeld⟩
end Go.Proofs.YthkojphgjlojgaaDoor
