/-
Texts that all claims of this seat share, part 14: RefHistory, Law14Awake, Law14Trees.
-/
import Derived.Deep.DeepCutAuto
import Derived.Lib.SlBytesConst
import Derived.Test.YtppmbdpfledejaaGreatDoorPk13
namespace Go.Proofs.YtppmbdpfledejaaGreatDoor
open Go.RowKit
set_option maxRecDepth 100000 in
set_option maxHeartbeats 16000000 in
theorem history_any (l : List DeedT) (hs : ∀ x ∈ l, x.who < 256 ∧ x.other < 256 ∧ x.path < 256 ∧ x.size < 256) (v : Value) (w : World) (hv : HasDeeds w v l) : Calls Tryz.prog 33 #[v] w fun x w' => ∃ vo, ∃ a : Nat → Value, x = .returned (.tuple #[vo, .agg #[a 0, a 1, a 2]]) ∧ HasEvs w' vo (histN l).out ∧ (∀ j, j < 3 → TypDots w' (a j) ((histN l).know j)) ∧ Below w.heap.size w w' := by
  have HS := Lib.hid hs
  have HV := Lib.hid hv
  obtain ⟨n, hn⟩ : ∃ n, n = l.length := ⟨_, rfl⟩
  obtain ⟨ao, cap, rfl⟩ := deeds_shape hv n hn
  have HN := Lib.hid hn
  clear hs hv hn
  go_enter Tryz.func33, Tryz.ntmps33
  go_wp2
  have hk1 := heap_last (w.alloc (.cells #[.slice none 0 0, .slice none 0 0, .slice none 0 0] 76 (0, 0))) (.cells #[.slice none 0 0, .slice none 0 0, .slice none 0 0] 76 (0, 0))
  have HI := Lib.hid (show HistAt w (((w.alloc (.cells #[.slice none 0 0, .slice none 0 0, .slice none 0 0] 76 (0, 0))).alloc (.cells #[.slice none 0 0, .slice none 0 0, .slice none 0 0] 76 (0, 0))).alloc (.cells #[.string ⟨#[97]⟩, .string ⟨#[97, 47, 98]⟩, .string ⟨#[99]⟩, .string ⟨#[100]⟩] 9 (0, 0))) hist0 (.slice none 0 0) from hist_start w)
  clear hk1
  go_loopw [5, 7, 8, 9, 10] (fun o c _ _ _ wr => ∃ k : Nat, k ≤ n ∧ k ≤ 40 ∧ c = .int .i64 (k : Int) ∧ HistAt w wr ((l.take k).foldl stepH hist0) o) (fun _ c _ _ _ _ => 40 - (intOf c).toNat)
  case atStart => exact ⟨0, by omega, by omega, rfl, HI.out⟩
  case round =>
    obtain ⟨k, hkn, hk40, rfl, hh⟩ := hrel
    have HH := Lib.hid hh
    by_cases hr : k < n ∧ k < 40
    · have q0 : (k : Int) < (n : Int) := by omega
      have q1 : (k : Int) < 40 := by omega
      obtain ⟨d, hd⟩ : ∃ d, l[k]? = some d := ⟨_, List.getElem?_eq_getElem (by have := HN.out; omega)⟩
      obtain ⟨a, us, hus, hown, hres, hkn2, htyp, hpaths, hsz, hbel⟩ := hh
      obtain ⟨ad, cap', e, hdc⟩ := deeds_at (deeds_below HV.out hbel) n k HN.out.symm d hd
      cases e
      obtain ⟨b1, b2, b3, b4⟩ := HS.out d (List.mem_of_getElem? hd)
      obtain ⟨i, hi⟩ : ∃ i, i = d.who % 3 := ⟨_, rfl⟩
      obtain ⟨oo, hoo⟩ : ∃ j, j = d.other % 3 := ⟨_, rfl⟩
      have hi3 : i < 3 := by omega
      have ho3 : oo < 3 := by omega
      have q3 : (i : Int) < 3 := by omega
      have q4 : (oo : Int) < 3 := by omega
      obtain ⟨wa, ta, ea⟩ := deed_nums d.who 3 b1
      obtain ⟨wo, tq, eo⟩ := deed_nums d.other 3 b2
      have wo2 : IntKind.i64.wrap (d.other : Int) = (d.other : Int) := deed_wrap _ b2
      rw [← hi] at ta ea
      rw [← hoo] at tq eo
      have ta' : (d.who : Int).tmod 3 = (i : Int) := ta
      have ea' : (d.who : Int) % 3 = (i : Int) := ea
      have tq' : (d.other : Int).tmod 3 = (oo : Int) := tq
      have eo' : (d.other : Int) % 3 = (oo : Int) := eo
      have HIO := Lib.hid (And.intro hi (And.intro hoo (And.intro hi3 ho3)))
      clear ta ea tq eo hi hoo hi3 ho3
      have HDC := Lib.hid hdc
      have HD := Lib.hid hd
      have HB := Lib.hid (And.intro b1 (And.intro b2 (And.intro b3 b4)))
      have HO := Lib.hid hown
      have HR := Lib.hid (And.intro hres (And.intro hkn2 (And.intro hpaths hsz)))
      have HY := Lib.hid htyp
      have HU := Lib.hid hus
      have HBL := Lib.hid hbel
      clear hdc hd b1 b2 b3 b4 hown hres hkn2 hpaths hsz htyp hus hbel
      go_upto_region 9 with (first
        | (refine load_deed (by rfl) 80 (.tmp 24) rfl (ad.add (k * 6)) rfl Tryz.underlying80 deedSize HDC.out ?_))
      have hbw := (Below.refl wr.heap.size wr).alloc (Nat.le_refl _) (.cells #[.int .u8 (d.who : Int), .int .u8 (d.other : Int), .int .u8 (d.path : Int), .bool d.learns, .bool d.gone, .int .u8 (d.size : Int)] 80 (0, 0))
      have HD1 := Lib.hid (heap_last wr (.cells #[.int .u8 (d.who : Int), .int .u8 (d.other : Int), .int .u8 (d.path : Int), .bool d.learns, .bool d.gone, .int .u8 (d.size : Int)] 80 (0, 0)))
      have HR1 := Lib.hid (And.intro (row_kept HR.out.1 hbw) (And.intro (row_kept HR.out.2.1 hbw) (And.intro (row_kept HR.out.2.2.1 hbw) (Nat.le_trans HR.out.2.2.2 hbw.size))))
      have HY1 := Lib.hid (fun j hj => typ_below (HY.out j hj) hbw)
      have HO1 := Lib.hid (show OwnEvs _ _ _ us from ⟨own_below HO.out.1 hbw, fun x hx => typ_below (HO.out.2 x hx) hbw⟩)
      have HB1 := Lib.hid (below_next HBL.out hbw)
      have HLT := Lib.hid (show w.heap.size + 3 ≤ wr.heap.size from HR.out.2.2.2)
      clear hbw
      generalize wr.alloc (.cells #[.int .u8 (d.who : Int), .int .u8 (d.other : Int), .int .u8 (d.path : Int), .bool d.learns, .bool d.gone, .int .u8 (d.size : Int)] 80 (0, 0)) = W1 at *
      have c3 : W1.cell? ⟨wr.heap.size, 3, none⟩ = some (.bool d.learns) := (cell_of_row _ _ 3 _ _ _ HD1.out).trans rfl
      cases hL : d.learns with
      | true =>
        rw [hL] at c3
        go_upto_region 10 with fail
        obtain ⟨nn, hinv⟩ := inv_take l (fun x hx => (HS.out x hx).2.2.2) k hk40
        have JN := Lib.hid (fun v u w hv hu => refJoin_typ10 (((l.take k).foldl stepH hist0).know i) (((l.take k).foldl stepH hist0).know oo) (know_len hinv HIO.out.2.2.1) (know_len hinv HIO.out.2.2.2) v u w hv hu)
        clear hinv
        generalize hgen : (l.take k).foldl stepH hist0 = h at *
        obtain ⟨ai, ci, hai⟩ := dots_shape (HY1.out i HIO.out.2.2.1).1 _ rfl
        obtain ⟨aj, cj, haj⟩ := dots_shape (HY1.out oo HIO.out.2.2.2).1 _ rfl
        have HAI := Lib.hid hai
        have HAJ := Lib.hid haj
        have HG := Lib.hid hgen
        clear hai haj hgen
        refine wp_region_held_drew (S := fun w' => Below w.heap.size w w' ∧ w'.heap[wr.heap.size]? = some (.cells #[.int .u8 (d.who : Int), .int .u8 (d.other : Int), .int .u8 (d.path : Int), .bool d.learns, .bool d.gone, .int .u8 (d.size : Int)] 80 (0, 0))) (by kernel_rfl) ⟨drawS HB1.out, HD1.out⟩ (fun hHeld => ?_)
        have hdr : Below W1.heap.size W1 W1.drew := drawS (Below.refl _ _)
        have RD := Lib.hid (show W1.drew.heap[w.heap.size]? = _ ∧ W1.drew.heap[w.heap.size + 1]? = _ ∧ W1.drew.heap[w.heap.size + 2]? = _ ∧ w.heap.size + 3 ≤ W1.drew.heap.size from HR1.out)
        have YD := Lib.hid (fun j hj => typ_below (HY1.out j hj) hdr)
        have OD := Lib.hid (show OwnEvs _ _ _ us from ⟨own_below HO1.out.1 hdr, fun x hx => typ_below (HO1.out.2 x hx) hdr⟩)
        clear hdr
        generalize W1.drew = wd at *
        refine take_at (i := 0) 32 rfl rfl (by kernel_rfl) (by kernel_rfl) (by kernel_rfl) (fun _ _ _ h => h) (sure_yes (by rfl) (fun w => by go_simp; try with_reducible rfl)) hHeld ?_
        simp only [List.setIfInBounds_toArray, List.set_cons_zero, List.set_cons_succ]
        refine take_at (i := 1) 33 rfl rfl (by kernel_rfl) (by kernel_rfl) (by kernel_rfl) (fun _ _ _ h => h) (sure_yes (by rfl) (fun w => by go_simp; try with_reducible rfl)) hHeld ?_
        simp only [List.setIfInBounds_toArray, List.set_cons_zero, List.set_cons_succ]
        refine take_at (i := 2) 34 rfl rfl (by kernel_rfl) (by kernel_rfl) (by kernel_rfl) (fun _ _ _ h => h) (sure_yes (by rfl) (fun w => by go_simp; try with_reducible rfl)) hHeld ?_
        simp only [List.setIfInBounds_toArray, List.set_cons_zero, List.set_cons_succ]
        refine take_at (i := 4) 36 rfl rfl (by kernel_rfl) (by kernel_rfl) (by kernel_rfl) (fun _ _ _ h => h) (sure_yes (by rfl) (fun w => by go_simp; try with_reducible rfl)) hHeld ?_
        simp only [List.setIfInBounds_toArray, List.set_cons_zero, List.set_cons_succ]
        refine take_at (i := 5) 37 rfl rfl (by kernel_rfl) (by kernel_rfl) (by kernel_rfl) (fun _ _ _ h => h) (cell_yields (by rfl) 5 (.tmp 36) rfl wr.heap.size 1 rfl .u8 _ Tryz.underlying5 (fun _ h => (cell_of_row _ _ 1 _ _ _ h.2).trans rfl)) hHeld ?_
        simp only [List.setIfInBounds_toArray, List.set_cons_zero, List.set_cons_succ]
        refine take_at (i := 6) 38 rfl rfl (by kernel_rfl) (by kernel_rfl) (by kernel_rfl) (fun _ _ _ h => h) (sure_yes (by rfl) (fun w => by go_simp; try with_reducible rfl)) hHeld ?_
        simp only [List.setIfInBounds_toArray, List.set_cons_zero, List.set_cons_succ]
        refine take_at (i := 7) 39 rfl rfl (by kernel_rfl) (by kernel_rfl) (by kernel_rfl) (fun _ _ _ h => h) (sure_yes (by rfl) (fun w => by go_simp; try with_reducible rfl)) hHeld ?_
        simp only [List.setIfInBounds_toArray, List.set_cons_zero, List.set_cons_succ]
        refine take_at (i := 8) 40 rfl rfl (by kernel_rfl) (by kernel_rfl) (by kernel_rfl) (fun _ _ _ h => h) (sure_yes (by rfl) (fun w => by go_simp; try with_reducible rfl)) hHeld ?_
        simp only [List.setIfInBounds_toArray, List.set_cons_zero, List.set_cons_succ]
        refine wpAnyH_ready (rs := [3, 9]) (by kernel_rfl) (by simp) ?_
        refine AllReadyH.cons rfl (fun CONT hCONT => ?_) (AllReadyH.cons rfl (fun CONT hCONT => ?_) (AllReadyH.nil))
        · refine load_cell_at 35 rfl (by rfl) 75 (.tmp 34) rfl ⟨w.heap.size + 1, i, none⟩ rfl ai _ ci Tryz.underlying75 (by rw [← HAI.out]; exact know_cell RD.out.2.1 HIO.out.2.2.1) ?_
          refine hCONT.out _ _ hHeld (fun hHeld => ?_)
          clear hCONT CONT
          simp only [List.setIfInBounds_toArray, List.set_cons_zero, List.set_cons_succ]
          refine wpAnyH_ready (rs := [9]) (by kernel_rfl) (by simp) ?_
          refine AllReadyH.cons rfl (fun CONT hCONT => ?_) AllReadyH.nil
          refine load_cell_at 41 rfl (by rfl) 75 (.tmp 40) rfl ⟨w.heap.size + 1, oo, none⟩ rfl aj _ cj Tryz.underlying75 (by rw [← HAJ.out]; exact know_cell RD.out.2.1 HIO.out.2.2.2) ?_
          refine hCONT.out _ _ hHeld (fun hHeld => ?_)
          clear hCONT CONT
          simp only [List.setIfInBounds_toArray, List.set_cons_zero, List.set_cons_succ]
          refine wpAnyH_ready (rs := [10]) (by kernel_rfl) (by simp) ?_
          refine AllReadyH.cons rfl (fun CONT hCONT => ?_) AllReadyH.nil
          go_simp
          go_at_call 58
          refine (JN.out _ _ _ (by rw [← HAI.out]; exact (YD.out i HIO.out.2.2.1).1) (by rw [← HAJ.out]; exact (YD.out oo HIO.out.2.2.2).1)).mono ?_
          rintro x wz ⟨u, rfl, hu, hb⟩
          dsimp only
          have RZ := Lib.hid (And.intro (row_kept RD.out.1 hb) (And.intro (row_kept RD.out.2.1 hb) (And.intro (row_kept RD.out.2.2.1 hb) (Nat.le_trans RD.out.2.2.2 hb.size))))
          have YZ := Lib.hid (fun j hj => typ_below (YD.out j hj) hb)
          have OZ := Lib.hid (show OwnEvs _ _ _ us from ⟨own_below OD.out.1 hb, fun x hx => typ_below (OD.out.2 x hx) hb⟩)
          have UZ := Lib.hid hu
          obtain ⟨ao3, cap3, rfl⟩ := dots_shape hu.1 _ rfl
          refine hCONT.out _ _ ⟨below_next hHeld.1 hb, row_kept hHeld.2 hb⟩ (fun hHeld => ?_)
          clear hCONT CONT hb hu
          refine take_at (i := 11) 43 rfl rfl (by kernel_rfl) (by kernel_rfl) (by kernel_rfl) (fun _ _ _ h => h) (sure_yes (by rfl) (fun w => by go_simp; try with_reducible rfl)) hHeld ?_
          simp only [List.setIfInBounds_toArray, List.set_cons_zero, List.set_cons_succ]
          refine wpAnyH_ready (rs := [12]) (by kernel_rfl) (by simp) ?_
          refine AllReadyH.cons rfl (fun CONT hCONT => ?_) AllReadyH.nil
          refine store_slice_at rfl (by rfl) 75 (.tmp 43) (.tmp 42) rfl (w.heap.size + 1) i #[a 0, a 1, a 2] ao3 _ cap3 76 RZ.out.2.1 rfl rfl HIO.out.2.2.1 vecSize12 (fun w9 hg hs => ?_)
          have hlt := HLT.out
          have GK := Lib.hid (show w9.heap[w.heap.size + 1]? = _ from hg)
          have GS := Lib.hid hs
          refine hCONT.out _ _ ⟨solo_below hHeld.1 hs (by omega), (hs.block _ (by omega)).trans hHeld.2⟩ (fun hHeld => ?_)
          clear hCONT CONT hg hs hlt
          refine wpAnyH_done (by kernel_rfl) ?_ _
          have HX := Lib.hid (show HistAt w w9 ((l.take (k + 1)).foldl stepH hist0) _ by
            rw [take_step HD.out, HG.out]
            exact hist_learn hL HIO.out.1 HIO.out.2.1 HIO.out.2.2.1 HU.out RZ.out.1 RZ.out.2.1 RZ.out.2.2.1 RZ.out.2.2.2 YZ.out OZ.out UZ.out GK.out GS.out hHeld.1)
          go_wp2
          refine ⟨⟨k + 1, by omega, by omega, by simp, HX.out⟩, ?_⟩
          simp [intOf] <;> omega
        · refine load_cell_at 41 rfl (by rfl) 75 (.tmp 40) rfl ⟨w.heap.size + 1, oo, none⟩ rfl aj _ cj Tryz.underlying75 (by rw [← HAJ.out]; exact know_cell RD.out.2.1 HIO.out.2.2.2) ?_
          refine hCONT.out _ _ hHeld (fun hHeld => ?_)
          clear hCONT CONT
          simp only [List.setIfInBounds_toArray, List.set_cons_zero, List.set_cons_succ]
          refine wpAnyH_ready (rs := [3]) (by kernel_rfl) (by simp) ?_
          refine AllReadyH.cons rfl (fun CONT hCONT => ?_) AllReadyH.nil
          refine load_cell_at 35 rfl (by rfl) 75 (.tmp 34) rfl ⟨w.heap.size + 1, i, none⟩ rfl ai _ ci Tryz.underlying75 (by rw [← HAI.out]; exact know_cell RD.out.2.1 HIO.out.2.2.1) ?_
          refine hCONT.out _ _ hHeld (fun hHeld => ?_)
          clear hCONT CONT
          simp only [List.setIfInBounds_toArray, List.set_cons_zero, List.set_cons_succ]
          refine wpAnyH_ready (rs := [10]) (by kernel_rfl) (by simp) ?_
          refine AllReadyH.cons rfl (fun CONT hCONT => ?_) AllReadyH.nil
          go_simp
          go_at_call 58
          refine (JN.out _ _ _ (by rw [← HAI.out]; exact (YD.out i HIO.out.2.2.1).1) (by rw [← HAJ.out]; exact (YD.out oo HIO.out.2.2.2).1)).mono ?_
          rintro x wz ⟨u, rfl, hu, hb⟩
          dsimp only
          have RZ := Lib.hid (And.intro (row_kept RD.out.1 hb) (And.intro (row_kept RD.out.2.1 hb) (And.intro (row_kept RD.out.2.2.1 hb) (Nat.le_trans RD.out.2.2.2 hb.size))))
          have YZ := Lib.hid (fun j hj => typ_below (YD.out j hj) hb)
          have OZ := Lib.hid (show OwnEvs _ _ _ us from ⟨own_below OD.out.1 hb, fun x hx => typ_below (OD.out.2 x hx) hb⟩)
          have UZ := Lib.hid hu
          obtain ⟨ao3, cap3, rfl⟩ := dots_shape hu.1 _ rfl
          refine hCONT.out _ _ ⟨below_next hHeld.1 hb, row_kept hHeld.2 hb⟩ (fun hHeld => ?_)
          clear hCONT CONT hb hu
          refine take_at (i := 11) 43 rfl rfl (by kernel_rfl) (by kernel_rfl) (by kernel_rfl) (fun _ _ _ h => h) (sure_yes (by rfl) (fun w => by go_simp; try with_reducible rfl)) hHeld ?_
          simp only [List.setIfInBounds_toArray, List.set_cons_zero, List.set_cons_succ]
          refine wpAnyH_ready (rs := [12]) (by kernel_rfl) (by simp) ?_
          refine AllReadyH.cons rfl (fun CONT hCONT => ?_) AllReadyH.nil
          refine store_slice_at rfl (by rfl) 75 (.tmp 43) (.tmp 42) rfl (w.heap.size + 1) i #[a 0, a 1, a 2] ao3 _ cap3 76 RZ.out.2.1 rfl rfl HIO.out.2.2.1 vecSize12 (fun w9 hg hs => ?_)
          have hlt := HLT.out
          have GK := Lib.hid (show w9.heap[w.heap.size + 1]? = _ from hg)
          have GS := Lib.hid hs
          refine hCONT.out _ _ ⟨solo_below hHeld.1 hs (by omega), (hs.block _ (by omega)).trans hHeld.2⟩ (fun hHeld => ?_)
          clear hCONT CONT hg hs hlt
          refine wpAnyH_done (by kernel_rfl) ?_ _
          have HX := Lib.hid (show HistAt w w9 ((l.take (k + 1)).foldl stepH hist0) _ by
            rw [take_step HD.out, HG.out]
            exact hist_learn hL HIO.out.1 HIO.out.2.1 HIO.out.2.2.1 HU.out RZ.out.1 RZ.out.2.1 RZ.out.2.2.1 RZ.out.2.2.2 YZ.out OZ.out UZ.out GK.out GS.out hHeld.1)
          go_wp2
          refine ⟨⟨k + 1, by omega, by omega, by simp, HX.out⟩, ?_⟩
          simp [intOf] <;> omega
      | false =>
        rw [hL] at c3
        go_upto_region 11 with fail
        obtain ⟨nn, hinv⟩ := inv_take l (fun x hx => (HS.out x hx).2.2.2) k hk40
        have GN := Lib.hid (fun v w hv => refGet_any10 (((l.take k).foldl stepH hist0).know i) (know_len hinv HIO.out.2.2.1) (i : Int) v w hv)
        have HKL := Lib.hid (know_len hinv HIO.out.2.2.1)
        clear hinv
        generalize hgen : (l.take k).foldl stepH hist0 = h at *
        obtain ⟨ai, ci, hai⟩ := dots_shape (HY1.out i HIO.out.2.2.1).1 _ rfl
        have HAI := Lib.hid hai
        have HG := Lib.hid hgen
        have hbd := getV_bd (h.know i) (i : Int)
        obtain ⟨G, hG⟩ : ∃ G, G = getV (h.know i) (i : Int) := ⟨_, rfl⟩
        obtain ⟨q, hq⟩ : ∃ q, G + 1 = q := ⟨_, rfl⟩
        rw [← hG] at GN hbd
        obtain ⟨pp, hpp⟩ : ∃ pp, pp = d.path % 4 := ⟨_, rfl⟩
        have hp4 : pp < 4 := by rw [hpp]; exact Nat.mod_lt _ (by decide)
        have q5 : (pp : Int) < 4 := by omega
        obtain ⟨EN, hEN⟩ : ∃ EN : Ev, EN = ⟨(i : Int), q, h.know i, 1, pathsH.getD pp [], sizeF d.size, (d.size : Int)⟩ := ⟨_, rfl⟩
        have HEN := Lib.hid hEN
        have HP4 := Lib.hid (And.intro hpp (And.intro hp4 (And.intro hG hq)))
        have wq : IntKind.i64.wrap (G + 1) = q := by rw [hq, IntKind.wrap_i64]; omega
        have wq2 : wrap64 (G + 1) = q := by rw [hq, wrap64]; omega
        have ws2 : IntKind.i64.wrap (d.size : Int) = (d.size : Int) := deed_wrap _ HB.out.2.2.2
        have ws3 : wrap64 (d.size : Int) = (d.size : Int) := (deed_nums d.size 1 HB.out.2.2.2).1
        obtain ⟨wp, tp, ep⟩ := deed_nums d.path 4 HB.out.2.2.1
        rw [← hpp] at tp ep
        have wp2 : IntKind.i64.wrap (d.path : Int) = (d.path : Int) := deed_wrap _ HB.out.2.2.1
        have tp' : (d.path : Int).tmod 4 = (pp : Int) := tp
        have ep' : (d.path : Int) % 4 = (pp : Int) := ep
        clear hai hgen hEN hpp hp4 hG hq hbd tp ep
        go_cut [10] (fun s10 wx => ∃ PB, s10 = .pointer (some ⟨PB, 0, none⟩) ∧ W1.heap.size ≤ PB ∧ EvAt wx PB 92 EN (.slice ai (h.know i).length ci) ∧ Below W1.heap.size W1 wx)
        case first =>
          rename_i JJ KK hJJ hKK
          have HJJ := Lib.hid hJJ
          have HKK := Lib.hid hKK
          clear hJJ hKK
          refine wp_region_held_drew (S := fun w' => Below W1.heap.size W1 w') (by kernel_rfl) (drawS (Below.refl _ _)) (fun hHeld => ?_)
          generalize W1.drew = wd at hHeld ⊢
          refine take_at (i := 0) 44 rfl rfl (by kernel_rfl) (by kernel_rfl) (by kernel_rfl) (fun _ _ _ h => h) (sure_yes (by rfl) (fun w => by go_simp; try with_reducible rfl)) hHeld ?_
          simp only [List.setIfInBounds_toArray, List.set_cons_zero, List.set_cons_succ]
          refine take_at (i := 1) 45 rfl rfl (by kernel_rfl) (by kernel_rfl) (by kernel_rfl) (fun _ _ _ h => h) (sure_yes (by rfl) (fun w => by go_simp; try with_reducible rfl)) hHeld ?_
          simp only [List.setIfInBounds_toArray, List.set_cons_zero, List.set_cons_succ]
          refine take_at (i := 2) 46 rfl rfl (by kernel_rfl) (by kernel_rfl) (by kernel_rfl) (fun _ _ _ h => h) (sure_yes (by rfl) (fun w => by go_simp; try with_reducible rfl)) hHeld ?_
          simp only [List.setIfInBounds_toArray, List.set_cons_zero, List.set_cons_succ]
          refine take_at (i := 4) 48 rfl rfl (by kernel_rfl) (by kernel_rfl) (by kernel_rfl) (fun _ _ _ h => h) (sure_yes (by rfl) (fun w => by go_simp; try with_reducible rfl)) hHeld ?_
          simp only [List.setIfInBounds_toArray, List.set_cons_zero, List.set_cons_succ]
          refine take_at (i := 8) 52 rfl rfl (by kernel_rfl) (by kernel_rfl) (by kernel_rfl) (fun _ _ _ h => h) (sure_yes (by rfl) (fun w => by go_simp; try with_reducible rfl)) hHeld ?_
          simp only [List.setIfInBounds_toArray, List.set_cons_zero, List.set_cons_succ]
          refine take_at (i := 9) 53 rfl rfl (by kernel_rfl) (by kernel_rfl) (by kernel_rfl) (fun _ _ _ h => h) (sure_yes (by rfl) (fun w => by go_simp; try with_reducible rfl)) hHeld ?_
          simp only [List.setIfInBounds_toArray, List.set_cons_zero, List.set_cons_succ]
          refine take_at (i := 11) 55 rfl rfl (by kernel_rfl) (by kernel_rfl) (by kernel_rfl) (fun _ _ _ h => h) (sure_yes (by rfl) (fun w => by go_simp; try with_reducible rfl)) hHeld ?_
          simp only [List.setIfInBounds_toArray, List.set_cons_zero, List.set_cons_succ]
          refine take_at (i := 12) 56 rfl rfl (by kernel_rfl) (by kernel_rfl) (by kernel_rfl) (fun _ _ _ h => h) (sure_yes (by rfl) (fun w => by go_simp; try with_reducible rfl)) hHeld ?_
          simp only [List.setIfInBounds_toArray, List.set_cons_zero, List.set_cons_succ]
          refine take_at (i := 18) 62 rfl rfl (by kernel_rfl) (by kernel_rfl) (by kernel_rfl) (fun _ _ _ h => h) (sure_yes (by rfl) (fun w => by go_simp; try with_reducible rfl)) hHeld ?_
          simp only [List.setIfInBounds_toArray, List.set_cons_zero, List.set_cons_succ]
          refine take_at (i := 21) 65 rfl rfl (by kernel_rfl) (by kernel_rfl) (by kernel_rfl) (fun _ _ _ h => h) (sure_yes (by rfl) (fun w => by go_simp; try with_reducible rfl)) hHeld ?_
          simp only [List.setIfInBounds_toArray, List.set_cons_zero, List.set_cons_succ]
          refine take_at (i := 3) 47 rfl rfl (by kernel_rfl) (by kernel_rfl) (by kernel_rfl) (fun _ _ _ h => h) (slice_yields12H (by rfl) 75 (.tmp 46) rfl ⟨w.heap.size + 1, i, none⟩ rfl ai _ ci Tryz.underlying75 (fun _ h => by rw [← HAI.out]; exact know_cell (row_kept HR1.out.2.1 h) HIO.out.2.2.1)) hHeld ?_
          simp only [List.setIfInBounds_toArray, List.set_cons_zero, List.set_cons_succ]
          refine take_at (i := 10) 54 rfl rfl (by kernel_rfl) (by kernel_rfl) (by kernel_rfl) (fun _ _ _ h => h) (slice_yields12H (by rfl) 75 (.tmp 53) rfl ⟨w.heap.size + 1, i, none⟩ rfl ai _ ci Tryz.underlying75 (fun _ h => by rw [← HAI.out]; exact know_cell (row_kept HR1.out.2.1 h) HIO.out.2.2.1)) hHeld ?_
          simp only [List.setIfInBounds_toArray, List.set_cons_zero, List.set_cons_succ]
          refine take_at (i := 13) 57 rfl rfl (by kernel_rfl) (by kernel_rfl) (by kernel_rfl) (fun _ _ _ h => h) (cell_yields (by rfl) 5 (.tmp 56) rfl wr.heap.size 2 rfl .u8 _ Tryz.underlying5 (fun _ h => (cell_of_row _ _ 2 _ _ _ (row_kept HD1.out h)).trans rfl)) hHeld ?_
          simp only [List.setIfInBounds_toArray, List.set_cons_zero, List.set_cons_succ]
          refine take_at (i := 14) 58 rfl rfl (by kernel_rfl) (by kernel_rfl) (by kernel_rfl) (fun _ _ _ h => h) (sure_yes (by rfl) (fun w => by go_simp; try with_reducible rfl)) hHeld ?_
          simp only [List.setIfInBounds_toArray, List.set_cons_zero, List.set_cons_succ]
          refine take_at (i := 15) 59 rfl rfl (by kernel_rfl) (by kernel_rfl) (by kernel_rfl) (fun _ _ _ h => h) (sure_yes (by rfl) (fun w => by go_simp; try with_reducible rfl)) hHeld ?_
          simp only [List.setIfInBounds_toArray, List.set_cons_zero, List.set_cons_succ]
          refine take_at (i := 16) 60 rfl rfl (by kernel_rfl) (by kernel_rfl) (by kernel_rfl) (fun _ _ _ h => h) (sure_yes (by rfl) (fun w => by go_simp; try with_reducible rfl)) hHeld ?_
          simp only [List.setIfInBounds_toArray, List.set_cons_zero, List.set_cons_succ]
          refine take_at (i := 17) 61 rfl rfl (by kernel_rfl) (by kernel_rfl) (by kernel_rfl) (fun _ _ _ h => h) (str_yields12 (by rfl) 9 (.tmp 60) rfl ⟨w.heap.size + 1 + 1, pp, none⟩ rfl _ Tryz.underlying9 (fun _ h => path_cellH (row_kept HR1.out.2.2.1 h) HP4.out.2.1)) hHeld ?_
          simp only [List.setIfInBounds_toArray, List.set_cons_zero, List.set_cons_succ]
          refine take_at (i := 19) 63 rfl rfl (by kernel_rfl) (by kernel_rfl) (by kernel_rfl) (fun _ _ _ h => h) (cell_yields (by rfl) 5 (.tmp 62) rfl wr.heap.size 5 rfl .u8 _ Tryz.underlying5 (fun _ h => (cell_of_row _ _ 5 _ _ _ (row_kept HD1.out h)).trans rfl)) hHeld ?_
          simp only [List.setIfInBounds_toArray, List.set_cons_zero, List.set_cons_succ]
          refine take_at (i := 20) 64 rfl rfl (by kernel_rfl) (by kernel_rfl) (by kernel_rfl) (fun _ _ _ h => h) (build_yields (by rfl) 31 #[(0, .tmp 63)] rfl _ _ (dig_built HB.out.2.2.2) (by simp [Act.eval])) hHeld ?_
          simp only [List.setIfInBounds_toArray, List.set_cons_zero, List.set_cons_succ]
          refine take_at (i := 22) 66 rfl rfl (by kernel_rfl) (by kernel_rfl) (by kernel_rfl) (fun _ _ _ h => h) (cell_yields (by rfl) 5 (.tmp 65) rfl wr.heap.size 5 rfl .u8 _ Tryz.underlying5 (fun _ h => (cell_of_row _ _ 5 _ _ _ (row_kept HD1.out h)).trans rfl)) hHeld ?_
          simp only [List.setIfInBounds_toArray, List.set_cons_zero, List.set_cons_succ]
          refine take_at (i := 23) 67 rfl rfl (by kernel_rfl) (by kernel_rfl) (by kernel_rfl) (fun _ _ _ h => h) (sure_yes (by rfl) (fun w => by go_simp; try with_reducible rfl)) hHeld ?_
          simp only [List.setIfInBounds_toArray, List.set_cons_zero, List.set_cons_succ]
          refine wpAnyH_ready (rs := [5, 25]) (by kernel_rfl) (by simp) ?_
          refine AllReadyH.cons rfl (fun CONT hCONT => ?_) (AllReadyH.cons rfl (fun CONT hCONT => ?_) (AllReadyH.nil))
          · go_simp
            go_at_call 59
            refine (GN.out _ _ (by rw [← HAI.out]; exact dots_below (HY1.out i HIO.out.2.2.1).1 hHeld)).mono ?_
            rintro x wz ⟨rfl, hb⟩
            dsimp only
            refine hCONT.out _ _ (below_next hHeld hb) (fun hHeld => ?_)
            clear hCONT CONT hb
            refine take_at (i := 6) 50 rfl rfl (by kernel_rfl) (by kernel_rfl) (by kernel_rfl) (fun _ _ _ h => h) (sure_yes (by rfl) (fun w => by go_simp; try with_reducible rfl)) hHeld ?_
            simp only [List.setIfInBounds_toArray, List.set_cons_zero, List.set_cons_succ]
            refine take_at (i := 7) 51 rfl rfl (by kernel_rfl) (by kernel_rfl) (by kernel_rfl) (fun _ _ _ h => h) (sure_yes (by rfl) (fun w => by go_simp; try with_reducible rfl)) hHeld ?_
            simp only [List.setIfInBounds_toArray, List.set_cons_zero, List.set_cons_succ]
            refine take_at (i := 24) 68 rfl rfl (by kernel_rfl) (by kernel_rfl) (by kernel_rfl) (fun _ _ _ h => h) (build_yields (by rfl) 92 #[(0, .tmp 51), (1, .tmp 54), (2, .const (.int .i64 1)), (3, .tmp 61), (4, .tmp 64), (5, .tmp 67)] rfl _ _ (ev_built EN ai (h.know i).length ci) (by rw [HEN.out]; simp [Act.eval])) hHeld ?_
            simp only [List.setIfInBounds_toArray, List.set_cons_zero, List.set_cons_succ]
            refine ready_allocH 25 10 (by kernel_rfl) rfl rfl (by rfl) 92 rfl (evC noEv (.slice none 0 0)) ev_zeroH (hHeld.alloc hHeld.size _) ?_
            simp only [List.setIfInBounds_toArray, List.set_cons_zero, List.set_cons_succ]
            have hHeld2 := hHeld.alloc hHeld.size (.cells (evC noEv (.slice none 0 0)) 92 (0, 0))
            have A6 := Lib.hid (box_ev wz 92 noEv (.slice none 0 0))
            have LW := Lib.hid (show W1.heap.size ≤ wz.heap.size from hHeld.size)
            replace hHeld := hHeld2
            clear hHeld2
            generalize hgp : wz.heap.size = PB at *
            generalize wz.alloc (.cells (evC noEv (.slice none 0 0)) 92 (0, 0)) = W6 at *
            refine ready_store_ev 26 (by kernel_rfl) rfl rfl (by rfl) 92 (.tmp 10) (.tmp 68) rfl PB EN noEv (.slice ai (h.know i).length ci) (.slice none 0 0) rfl rfl 92 A6.out evSize rfl (fun w7 hg hs7 => ?_)
            have hb7 := solo_below hHeld hs7 LW.out
            refine ⟨hb7, ?_⟩
            have A7 := Lib.hid hg
            have B7 := Lib.hid hb7
            clear hg hs7 hb7 hHeld
            refine wpAnyH_done (by kernel_rfl) ?_ _
            refine HKK.out _ _ ?_
            have hJJ := HJJ.out
            go_meet
            exact ⟨PB, rfl, LW.out, A7.out, B7.out⟩
          · refine alloc_at 10 rfl (by rfl) 92 rfl (evC noEv (.slice none 0 0)) ev_zeroH ?_
            have A6 := Lib.hid (box_ev wd 92 noEv (.slice none 0 0))
            have LW := Lib.hid (show W1.heap.size ≤ wd.heap.size from hHeld.size)
            refine hCONT.out _ _ (hHeld.alloc hHeld.size _) (fun hHeld => ?_)
            clear hCONT CONT
            simp only [List.setIfInBounds_toArray, List.set_cons_zero, List.set_cons_succ]
            generalize hgp : wd.heap.size = PB at *
            generalize wd.alloc (.cells (evC noEv (.slice none 0 0)) 92 (0, 0)) = W6 at *
            refine wpAnyH_ready (rs := [5]) (by kernel_rfl) (by simp) ?_
            refine AllReadyH.cons rfl (fun CONT hCONT => ?_) AllReadyH.nil
            go_simp
            go_at_call 59
            refine (GN.out _ _ (by rw [← HAI.out]; exact dots_below (HY1.out i HIO.out.2.2.1).1 hHeld)).mono ?_
            rintro x wz ⟨rfl, hb⟩
            dsimp only
            have A6 := Lib.hid (evAt_kept A6.out hb)
            refine hCONT.out _ _ (below_next hHeld hb) (fun hHeld => ?_)
            clear hCONT CONT hb
            refine take_at (i := 6) 50 rfl rfl (by kernel_rfl) (by kernel_rfl) (by kernel_rfl) (fun _ _ _ h => h) (sure_yes (by rfl) (fun w => by go_simp; try with_reducible rfl)) hHeld ?_
            simp only [List.setIfInBounds_toArray, List.set_cons_zero, List.set_cons_succ]
            refine take_at (i := 7) 51 rfl rfl (by kernel_rfl) (by kernel_rfl) (by kernel_rfl) (fun _ _ _ h => h) (sure_yes (by rfl) (fun w => by go_simp; try with_reducible rfl)) hHeld ?_
            simp only [List.setIfInBounds_toArray, List.set_cons_zero, List.set_cons_succ]
            refine take_at (i := 24) 68 rfl rfl (by kernel_rfl) (by kernel_rfl) (by kernel_rfl) (fun _ _ _ h => h) (build_yields (by rfl) 92 #[(0, .tmp 51), (1, .tmp 54), (2, .const (.int .i64 1)), (3, .tmp 61), (4, .tmp 64), (5, .tmp 67)] rfl _ _ (ev_built EN ai (h.know i).length ci) (by rw [HEN.out]; simp [Act.eval])) hHeld ?_
            simp only [List.setIfInBounds_toArray, List.set_cons_zero, List.set_cons_succ]
            refine ready_store_ev 26 (by kernel_rfl) rfl rfl (by rfl) 92 (.tmp 10) (.tmp 68) rfl PB EN noEv (.slice ai (h.know i).length ci) (.slice none 0 0) rfl rfl 92 A6.out evSize rfl (fun w7 hg hs7 => ?_)
            have hb7 := solo_below hHeld hs7 LW.out
            refine ⟨hb7, ?_⟩
            have A7 := Lib.hid hg
            have B7 := Lib.hid hb7
            clear hg hs7 hb7 hHeld
            refine wpAnyH_done (by kernel_rfl) ?_ _
            refine HKK.out _ _ ?_
            have hJJ := HJJ.out
            go_meet
            exact ⟨PB, rfl, LW.out, A7.out, B7.out⟩
        case rest =>
          obtain ⟨PB, rfl, hpb, hev, hbw⟩ := hcut
          have PE := Lib.hid hev
          have MD := Lib.hid (show HistMid w wc a h _ us PB from ⟨row_kept HR1.out.1 hbw, row_kept HR1.out.2.1 hbw, row_kept HR1.out.2.2.1 hbw, fun j hj => typ_below (HY1.out j hj) hbw, ⟨own_below HO1.out.1 hbw, fun x hx => typ_below (HO1.out.2 x hx) hbw⟩, Nat.le_trans HR1.out.2.2.2 hpb, fun b hb => Nat.lt_of_lt_of_le (own_blockH HO1.out.1 b hb).2.1 hpb, (Array.getElem?_eq_some_iff.1 hev).1, below_next HB1.out hbw⟩)
          have c4 : wc.cell? ⟨wr.heap.size, 4, none⟩ = some (.bool d.gone) := (cell_of_row _ _ 4 _ _ _ (row_kept HD1.out hbw)).trans rfl
          have WT := Lib.hid (fun v w hv => refWith_typ10 (h.know i) (by have := HKL.out; exact this) (i : Int) q v w hv)
          have HUS := Lib.hid (show us.length ≤ 40 by have := congrArg List.length HU.out; rw [List.length_map] at this; rw [this, ← HG.out]; exact Nat.le_trans (hist_len l k) hk40)
          clear hpb hev hbw
          cases hGn : d.gone with
          | true =>
            rw [hGn] at c4
            go_upto_region 13 with (first
              | (refine load_cell_on (by rfl) 4 (.tmp 69) rfl ⟨wr.heap.size, 4, none⟩ rfl true Tryz.underlying4 c4 ?_))
            go_upto_region 14 with (first
              | (refine store_cell rfl 3 (.tmp 71) (.const (.int .i64 2)) rfl rfl .i64 PB 3 (evC EN (.slice ai (h.know i).length ci)) 2 92 PE.out rfl rfl (by rw [evC_size]; decide) intSizeH ?_; rintro w13 hg hs; rw [ev_kindH] at hg; have MD13 := Lib.hid (histMid_solo MD.out PE.out hs); have PE13 := Lib.hid (show EvAt w13 PB 92 (⟨EN.r, EN.q, EN.deps, 2, EN.path, EN.sum, EN.size⟩ : Ev) (.slice ai (h.know i).length ci) from hg); clear hg hs))
            go_upto_region 15 with (first
              | (refine build_on (by rfl) 31 #[] rfl [] (row .u8 32 zeroF) dig_built0 (by simp) ?_)
              | (refine store_in rfl 31 (.tmp 73) (.tmp 72) rfl rfl PB 5 (evC (⟨EN.r, EN.q, EN.deps, 2, EN.path, EN.sum, EN.size⟩ : Ev) (.slice ai (h.know i).length ci)).toList (row .u8 32 zeroF).toList 92 (by rw [Array.toArray_toList]; exact PE13.out) rfl (by rw [Array.toArray_toList]; rfl) (by rw [sumSize]; simp [row_size]) (by simp [evC_size, row_size]) (row_onesH _) ?_; rintro w14 hg hs; rw [ev_sumH] at hg; have MD14 := Lib.hid (histMid_solo MD13.out PE13.out hs); have PE14 := Lib.hid (show EvAt w14 PB 92 (⟨EN.r, EN.q, EN.deps, 2, EN.path, zeroF, EN.size⟩ : Ev) (.slice ai (h.know i).length ci) from hg); clear hg hs))
            go_upto_region 16 with (first
              | (refine store_cell rfl 3 (.tmp 74) (.const (.int .i64 0)) rfl rfl .i64 PB 37 (evC (⟨EN.r, EN.q, EN.deps, 2, EN.path, zeroF, EN.size⟩ : Ev) (.slice ai (h.know i).length ci)) 0 92 PE14.out rfl rfl (by rw [evC_size]; decide) intSizeH ?_; rintro w15 hg hs; rw [ev_sizeH] at hg; have MD15 := Lib.hid (histMid_solo MD14.out PE14.out hs); have PE15 := Lib.hid (show EvAt w15 PB 92 (⟨EN.r, EN.q, EN.deps, 2, EN.path, zeroF, 0⟩ : Ev) (.slice ai (h.know i).length ci) from hg); clear hg hs))
            trace_state
            have PX := Lib.hid (show EvAt w15 PB 92 (evH h d) (.slice ai (h.know i).length ci) by
              have e : evH h d = (⟨EN.r, EN.q, EN.deps, 2, EN.path, zeroF, 0⟩ : Ev) := by
                rw [HEN.out]; unfold evH; rw [hGn, ← HIO.out.1, ← HP4.out.1, ← HP4.out.2.2.2, HP4.out.2.2.1]; simp
              rw [e]; exact PE15.out)
            have MX := MD15
            generalize w15 = wE at *
            have hqe : q = (evH h d).q ∧ (i : Int) = (evH h d).r := by unfold evH; rw [← HIO.out.1, ← HP4.out.2.2.2, HP4.out.2.2.1]; exact ⟨rfl, rfl⟩
            have HQE := Lib.hid hqe
            clear hqe
            refine wp_region_held_drew (S := fun w' => EvAt w' PB 92 (evH h d) (.slice ai (h.know i).length ci)) (by kernel_rfl) (show EvAt wE.drew PB _ _ _ from PX.out) (fun hHeld => ?_)
            have MX1 := Lib.hid (show HistMid w wE.drew a h _ us PB from histMid_below MX.out (drawS (Below.refl _ _)))
            generalize wE.drew = wd at *
            refine take_at (i := 0) 75 rfl rfl (by kernel_rfl) (by kernel_rfl) (by kernel_rfl) (fun _ _ _ h => h) (sure_yes (by rfl) (fun w => by go_simp; try with_reducible rfl)) hHeld ?_
            simp only [List.setIfInBounds_toArray, List.set_cons_zero, List.set_cons_succ]
            refine take_at (i := 1) 76 rfl rfl (by kernel_rfl) (by kernel_rfl) (by kernel_rfl) (fun _ _ _ h => h) (sure_yes (by rfl) (fun w => by go_simp; try with_reducible rfl)) hHeld ?_
            simp only [List.setIfInBounds_toArray, List.set_cons_zero, List.set_cons_succ]
            refine take_at (i := 2) 77 rfl rfl (by kernel_rfl) (by kernel_rfl) (by kernel_rfl) (fun _ _ _ h => h) (sure_yes (by rfl) (fun w => by go_simp; try with_reducible rfl)) hHeld ?_
            simp only [List.setIfInBounds_toArray, List.set_cons_zero, List.set_cons_succ]
            refine take_at (i := 4) 79 rfl rfl (by kernel_rfl) (by kernel_rfl) (by kernel_rfl) (fun _ _ _ h => h) (sure_yes (by rfl) (fun w => by go_simp; try with_reducible rfl)) hHeld ?_
            simp only [List.setIfInBounds_toArray, List.set_cons_zero, List.set_cons_succ]
            refine take_at (i := 5) (v := .agg #[.int .i64 (i : Int), .int .i64 q]) 80 rfl rfl (by kernel_rfl) (by kernel_rfl) (by kernel_rfl) (fun _ _ _ h => h) (dot_yields (by rfl) 29 (.tmp 79) rfl ⟨PB, 0, none⟩ rfl (i : Int) q Tryz.underlying29 (by kernel_rfl) (fun _ h => by rw [HQE.out.1, HQE.out.2]; exact evAt_dot h)) hHeld ?_
            simp only [List.setIfInBounds_toArray, List.set_cons_zero, List.set_cons_succ]
            refine wpAnyH_ready (rs := [3]) (by kernel_rfl) (by simp) ?_
            refine AllReadyH.cons rfl (fun CONT hCONT => ?_) AllReadyH.nil
            refine load_cell_at 78 rfl (by rfl) 75 (.tmp 77) rfl ⟨w.heap.size + 1, i, none⟩ rfl ai _ ci Tryz.underlying75 (by rw [← HAI.out]; exact know_cell MX1.out.r2 HIO.out.2.2.1) ?_
            refine hCONT.out _ _ hHeld (fun hHeld => ?_)
            clear hCONT CONT
            simp only [List.setIfInBounds_toArray, List.set_cons_zero, List.set_cons_succ]
            refine wpAnyH_ready (rs := [6]) (by kernel_rfl) (by simp) ?_
            refine AllReadyH.cons rfl (fun CONT hCONT => ?_) AllReadyH.nil
            go_simp
            go_at_call 60
            refine (WT.out _ _ (by rw [← HAI.out]; exact (MX1.out.typ i HIO.out.2.2.1).1)).mono ?_
            rintro x wz ⟨u, rfl, hu, hb⟩
            dsimp only
            have MZ := Lib.hid (histMid_below MX1.out hb)
            have UZ := Lib.hid hu
            obtain ⟨ao3, cap3, rfl⟩ := dots_shape hu.1 _ rfl
            refine hCONT.out _ _ (evAt_kept hHeld hb) (fun hHeld => ?_)
            clear hCONT CONT hb hu
            refine take_at (i := 7) 82 rfl rfl (by kernel_rfl) (by kernel_rfl) (by kernel_rfl) (fun _ _ _ h => h) (sure_yes (by rfl) (fun w => by go_simp; try with_reducible rfl)) hHeld ?_
            simp only [List.setIfInBounds_toArray, List.set_cons_zero, List.set_cons_succ]
            refine wpAnyH_ready (rs := [8]) (by kernel_rfl) (by simp) ?_
            refine AllReadyH.cons rfl (fun CONT hCONT => ?_) AllReadyH.nil
            refine store_slice_at rfl (by rfl) 75 (.tmp 82) (.tmp 81) rfl (w.heap.size + 1) i #[a 0, a 1, a 2] ao3 _ cap3 76 MZ.out.r2 rfl rfl HIO.out.2.2.1 vecSize12 (fun w9 hg hs => ?_)
            have GK := Lib.hid (show w9.heap[w.heap.size + 1]? = _ from hg)
            have GS := Lib.hid hs
            refine hCONT.out _ _ ((hs.block _ (by have := MZ.out.low; omega)).trans hHeld) (fun hHeld => ?_)
            clear hCONT CONT hg hs
            refine wpAnyH_done (by kernel_rfl) ?_ _
            have P9 := Lib.hid hHeld
            clear hHeld
            obtain ⟨ie, hie, hiz⟩ := infoEv
            have HIZ := Lib.hid hiz
            clear hiz
            obtain ⟨N9, hN9⟩ : ∃ N, w9.heap.size = N := ⟨_, rfl⟩
            have HN9 := Lib.hid hN9
            clear hN9
            go_wp2_with (first
              | (refine load_ev_on (by rfl) 92 (.tmp 10) rfl PB rfl P9.out Tryz.underlying92 evSize ?_)
              | (refine build_ev1 rfl 85 rfl (.tmp 84) rfl N9 HN9.out (evH h d) ai (h.know i).length ci rfl ?_; rintro wA hEA hBA hNA; have EA := Lib.hid hEA; have BA := Lib.hid hBA; clear hEA hBA hNA)
              | (refine append_ev rfl (.tmp 83) (.tmp 85) 22 rfl (w.heap.size + 3) 92 ie Tryz.underlying22 hie HIZ.out _ us (evH h d, .slice ai (h.know i).length ci) rfl (own_below (own_solo MZ.out.own.1 GS.out (by omega)) BA.out) rfl ⟨N9, 0, none⟩ 1 rfl (fun j u hu => by rw [Addr.add_lit, Nat.zero_add]; exact evAt_cell EA.out j u hu) (by have := HUS.out; show us.length + 1 ≤ 100000; omega) (by have := BA.out.size; have := GS.out.size; have := MZ.out.low; have := MZ.out.top; omega) ?_; rintro v' w10 hown hgr; have HX := Lib.hid (show HistAt w w10 ((l.take (k + 1)).foldl stepH hist0) v' by
                  rw [take_step HD.out, HG.out]
                  exact hist_event hL HIO.out.1 HIO.out.2.2.1 HU.out MZ.out HAI.out.symm (by rw [← HQE.out.1, ← HQE.out.2]; exact UZ.out) GK.out GS.out BA.out hown hgr); clear hown hgr))
            refine ⟨⟨k + 1, by omega, by omega, by simp, HX.out⟩, ?_⟩
            simp [intOf] <;> omega
          | false =>
            rw [hGn] at c4
            go_upto_region 16 with (first
              | (refine load_cell_on (by rfl) 4 (.tmp 69) rfl ⟨wr.heap.size, 4, none⟩ rfl false Tryz.underlying4 c4 ?_))
            have PX := Lib.hid (show EvAt wc PB 92 (evH h d) (.slice ai (h.know i).length ci) by
              have e : evH h d = EN := by
                rw [HEN.out]; unfold evH; rw [hGn, ← HIO.out.1, ← HP4.out.1, ← HP4.out.2.2.2, HP4.out.2.2.1]; simp
              rw [e]; exact PE.out)
            have MX := MD
            generalize wc = wE at *
            have hqe : q = (evH h d).q ∧ (i : Int) = (evH h d).r := by unfold evH; rw [← HIO.out.1, ← HP4.out.2.2.2, HP4.out.2.2.1]; exact ⟨rfl, rfl⟩
            have HQE := Lib.hid hqe
            clear hqe
            refine wp_region_held_drew (S := fun w' => EvAt w' PB 92 (evH h d) (.slice ai (h.know i).length ci)) (by kernel_rfl) (show EvAt wE.drew PB _ _ _ from PX.out) (fun hHeld => ?_)
            have MX1 := Lib.hid (show HistMid w wE.drew a h _ us PB from histMid_below MX.out (drawS (Below.refl _ _)))
            generalize wE.drew = wd at *
            refine take_at (i := 0) 75 rfl rfl (by kernel_rfl) (by kernel_rfl) (by kernel_rfl) (fun _ _ _ h => h) (sure_yes (by rfl) (fun w => by go_simp; try with_reducible rfl)) hHeld ?_
            simp only [List.setIfInBounds_toArray, List.set_cons_zero, List.set_cons_succ]
            refine take_at (i := 1) 76 rfl rfl (by kernel_rfl) (by kernel_rfl) (by kernel_rfl) (fun _ _ _ h => h) (sure_yes (by rfl) (fun w => by go_simp; try with_reducible rfl)) hHeld ?_
            simp only [List.setIfInBounds_toArray, List.set_cons_zero, List.set_cons_succ]
            refine take_at (i := 2) 77 rfl rfl (by kernel_rfl) (by kernel_rfl) (by kernel_rfl) (fun _ _ _ h => h) (sure_yes (by rfl) (fun w => by go_simp; try with_reducible rfl)) hHeld ?_
            simp only [List.setIfInBounds_toArray, List.set_cons_zero, List.set_cons_succ]
            refine take_at (i := 4) 79 rfl rfl (by kernel_rfl) (by kernel_rfl) (by kernel_rfl) (fun _ _ _ h => h) (sure_yes (by rfl) (fun w => by go_simp; try with_reducible rfl)) hHeld ?_
            simp only [List.setIfInBounds_toArray, List.set_cons_zero, List.set_cons_succ]
            refine take_at (i := 5) (v := .agg #[.int .i64 (i : Int), .int .i64 q]) 80 rfl rfl (by kernel_rfl) (by kernel_rfl) (by kernel_rfl) (fun _ _ _ h => h) (dot_yields (by rfl) 29 (.tmp 79) rfl ⟨PB, 0, none⟩ rfl (i : Int) q Tryz.underlying29 (by kernel_rfl) (fun _ h => by rw [HQE.out.1, HQE.out.2]; exact evAt_dot h)) hHeld ?_
            simp only [List.setIfInBounds_toArray, List.set_cons_zero, List.set_cons_succ]
            refine wpAnyH_ready (rs := [3]) (by kernel_rfl) (by simp) ?_
            refine AllReadyH.cons rfl (fun CONT hCONT => ?_) AllReadyH.nil
            refine load_cell_at 78 rfl (by rfl) 75 (.tmp 77) rfl ⟨w.heap.size + 1, i, none⟩ rfl ai _ ci Tryz.underlying75 (by rw [← HAI.out]; exact know_cell MX1.out.r2 HIO.out.2.2.1) ?_
            refine hCONT.out _ _ hHeld (fun hHeld => ?_)
            clear hCONT CONT
            simp only [List.setIfInBounds_toArray, List.set_cons_zero, List.set_cons_succ]
            refine wpAnyH_ready (rs := [6]) (by kernel_rfl) (by simp) ?_
            refine AllReadyH.cons rfl (fun CONT hCONT => ?_) AllReadyH.nil
            go_simp
            go_at_call 60
            refine (WT.out _ _ (by rw [← HAI.out]; exact (MX1.out.typ i HIO.out.2.2.1).1)).mono ?_
            rintro x wz ⟨u, rfl, hu, hb⟩
            dsimp only
            have MZ := Lib.hid (histMid_below MX1.out hb)
            have UZ := Lib.hid hu
            obtain ⟨ao3, cap3, rfl⟩ := dots_shape hu.1 _ rfl
            refine hCONT.out _ _ (evAt_kept hHeld hb) (fun hHeld => ?_)
            clear hCONT CONT hb hu
            refine take_at (i := 7) 82 rfl rfl (by kernel_rfl) (by kernel_rfl) (by kernel_rfl) (fun _ _ _ h => h) (sure_yes (by rfl) (fun w => by go_simp; try with_reducible rfl)) hHeld ?_
            simp only [List.setIfInBounds_toArray, List.set_cons_zero, List.set_cons_succ]
            refine wpAnyH_ready (rs := [8]) (by kernel_rfl) (by simp) ?_
            refine AllReadyH.cons rfl (fun CONT hCONT => ?_) AllReadyH.nil
            refine store_slice_at rfl (by rfl) 75 (.tmp 82) (.tmp 81) rfl (w.heap.size + 1) i #[a 0, a 1, a 2] ao3 _ cap3 76 MZ.out.r2 rfl rfl HIO.out.2.2.1 vecSize12 (fun w9 hg hs => ?_)
            have GK := Lib.hid (show w9.heap[w.heap.size + 1]? = _ from hg)
            have GS := Lib.hid hs
            refine hCONT.out _ _ ((hs.block _ (by have := MZ.out.low; omega)).trans hHeld) (fun hHeld => ?_)
            clear hCONT CONT hg hs
            refine wpAnyH_done (by kernel_rfl) ?_ _
            have P9 := Lib.hid hHeld
            clear hHeld
            obtain ⟨ie, hie, hiz⟩ := infoEv
            have HIZ := Lib.hid hiz
            clear hiz
            obtain ⟨N9, hN9⟩ : ∃ N, w9.heap.size = N := ⟨_, rfl⟩
            have HN9 := Lib.hid hN9
            clear hN9
            go_wp2_with (first
              | (refine load_ev_on (by rfl) 92 (.tmp 10) rfl PB rfl P9.out Tryz.underlying92 evSize ?_)
              | (refine build_ev1 rfl 85 rfl (.tmp 84) rfl N9 HN9.out (evH h d) ai (h.know i).length ci rfl ?_; rintro wA hEA hBA hNA; have EA := Lib.hid hEA; have BA := Lib.hid hBA; clear hEA hBA hNA)
              | (refine append_ev rfl (.tmp 83) (.tmp 85) 22 rfl (w.heap.size + 3) 92 ie Tryz.underlying22 hie HIZ.out _ us (evH h d, .slice ai (h.know i).length ci) rfl (own_below (own_solo MZ.out.own.1 GS.out (by omega)) BA.out) rfl ⟨N9, 0, none⟩ 1 rfl (fun j u hu => by rw [Addr.add_lit, Nat.zero_add]; exact evAt_cell EA.out j u hu) (by have := HUS.out; show us.length + 1 ≤ 100000; omega) (by have := BA.out.size; have := GS.out.size; have := MZ.out.low; have := MZ.out.top; omega) ?_; rintro v' w10 hown hgr; have HX := Lib.hid (show HistAt w w10 ((l.take (k + 1)).foldl stepH hist0) v' by
                  rw [take_step HD.out, HG.out]
                  exact hist_event hL HIO.out.1 HIO.out.2.2.1 HU.out MZ.out HAI.out.symm (by rw [← HQE.out.1, ← HQE.out.2]; exact UZ.out) GK.out GS.out BA.out hown hgr); clear hown hgr))
            refine ⟨⟨k + 1, by omega, by omega, by simp, HX.out⟩, ?_⟩
            simp [intOf] <;> omega
    · obtain ⟨a, us, hus, hown, hres, hkn2, htyp, hpaths, hsz, hbel⟩ := hh
      have hend : (l.take k).foldl stepH hist0 = histN l := by
        unfold histN
        by_cases h40 : k = 40
        · rw [h40]
        · rw [List.take_of_length_le (by have := HN.out; omega), List.take_of_length_le (by have := HN.out; omega)]
      rw [hend] at hus htyp
      have hHS := Lib.hid (And.intro hown (And.intro hus htyp))
      have HRR := Lib.hid (And.intro hres (And.intro hkn2 hbel))
      have HA1 := Lib.hid (show (#[a 0, a 1, a 2] : Array Value).all (·.oneCell') = true by
        obtain ⟨x0, y0, e0⟩ := dots_shape (htyp 0 (by omega)).1 _ rfl
        obtain ⟨x1, y1, e1⟩ := dots_shape (htyp 1 (by omega)).1 _ rfl
        obtain ⟨x2, y2, e2⟩ := dots_shape (htyp 2 (by omega)).1 _ rfl
        rw [e0, e1, e2]; simp [Value.oneCell'])
      clear hus hown hres hkn2 htyp hpaths hsz hbel hend
      have q9 : ¬ ((k : Int) < (n : Int) ∧ (k : Int) < 40) := by omega
      by_cases hk1 : k < n
      · have q0 : (k : Int) < (n : Int) := by omega
        have q1 : ¬ (k : Int) < 40 := by omega
        clear q9 hr hkn hk40 hk1
        go_upto_region 18 with fail
        refine wp_region_held_drew (S := fun w' => w'.heap[w.heap.size + 1]? = some (.cells #[a 0, a 1, a 2] 76 (0, 0))) (by kernel_rfl) (show wr.drew.heap[w.heap.size + 1]? = _ from HRR.out.2.1) (fun hHeld => ?_)
        have hd0 : Below wr.heap.size wr wr.drew := drawS (Below.refl _ _)
        have RR := Lib.hid (show wr.drew.heap[w.heap.size]? = _ from HRR.out.1)
        have OW := Lib.hid (show OwnEvs (w.heap.size + 3) wr.drew _ us from ⟨own_below hHS.out.1.1 hd0, fun x hx => typ_below (hHS.out.1.2 x hx) hd0⟩)
        have TY := Lib.hid (fun j hj => typ_below (hHS.out.2.2 j hj) hd0)
        have BB := Lib.hid (below_next HRR.out.2.2 hd0)
        clear hd0
        generalize wr.drew = wd at *
        refine take_at (i := 0) 87 rfl rfl (by kernel_rfl) (by kernel_rfl) (by kernel_rfl) (fun _ _ _ h => h) (sure_yes (by rfl) (fun w => by go_simp; try with_reducible rfl)) hHeld ?_
        simp only [List.setIfInBounds_toArray, List.set_cons_zero, List.set_cons_succ]
        refine take_at (i := 1) 88 rfl rfl (by kernel_rfl) (by kernel_rfl) (by kernel_rfl) (fun _ _ _ h => h) (row_yields (by rfl) 76 (.tmp 4) rfl (w.heap.size + 1) rfl 76 #[a 0, a 1, a 2] (0, 0) _ Tryz.underlying76 rfl (by kernel_rfl) (fun _ h => h)) hHeld ?_
        simp only [List.setIfInBounds_toArray, List.set_cons_zero, List.set_cons_succ]
        refine take_at (i := 2) 2 rfl rfl (by kernel_rfl) (by kernel_rfl) (by kernel_rfl) (fun _ _ _ h => h) (sure_yes (by rfl) (fun w => by go_simp; try with_reducible rfl)) hHeld ?_
        simp only [List.setIfInBounds_toArray, List.set_cons_zero, List.set_cons_succ]
        refine wpAnyH_ready (rs := [3]) (by kernel_rfl) (by simp) ?_
        refine AllReadyH.cons rfl (fun CONT hCONT => ?_) AllReadyH.nil
        refine store_at rfl (by rfl) 76 (.tmp 3) (.tmp 88) rfl w.heap.size #[a 0, a 1, a 2] rfl rfl 76 _ RR.out (by kernel_rfl) rfl HA1.out ?_
        have hs := solo_setRow wd w.heap.size #[a 0, a 1, a 2]
        have R9 := Lib.hid (setRow_heap wd w.heap.size _ #[a 0, a 1, a 2] 76 (0, 0) RR.out)
        generalize wd.setRow w.heap.size #[a 0, a 1, a 2] = w9 at *
        have O9 := Lib.hid (show OwnEvs (w.heap.size + 3) w9 _ us from ⟨own_solo OW.out.1 hs (by omega), fun x hx => typ_solo (OW.out.2 x hx) hs RR.out (by decide)⟩)
        have T9 := Lib.hid (fun j hj => typ_solo (TY.out j hj) hs RR.out (by decide))
        have B9 := Lib.hid (solo_below BB.out hs (Nat.le_refl _))
        refine hCONT.out _ _ ((hs.block _ (by omega)).trans hHeld) (fun hHeld => ?_)
        clear hCONT CONT hs
        refine wpAnyH_done (by kernel_rfl) ?_ _
        go_wp2
        exact bodyPost_ret (results_2cell Tryz.results33 _ _ w.heap.size 76 _ (0, 0) _ _ rfl rfl R9.out Tryz.underlying76 rfl (by kernel_rfl)) rfl ⟨_, a, rfl, by rw [← hHS.out.2.1]; exact evs_of_own O9.out, T9.out, B9.out⟩
      · have q0 : ¬ (k : Int) < (n : Int) := by omega
        clear q9 hr hkn hk40 hk1
        go_upto_region 18 with fail
        refine wp_region_held_drew (S := fun w' => w'.heap[w.heap.size + 1]? = some (.cells #[a 0, a 1, a 2] 76 (0, 0))) (by kernel_rfl) (show wr.drew.heap[w.heap.size + 1]? = _ from HRR.out.2.1) (fun hHeld => ?_)
        have hd0 : Below wr.heap.size wr wr.drew := drawS (Below.refl _ _)
        have RR := Lib.hid (show wr.drew.heap[w.heap.size]? = _ from HRR.out.1)
        have OW := Lib.hid (show OwnEvs (w.heap.size + 3) wr.drew _ us from ⟨own_below hHS.out.1.1 hd0, fun x hx => typ_below (hHS.out.1.2 x hx) hd0⟩)
        have TY := Lib.hid (fun j hj => typ_below (hHS.out.2.2 j hj) hd0)
        have BB := Lib.hid (below_next HRR.out.2.2 hd0)
        clear hd0
        generalize wr.drew = wd at *
        refine take_at (i := 0) 87 rfl rfl (by kernel_rfl) (by kernel_rfl) (by kernel_rfl) (fun _ _ _ h => h) (sure_yes (by rfl) (fun w => by go_simp; try with_reducible rfl)) hHeld ?_
        simp only [List.setIfInBounds_toArray, List.set_cons_zero, List.set_cons_succ]
        refine take_at (i := 1) 88 rfl rfl (by kernel_rfl) (by kernel_rfl) (by kernel_rfl) (fun _ _ _ h => h) (row_yields (by rfl) 76 (.tmp 4) rfl (w.heap.size + 1) rfl 76 #[a 0, a 1, a 2] (0, 0) _ Tryz.underlying76 rfl (by kernel_rfl) (fun _ h => h)) hHeld ?_
        simp only [List.setIfInBounds_toArray, List.set_cons_zero, List.set_cons_succ]
        refine take_at (i := 2) 2 rfl rfl (by kernel_rfl) (by kernel_rfl) (by kernel_rfl) (fun _ _ _ h => h) (sure_yes (by rfl) (fun w => by go_simp; try with_reducible rfl)) hHeld ?_
        simp only [List.setIfInBounds_toArray, List.set_cons_zero, List.set_cons_succ]
        refine wpAnyH_ready (rs := [3]) (by kernel_rfl) (by simp) ?_
        refine AllReadyH.cons rfl (fun CONT hCONT => ?_) AllReadyH.nil
        refine store_at rfl (by rfl) 76 (.tmp 3) (.tmp 88) rfl w.heap.size #[a 0, a 1, a 2] rfl rfl 76 _ RR.out (by kernel_rfl) rfl HA1.out ?_
        have hs := solo_setRow wd w.heap.size #[a 0, a 1, a 2]
        have R9 := Lib.hid (setRow_heap wd w.heap.size _ #[a 0, a 1, a 2] 76 (0, 0) RR.out)
        generalize wd.setRow w.heap.size #[a 0, a 1, a 2] = w9 at *
        have O9 := Lib.hid (show OwnEvs (w.heap.size + 3) w9 _ us from ⟨own_solo OW.out.1 hs (by omega), fun x hx => typ_solo (OW.out.2 x hx) hs RR.out (by decide)⟩)
        have T9 := Lib.hid (fun j hj => typ_solo (TY.out j hj) hs RR.out (by decide))
        have B9 := Lib.hid (solo_below BB.out hs (Nat.le_refl _))
        refine hCONT.out _ _ ((hs.block _ (by omega)).trans hHeld) (fun hHeld => ?_)
        clear hCONT CONT hs
        refine wpAnyH_done (by kernel_rfl) ?_ _
        go_wp2
        exact bodyPost_ret (results_2cell Tryz.results33 _ _ w.heap.size 76 _ (0, 0) _ _ rfl rfl R9.out Tryz.underlying76 rfl (by kernel_rfl)) rfl ⟨_, a, rfl, by rw [← hHS.out.2.1]; exact evs_of_own O9.out, T9.out, B9.out⟩
end Go.Proofs.YtppmbdpfledejaaGreatDoor
namespace Go.Proofs.YtppmbdpfledejaaGreatDoor
open Go.RowKit
def db1 : DeedT := ⟨0, 0, 0, false, false, 1⟩
def db2 : DeedT := ⟨1, 0, 0, false, false, 2⟩
def bw1 : Ev := evH hist0 db1
def bw2 : Ev := evH (stepH hist0 db1) db2
theorem bw_out : (histN [db1, db2]).out = [bw1, bw2] := by rfl
theorem bw_last : lastE [bw1, bw2] = [bw1, bw2] := by rfl
theorem bw_small : ∀ x ∈ [db1, db2], x.who < 256 ∧ x.other < 256 ∧ x.path < 256 ∧ x.size < 256 := by
  intro x hx
  simp only [List.mem_cons, List.mem_nil_iff, or_false] at hx
  rcases hx with rfl | rfl <;> decide
def bs1 : Sh := ⟨[97, 126, 48, 45, 49], 0, 1, sizeF 1, 1⟩
def bs2 : Sh := ⟨[97], 1, 1, sizeF 2, 2⟩
theorem bw_first1 : firstE [bw1, bw2] bw1 = false := by decide +kernel
theorem bw_first2 : firstE [bw1, bw2] bw2 = true := by decide +kernel
theorem bw_shows : showsE [bw1, bw2] = [bs1, bs2] := by
  have h1 : [bw1, bw2].filter putE = [bw1, bw2] := by rfl
  unfold showsE
  rw [h1]
  have e1 : copyL bw1.path bw1.r bw1.q = [97, 126, 48, 45, 49] := by decide +kernel
  simp only [List.map_cons, List.map_nil, shE, bw_first1, bw_first2, if_true, Bool.false_eq_true, if_false]
  rw [e1]
  rfl
theorem bw_lt : ltK Sh.path bs2 bs1 = true := by decide +kernel
theorem bw_stable : StableK Sh.path [bs1, bs2] [bs2, bs1] := by
  have h := stable_left (key := Sh.path) (x := bs1) (A := [bs2]) (B := []) (List.pairwise_singleton _ _) (fun y hy => by rw [List.mem_singleton.1 hy]; exact bw_lt) (fun y hy => by cases hy)
  exact h
theorem bw_fit : ∀ x ∈ [bw1, bw2], FitE x := by
  intro x hx
  simp only [List.mem_cons, List.mem_nil_iff, or_false] at hx
  rcases hx with rfl | rfl <;> exact ⟨by unfold I64; decide +kernel, by unfold I64; decide +kernel, by decide +kernel, by decide +kernel⟩
theorem bw_view {w : World} {v : Value} (h : HasView w v [bw1, bw2]) : HoldsS w v [bs2, bs1] := by
  obtain ⟨S, h1, h2⟩ := h
  rw [bw_shows] at h1
  rw [← stable_one h1 bw_stable]
  exact h2
def bCells : List Value := deedC db1 ++ deedC db2
theorem bw_deeds {w : World} {B : Nat} {T : TypeId} (h : w.heap[B]? = some (.cells bCells.toArray T (0, 0))) : HasDeeds w (.slice (some ⟨B, 0, none⟩) 2 2) [db1, db2] := by
  refine ⟨some ⟨B, 0, none⟩, 2, rfl, (fun h => by cases h), fun ad had => ?_⟩
  cases had
  refine ⟨Nat.le_refl _, fun i d hi j u hu => ?_⟩
  rw [Addr.add_lit, Nat.zero_add]
  simp only [World.cell?, h]
  match i, hi with
  | 0, hi =>
    cases hi
    have hj : j < 6 := (List.getElem?_eq_some_iff.1 hu).1
    match j, hj with
    | 0, _ => exact hu
    | 1, _ => exact hu
    | 2, _ => exact hu
    | 3, _ => exact hu
    | 4, _ => exact hu
    | 5, _ => exact hu
  | 1, hi =>
    cases hi
    have hj : j < 6 := (List.getElem?_eq_some_iff.1 hu).1
    match j, hj with
    | 0, _ => exact hu
    | 1, _ => exact hu
    | 2, _ => exact hu
    | 3, _ => exact hu
    | 4, _ => exact hu
    | 5, _ => exact hu
  | i + 2, hi => simp at hi
def xB : List (BitVec 32) := [120#32]
theorem xB_lt : ∀ x ∈ xB, u32 x < 256 := by intro x hx; rw [List.mem_singleton.1 hx]; decide
theorem xB_has {w : World} {B : Nat} {T : TypeId} {m : Nat × Nat} (h : w.heap[B]? = some (.cells #[.int .u8 120] T m)) : HasBytes w (.slice (some ⟨B, 0, none⟩) 1 1) xB := by
  refine ⟨some ⟨B, 0, none⟩, 1, rfl, (fun h => by cases h), fun ad had => ?_⟩
  cases had
  refine ⟨Nat.le_refl _, fun j u hu => ?_⟩
  rw [Addr.add_lit, Nat.zero_add]
  simp only [World.cell?, h]
  match j, hu with
  | 0, hu => exact hu
  | j + 1, hu => simp [xB, bytesL] at hu
def xS : Sh := ⟨[], 0, 0, sumF xB, 1⟩
theorem xS_fits : fitsS xS xB = true := by unfold fitsS xS; simp [xB, sameRow_self]
set_option maxRecDepth 100000 in
theorem xS_built : Tryz.prog.built 33 [(2, rowV .u8 32 (sumF xB)), (3, .int .i64 1)] = some (shC xS) := by
  unfold xS
  generalize sumF xB = f
  kernel_rfl
set_option linter.unusedSimpArgs false in
set_option maxRecDepth 100000 in
set_option maxHeartbeats 16000000 in
theorem awake14_any (w : World) (hT : PowTab w) (tab : Tab w) : Calls Tryz.prog 7 #[] w fun x w' => x = .returned (.bool true) ∧ Below w.heap.size w w' := by
  have HT := Lib.hid hT
  have TB := Lib.hid tab
  have HI := Lib.hid (fun v w hv => history_any [db1, db2] bw_small v w hv)
  rw [bw_out] at HI
  clear hT tab
  go_enter Tryz.func7, Tryz.ntmps7
  go_upto_region 2 with (first
    | (go_at_call 33; refine (HI.out _ _ (bw_deeds (heap_last _ _))).mono ?_; rintro x w2 ⟨vo, a, rfl, he, ha, hb⟩; have B2 := Lib.hid (((Below.refl w.heap.size w).alloc (Nat.le_refl _) _).trans (hb.mono (by simp))); have HE2 := Lib.hid he; have HA1 := Lib.hid (show (#[a 0, a 1, a 2] : Array Value).all (·.oneCell') = true by
        obtain ⟨x0, y0, e0⟩ := dots_shape (ha 0 (by omega)).1 _ rfl
        obtain ⟨x1, y1, e1⟩ := dots_shape (ha 1 (by omega)).1 _ rfl
        obtain ⟨x2, y2, e2⟩ := dots_shape (ha 2 (by omega)).1 _ rfl
        rw [e0, e1, e2]; simp [Value.oneCell']); clear hb he ha)
    | (refine store_new rfl 76 (.tmp 2) (.tmp 10) rfl rfl w2 _ #[a 0, a 1, a 2] 76 rfl rfl rfl (by kernel_rfl) rfl HA1.out ?_; rintro W3 hg hb hlt; have HV3 := Lib.hid (evs_below HE2.out hb); have B3 := Lib.hid (below_next B2.out hb); clear hg hb hlt))
  obtain ⟨us, hus, hdu, hhu⟩ := u_of_evs HV3.out
  have HUS := Lib.hid hus
  have LA := Lib.hid (last_any13 us (by have := congrArg List.length hus; simp at this; omega) (fun x hx => (bw_fit x.1 (by rw [← hus]; exact List.mem_map_of_mem hx)).2.2.1) vo W3 hhu hdu)
  have HDU := Lib.hid hdu
  clear hus hdu hhu HE2 HV3 HI
  go_upto_region 3 with (first
    | (go_at_call 34; refine LA.out.mono ?_; rintro x w4 ⟨y, vs, rfl, hh, hsub, hm, hb⟩; have HH := Lib.hid hh; have HSB := Lib.hid hsub; have HM := Lib.hid hm; have C4 := Lib.hid hb; clear hh hsub hm hb)
    | (go_at_call 8; refine (view_any vs (by have := congrArg List.length HM.out; rw [HUS.out, bw_last] at this; simp at this; omega) (fun z hz => bw_fit z.1 (by rw [← HUS.out]; exact List.mem_map_of_mem (HSB.out z hz))) y w4 HH.out (fun z hz => dots_below (HDU.out z (HSB.out z hz)) C4.out) (powTab_below HT.out (below_next B3.out C4.out))).mono ?_; rintro x w5 ⟨sv, rfl, hv, hb⟩; have HVW := Lib.hid hv; have B5 := Lib.hid (below_next (below_next B3.out C4.out) hb); clear hv hb))
  have hview := HVW.out
  rw [HM.out, HUS.out, bw_last] at hview
  have HS := Lib.hid (bw_view hview)
  obtain ⟨ad, cap, ev, h1⟩ := holdsS_at HS.out 2 0 rfl bs2 rfl
  obtain ⟨ad2, cap2, ev2, h2⟩ := holdsS_at HS.out 2 1 rfl bs1 rfl
  subst ev
  cases ev2
  rw [Nat.zero_mul, addr_zeroS] at h1
  rw [Nat.one_mul] at h2
  have a0 : w5.cell? ad = some (.string ⟨#[97]⟩) := sh_field0 h1 _ (shC_at bs2).1
  have a1 : w5.cell? ⟨ad.block, ad.off + 1, none⟩ = some (.int .i64 1) := sh_fieldS h1 1 (by decide) _ (shC_at bs2).2.1
  have b0 : w5.cell? ⟨ad.block, ad.off + 36, none⟩ = some (.string ⟨#[97, 126, 48, 45, 49]⟩) := by
    have h := sh_field0 h2 _ (shC_at bs1).1
    rw [show ad.add 36 = ⟨ad.block, ad.off + 36, none⟩ from by unfold Addr.add; rw [if_neg (by decide)]] at h
    exact h
  have FI := Lib.hid (fun w tab v hv => fits_any xS xB (by decide) v w tab hv)
  have RS0 := Lib.hid (fun v w hv => refSum_any xB xB_lt (by decide) v w hv)
  rw [xS_fits] at FI
  have cv0 := Lib.run_convert_bytes_const (P := Tryz.prog) w5 43 5 #[.int .u8 120] 1 1 Tryz.underlying43 Tryz.underlying5
  clear h1 h2 hview LA HM HUS HSB HDU
  go_wp2_with (first
    | (go_at_call 35; refine (RS0.out _ _ (xB_has (heap_last _ _))).mono ?_; rintro x w6 ⟨rfl, hb⟩; have cv1 := Lib.run_convert_bytes_const (P := Tryz.prog) w6 43 5 #[.int .u8 120] 1 1 Tryz.underlying43 Tryz.underlying5; have B6 := Lib.hid ((B5.out.alloc B5.out.size _).trans (hb.mono (by have := B5.out.size; simp; omega))); clear hb)
    | (refine build_as rfl 33 #[(2, .tmp 42), (3, .const (.int .i64 1))] rfl _ _ xS_built (by simp [Act.eval]) ?_)
    | (go_at_call 16; refine (FI.out _ (tab_keep TB.out (B6.out.alloc B6.out.size _) (Nat.le_refl _)) _ (xB_has (heap_last _ _))).mono ?_; rintro x w7 ⟨rfl, hb⟩; have B7 := Lib.hid ((B6.out.alloc B6.out.size _).trans (hb.mono (by have := B6.out.size; simp; omega))); clear hb))
  go_ret
  exact ⟨rfl, B7.out⟩
end Go.Proofs.YtppmbdpfledejaaGreatDoor
namespace Go.Proofs.YtppmbdpfledejaaGreatDoor
open Go.RowKit
set_option linter.unusedSimpArgs false in
set_option maxRecDepth 100000 in
set_option maxHeartbeats 16000000 in
theorem viewTrees_walk (l : List Sh) (hs : ∀ s ∈ l, ShOk s) (ts : List (List UInt8)) (v x : Value) (w : World) (hv : HoldsS w v l) (hx : HasRows w x (rowsT ts)) (hT : PowTab w) (tab : Tab w) : Calls Tryz.prog 4 #[v, x] w fun x w' => x = .returned (.bool true) ∧ Below w.heap.size w w' := by
  obtain ⟨n, hnn⟩ : ∃ n, n = l.length := ⟨_, rfl⟩
  have HN := Lib.hid hnn
  obtain ⟨ao, cap, hvs⟩ := holdsS_shape hv n hnn
  subst hvs
  obtain ⟨q, hqq⟩ : ∃ q, q = ts.length := ⟨_, rfl⟩
  have HQ := Lib.hid hqq
  obtain ⟨xo, xc, hxs⟩ := rows_shape hx q (by rw [rowsT_len]; exact hqq)
  subst hxs
  have HV := Lib.hid hv
  have HX := Lib.hid hx
  have HS := Lib.hid hs
  have HT := Lib.hid hT
  have TB := Lib.hid tab
  have ENF := Lib.hid (show ∀ vs w, (callFunc 16 vs).run Tryz.prog w = .ok (.enter 16 vs) w from (enters_of Tryz.func16 (by kernel_rfl) rfl))
  have ENR := Lib.hid (show ∀ vs w, (callFunc 17 vs).run Tryz.prog w = .ok (.enter 17 vs) w from (enters_of Tryz.func17 (by kernel_rfl) rfl))
  clear hv hx hs hT tab hnn hqq
  go_enter Tryz.func4, Tryz.ntmps4
  go_upto_region 2 with (first
    | (go_at_call 7; refine (awake14_any _ HT.out TB.out).mono ?_; rintro x w1 ⟨rfl, hb⟩; have B1 := Lib.hid hb; clear hb))
  by_cases hn2 : n ≤ 20
  · have a1 : ¬ (n : Int) > 20 := by omega
    have a2 : ¬ (20 : Int) < (n : Int) := by omega
    by_cases hq2 : q ≤ 20
    · have a3 : ¬ (q : Int) > 20 := by omega
      have a4 : ¬ (20 : Int) < (q : Int) := by omega
      go_upto_region 5 with fail
      clear a1 a2 a3 a4
      go_loopw [6] (fun c wr => ∃ i : Nat, i ≤ q ∧ c = .int .i64 (i : Int) ∧ (∀ t ∈ ts.take i, t.length ≤ 300) ∧ wr = w1) (fun c _ => q - (intOf c).toNat)
      case atStart => exact ⟨0, Nat.zero_le _, rfl, (fun _ h => by simp at h), rfl⟩
      case round =>
        obtain ⟨i, hi, rfl, hsh, rfl⟩ := hrel
        have HSH := Lib.hid hsh
        clear hsh
        by_cases hiq : i < q
        · have q0 : (i : Int) < (q : Int) := by omega
          have q1 : (i : Int) < 50000 := by omega
          have hi1 : i + 1 ≤ q := hiq
          have hi5 : i < 50000 := by omega
          obtain ⟨tt, htt⟩ : ∃ x, ts[i]? = some x := ⟨_, List.getElem?_eq_getElem (by have := HQ.out; omega)⟩
          obtain ⟨adx, capx, u, e2, hcu, hub⟩ := rows_at (rows_below HX.out B1.out) q i (by rw [rowsT_len]; exact HQ.out.symm) _ (rowsT_get htt)
          cases e2
          obtain ⟨tl, htl⟩ : ∃ n, n = tt.length := ⟨_, rfl⟩
          obtain ⟨bo, bc, hub2⟩ := bytes_shapeR hub tl (by rw [List.length_map]; exact htl)
          subst hub2
          have cu := hcu
          have HTT := Lib.hid htt
          have HTL := Lib.hid htl
          clear htt hcu hub htl hi
          by_cases h3 : tl ≤ 300
          · have z1 : ¬ (tl : Int) > 300 := by omega
            have z2 : ¬ (300 : Int) < (tl : Int) := by omega
            have HSN := Lib.hid (show ∀ t ∈ ts.take (i + 1), t.length ≤ 300 by
              intro t ht
              rw [List.take_add_one, HTT.out, List.mem_append] at ht
              rcases ht with ht | ht
              · exact HSH.out t ht
              · simp only [Option.toList_some, List.mem_singleton] at ht
                subst ht; rw [← HTL.out]; exact h3)
            go_wp2
            go_roundw
            case rel => exact ⟨i + 1, hi1, by go_num, HSN.out, by trivial⟩
            case measure => simp [intOf] <;> omega
          · have z1 : (tl : Int) > 300 := by omega
            have z2 : (300 : Int) < (tl : Int) := by omega
            go_wp2
            go_ret
            exact ⟨rfl, B1.out⟩
        · obtain rfl : i = q := by omega
          have q0 : ¬ (i : Int) < (i : Int) := by omega
          have HTS := Lib.hid (show ∀ t ∈ ts, t.length ≤ 300 by have h := HSH.out; rwa [List.take_of_length_le (Nat.le_of_eq HQ.out.symm)] at h)
          have HLN := Lib.hid (show l.length ≤ 20 by rw [← HN.out]; exact hn2)
          have HLQ := Lib.hid (show ts.length ≤ 20 by rw [← HQ.out]; exact hq2)
          have HTB := Lib.hid (fun (t : List UInt8) (ht : t ∈ ts) => show t.length ≤ 1099511627776 from Nat.le_trans (HTS.out t ht) (by omega))
          have RL := Lib.hid (fun (n : Nat) => show l.length ≤ 50000 by have := HLN.out; omega)
          clear hi
          obtain ⟨E, hE⟩ : ∃ E, E = treeErr l ts := ⟨_, rfl⟩
          go_upto_region 10 with (first
            | (go_at_call 14; refine (tree_any l (by have := HLN.out; omega) HS.out ts HTB.out (by have := HLQ.out; omega) _ _ wr (tab_keep TB.out B1.out (Nat.le_refl _)) (holdsS_below HV.out B1.out) (rows_below HX.out B1.out)).mono ?_; rintro x w2 ⟨y2, rfl, hy, hb⟩; rw [← hE]; have HY2 := Lib.hid hy; have B2 := Lib.hid (below_next B1.out hb); clear hy hb))
          go_upto_region 11 with (first
            | (go_at_call 13; refine (real_any l (RL.out 0) _ w2 (holdsS_below HV.out B2.out)).mono ?_; rintro x w3 ⟨y3, rfl, hy, hb⟩; have HY3 := Lib.hid hy; have C3 := Lib.hid hb; have B3 := Lib.hid (below_next B2.out hb); clear hy hb)
            | (go_at_call 15; refine (refTree_any l (by have := HLN.out; omega) ts HTB.out (by have := HLQ.out; omega) y3 _ w3 (tab_keep TB.out B3.out (Nat.le_refl _)) HY3.out (rows_below HX.out B3.out)).mono ?_; rintro x w4 ⟨y4, rfl, hy, hb⟩; rw [← hE]; have HY4 := Lib.hid hy; have C4 := Lib.hid (below_next C3.out hb); have B4 := Lib.hid (below_next B3.out hb); clear hy hb))
          obtain ⟨q, hqi⟩ : ∃ z, z = i := ⟨_, rfl⟩
          subst hqi
          clear hE
          go_upto_region 12 with fail
          go_loopw [11] (fun c wr => ∃ i : Nat, i ≤ n ∧ c = .int .i64 (i : Int) ∧ Below w4.heap.size w4 wr) (fun c _ => n - (intOf c).toNat)
          case atStart => exact ⟨0, Nat.zero_le _, rfl, Below.refl _ _⟩
          case round =>
            obtain ⟨i, hi, rfl, hb⟩ := hrel
            have HBL := Lib.hid hb
            have HB := Lib.hid (below_next B4.out hb)
            clear hb
            by_cases hin : i < n ∧ i < q
            · obtain ⟨hin, hiq⟩ := hin
              have q0 : (i : Int) < (n : Int) := by omega
              have q1 : (i : Int) < (q : Int) := by omega
              have q2 : (i : Int) < 50000 := by omega
              have hi5 : i < 50000 := by omega
              obtain ⟨s, hsx⟩ : ∃ x, l[i]? = some x := ⟨_, List.getElem?_eq_getElem (by have := HN.out; omega)⟩
              obtain ⟨ad, cap', e1, hcx⟩ := holdsS_at HV.out n i HN.out.symm s hsx
              cases e1
              obtain ⟨tt, htt⟩ : ∃ x, ts[i]? = some x := ⟨_, List.getElem?_eq_getElem (by have := HQ.out; omega)⟩
              obtain ⟨adx, capx, u, e2, hcu, hub⟩ := rows_at HX.out q i (by rw [rowsT_len]; exact HQ.out.symm) _ (rowsT_get htt)
              cases e2
              obtain ⟨tl, htl⟩ : ∃ n, n = tt.length := ⟨_, rfl⟩
              obtain ⟨bo, bc, hub2⟩ := bytes_shapeR hub tl (by rw [List.length_map]; exact htl)
              subst hub2
              have HC := Lib.hid hcx
              have HCU := Lib.hid hcu
              have HTX := Lib.hid hub
              have HTL := Lib.hid (show (tt.map w8).length ≤ 1099511627776 by rw [List.length_map]; exact HTB.out tt (List.mem_of_getElem? htt))
              have FI := Lib.hid (fun W tb h => fits_any s (tt.map w8) HTL.out (.slice bo tl bc) W tb h)
              have RFI := Lib.hid (fun W tb h => refFits_any s (tt.map w8) (fun x hx => by obtain ⟨y, _, rfl⟩ := List.mem_map.1 hx; exact w8_lt y) HTL.out (.slice bo tl bc) W tb h)
              obtain ⟨r, hr⟩ : ∃ r, fitsS s (tt.map w8) = r := ⟨_, rfl⟩
              rw [hr] at FI RFI
              clear hr hsx hcx htt hcu hub htl hi
              go_upto_region 14 with fail
              cases r with
              | true =>
                refine wp_region_held_drew (S := fun w' => Below w4.heap.size w4 w') (by kernel_rfl) (drawS HBL.out) (fun hHeld => ?_)
                generalize wr.drew = wd at hHeld ⊢
                refine take_at (i := 0) 60 rfl rfl (by kernel_rfl) (by kernel_rfl) (by kernel_rfl) (fun _ _ _ h => h) (sure_yes (by rfl) (fun w => by go_simp; try with_reducible rfl)) hHeld ?_
                try simp only [List.setIfInBounds_toArray, List.set_cons_zero, List.set_cons_succ]
                refine take_at (i := 1) 61 rfl rfl (by kernel_rfl) (by kernel_rfl) (by kernel_rfl) (fun _ _ _ h => h) (sure_yes (by rfl) (fun w => by go_simp; try with_reducible rfl)) hHeld ?_
                try simp only [List.setIfInBounds_toArray, List.set_cons_zero, List.set_cons_succ]
                refine take_at (i := 2) 62 rfl rfl (by kernel_rfl) (by kernel_rfl) (by kernel_rfl) (fun _ _ _ h => h) (sure_yes (by rfl) (fun w => by go_simp; try with_reducible rfl)) hHeld ?_
                try simp only [List.setIfInBounds_toArray, List.set_cons_zero, List.set_cons_succ]
                refine take_at (i := 4) 64 rfl rfl (by kernel_rfl) (by kernel_rfl) (by kernel_rfl) (fun _ _ _ h => h) (sure_yes (by rfl) (fun w => by go_simp; try with_reducible rfl)) hHeld ?_
                try simp only [List.setIfInBounds_toArray, List.set_cons_zero, List.set_cons_succ]
                refine take_at (i := 5) 65 rfl rfl (by kernel_rfl) (by kernel_rfl) (by kernel_rfl) (fun _ _ _ h => h) (sure_yes (by rfl) (fun w => by go_simp; try with_reducible rfl)) hHeld ?_
                try simp only [List.setIfInBounds_toArray, List.set_cons_zero, List.set_cons_succ]
                refine take_at (i := 6) 66 rfl rfl (by kernel_rfl) (by kernel_rfl) (by kernel_rfl) (fun _ _ _ h => h) (sure_yes (by rfl) (fun w => by go_simp; try with_reducible rfl)) hHeld ?_
                try simp only [List.setIfInBounds_toArray, List.set_cons_zero, List.set_cons_succ]
                refine take_at (i := 9) 69 rfl rfl (by kernel_rfl) (by kernel_rfl) (by kernel_rfl) (fun _ _ _ h => h) (sure_yes (by rfl) (fun w => by go_simp; try with_reducible rfl)) hHeld ?_
                try simp only [List.setIfInBounds_toArray, List.set_cons_zero, List.set_cons_succ]
                refine take_at (i := 10) 70 rfl rfl (by kernel_rfl) (by kernel_rfl) (by kernel_rfl) (fun _ _ _ h => h) (sure_yes (by rfl) (fun w => by go_simp; try with_reducible rfl)) hHeld ?_
                try simp only [List.setIfInBounds_toArray, List.set_cons_zero, List.set_cons_succ]
                refine take_at (i := 11) 71 rfl rfl (by kernel_rfl) (by kernel_rfl) (by kernel_rfl) (fun _ _ _ h => h) (sure_yes (by rfl) (fun w => by go_simp; try with_reducible rfl)) hHeld ?_
                try simp only [List.setIfInBounds_toArray, List.set_cons_zero, List.set_cons_succ]
                refine take_at (i := 13) 73 rfl rfl (by kernel_rfl) (by kernel_rfl) (by kernel_rfl) (fun _ _ _ h => h) (sure_yes (by rfl) (fun w => by go_simp; try with_reducible rfl)) hHeld ?_
                try simp only [List.setIfInBounds_toArray, List.set_cons_zero, List.set_cons_succ]
                refine take_at (i := 14) 74 rfl rfl (by kernel_rfl) (by kernel_rfl) (by kernel_rfl) (fun _ _ _ h => h) (sure_yes (by rfl) (fun w => by go_simp; try with_reducible rfl)) hHeld ?_
                try simp only [List.setIfInBounds_toArray, List.set_cons_zero, List.set_cons_succ]
                refine take_at (i := 15) 75 rfl rfl (by kernel_rfl) (by kernel_rfl) (by kernel_rfl) (fun _ _ _ h => h) (sure_yes (by rfl) (fun w => by go_simp; try with_reducible rfl)) hHeld ?_
                try simp only [List.setIfInBounds_toArray, List.set_cons_zero, List.set_cons_succ]
                refine take_at (i := 3) 63 rfl rfl (by kernel_rfl) (by kernel_rfl) (by kernel_rfl) (fun _ _ _ h => h) (shA_yields (by rfl) 33 (.tmp 62) rfl (ad.add (i * 36)) rfl Tryz.underlying33 shSize (fun w h j u hu => cell_under12 (HC.out j u hu) (below_next B4.out h))) hHeld ?_
                try simp only [List.setIfInBounds_toArray, List.set_cons_zero, List.set_cons_succ]
                refine take_at (i := 7) 67 rfl rfl (by kernel_rfl) (by kernel_rfl) (by kernel_rfl) (fun _ _ _ h => h) (slice_yieldsT (by rfl) 43 (.tmp 66) rfl (adx.add i) rfl bo tl bc Tryz.underlying43 (fun w h => cell_under12 HCU.out (below_next B4.out h))) hHeld ?_
                try simp only [List.setIfInBounds_toArray, List.set_cons_zero, List.set_cons_succ]
                refine take_at (i := 12) 72 rfl rfl (by kernel_rfl) (by kernel_rfl) (by kernel_rfl) (fun _ _ _ h => h) (shA_yields (by rfl) 33 (.tmp 71) rfl (ad.add (i * 36)) rfl Tryz.underlying33 shSize (fun w h j u hu => cell_under12 (HC.out j u hu) (below_next B4.out h))) hHeld ?_
                try simp only [List.setIfInBounds_toArray, List.set_cons_zero, List.set_cons_succ]
                refine take_at (i := 16) 76 rfl rfl (by kernel_rfl) (by kernel_rfl) (by kernel_rfl) (fun _ _ _ h => h) (slice_yieldsT (by rfl) 43 (.tmp 75) rfl (adx.add i) rfl bo tl bc Tryz.underlying43 (fun w h => cell_under12 HCU.out (below_next B4.out h))) hHeld ?_
                try simp only [List.setIfInBounds_toArray, List.set_cons_zero, List.set_cons_succ]
                refine ready_one 8 (by kernel_rfl) ?_
                refine opH_kt 68 rfl rfl (by rfl) 16 (.tmp 63) (.tmp 67) 33 43 rfl (.agg (shC s)) (.slice bo tl bc) rfl rfl ENF.out _ (FI.out _ (tab_keep TB.out (below_next B4.out hHeld) (Nat.le_refl _)) (has_below HTX.out (below_next B4.out hHeld))) ?_
                rintro z wz ⟨rfl, hb⟩
                refine ⟨_, rfl, below_next hHeld hb, ?_⟩
                replace hHeld := below_next hHeld hb
                clear hb
                try simp only [List.setIfInBounds_toArray, List.set_cons_zero, List.set_cons_succ]
                refine ready_one 17 (by kernel_rfl) ?_
                refine opH_kt 77 rfl rfl (by rfl) 17 (.tmp 72) (.tmp 76) 36 43 rfl (.agg (shC s)) (.slice bo tl bc) rfl rfl ENR.out _ (RFI.out _ (tab_keep TB.out (below_next B4.out hHeld) (Nat.le_refl _)) (has_below HTX.out (below_next B4.out hHeld))) ?_
                rintro z wz ⟨rfl, hb⟩
                refine ⟨_, rfl, below_next hHeld hb, ?_⟩
                replace hHeld := below_next hHeld hb
                clear hb
                try simp only [List.setIfInBounds_toArray, List.set_cons_zero, List.set_cons_succ]
                refine take_at (i := 18) 78 rfl rfl (by kernel_rfl) (by kernel_rfl) (by kernel_rfl) (fun _ _ _ h => h) (sure_yes (by rfl) (fun w => by go_simp; try with_reducible rfl)) hHeld ?_
                try simp only [List.setIfInBounds_toArray, List.set_cons_zero, List.set_cons_succ]
                refine wpAnyH_done (by kernel_rfl) ?_ _
                have HBJ := Lib.hid hHeld
                clear hHeld
                go_wp2
                go_roundw
                case rel => exact ⟨i + 1, by omega, by go_num, HBJ.out⟩
                case measure => simp [intOf] <;> omega
              | false =>
                refine wp_region_held_drew (S := fun w' => Below w4.heap.size w4 w') (by kernel_rfl) (drawS HBL.out) (fun hHeld => ?_)
                generalize wr.drew = wd at hHeld ⊢
                refine take_at (i := 0) 60 rfl rfl (by kernel_rfl) (by kernel_rfl) (by kernel_rfl) (fun _ _ _ h => h) (sure_yes (by rfl) (fun w => by go_simp; try with_reducible rfl)) hHeld ?_
                try simp only [List.setIfInBounds_toArray, List.set_cons_zero, List.set_cons_succ]
                refine take_at (i := 1) 61 rfl rfl (by kernel_rfl) (by kernel_rfl) (by kernel_rfl) (fun _ _ _ h => h) (sure_yes (by rfl) (fun w => by go_simp; try with_reducible rfl)) hHeld ?_
                try simp only [List.setIfInBounds_toArray, List.set_cons_zero, List.set_cons_succ]
                refine take_at (i := 2) 62 rfl rfl (by kernel_rfl) (by kernel_rfl) (by kernel_rfl) (fun _ _ _ h => h) (sure_yes (by rfl) (fun w => by go_simp; try with_reducible rfl)) hHeld ?_
                try simp only [List.setIfInBounds_toArray, List.set_cons_zero, List.set_cons_succ]
                refine take_at (i := 4) 64 rfl rfl (by kernel_rfl) (by kernel_rfl) (by kernel_rfl) (fun _ _ _ h => h) (sure_yes (by rfl) (fun w => by go_simp; try with_reducible rfl)) hHeld ?_
                try simp only [List.setIfInBounds_toArray, List.set_cons_zero, List.set_cons_succ]
                refine take_at (i := 5) 65 rfl rfl (by kernel_rfl) (by kernel_rfl) (by kernel_rfl) (fun _ _ _ h => h) (sure_yes (by rfl) (fun w => by go_simp; try with_reducible rfl)) hHeld ?_
                try simp only [List.setIfInBounds_toArray, List.set_cons_zero, List.set_cons_succ]
                refine take_at (i := 6) 66 rfl rfl (by kernel_rfl) (by kernel_rfl) (by kernel_rfl) (fun _ _ _ h => h) (sure_yes (by rfl) (fun w => by go_simp; try with_reducible rfl)) hHeld ?_
                try simp only [List.setIfInBounds_toArray, List.set_cons_zero, List.set_cons_succ]
                refine take_at (i := 9) 69 rfl rfl (by kernel_rfl) (by kernel_rfl) (by kernel_rfl) (fun _ _ _ h => h) (sure_yes (by rfl) (fun w => by go_simp; try with_reducible rfl)) hHeld ?_
                try simp only [List.setIfInBounds_toArray, List.set_cons_zero, List.set_cons_succ]
                refine take_at (i := 10) 70 rfl rfl (by kernel_rfl) (by kernel_rfl) (by kernel_rfl) (fun _ _ _ h => h) (sure_yes (by rfl) (fun w => by go_simp; try with_reducible rfl)) hHeld ?_
                try simp only [List.setIfInBounds_toArray, List.set_cons_zero, List.set_cons_succ]
                refine take_at (i := 11) 71 rfl rfl (by kernel_rfl) (by kernel_rfl) (by kernel_rfl) (fun _ _ _ h => h) (sure_yes (by rfl) (fun w => by go_simp; try with_reducible rfl)) hHeld ?_
                try simp only [List.setIfInBounds_toArray, List.set_cons_zero, List.set_cons_succ]
                refine take_at (i := 13) 73 rfl rfl (by kernel_rfl) (by kernel_rfl) (by kernel_rfl) (fun _ _ _ h => h) (sure_yes (by rfl) (fun w => by go_simp; try with_reducible rfl)) hHeld ?_
                try simp only [List.setIfInBounds_toArray, List.set_cons_zero, List.set_cons_succ]
                refine take_at (i := 14) 74 rfl rfl (by kernel_rfl) (by kernel_rfl) (by kernel_rfl) (fun _ _ _ h => h) (sure_yes (by rfl) (fun w => by go_simp; try with_reducible rfl)) hHeld ?_
                try simp only [List.setIfInBounds_toArray, List.set_cons_zero, List.set_cons_succ]
                refine take_at (i := 15) 75 rfl rfl (by kernel_rfl) (by kernel_rfl) (by kernel_rfl) (fun _ _ _ h => h) (sure_yes (by rfl) (fun w => by go_simp; try with_reducible rfl)) hHeld ?_
                try simp only [List.setIfInBounds_toArray, List.set_cons_zero, List.set_cons_succ]
                refine take_at (i := 3) 63 rfl rfl (by kernel_rfl) (by kernel_rfl) (by kernel_rfl) (fun _ _ _ h => h) (shA_yields (by rfl) 33 (.tmp 62) rfl (ad.add (i * 36)) rfl Tryz.underlying33 shSize (fun w h j u hu => cell_under12 (HC.out j u hu) (below_next B4.out h))) hHeld ?_
                try simp only [List.setIfInBounds_toArray, List.set_cons_zero, List.set_cons_succ]
                refine take_at (i := 7) 67 rfl rfl (by kernel_rfl) (by kernel_rfl) (by kernel_rfl) (fun _ _ _ h => h) (slice_yieldsT (by rfl) 43 (.tmp 66) rfl (adx.add i) rfl bo tl bc Tryz.underlying43 (fun w h => cell_under12 HCU.out (below_next B4.out h))) hHeld ?_
                try simp only [List.setIfInBounds_toArray, List.set_cons_zero, List.set_cons_succ]
                refine take_at (i := 12) 72 rfl rfl (by kernel_rfl) (by kernel_rfl) (by kernel_rfl) (fun _ _ _ h => h) (shA_yields (by rfl) 33 (.tmp 71) rfl (ad.add (i * 36)) rfl Tryz.underlying33 shSize (fun w h j u hu => cell_under12 (HC.out j u hu) (below_next B4.out h))) hHeld ?_
                try simp only [List.setIfInBounds_toArray, List.set_cons_zero, List.set_cons_succ]
                refine take_at (i := 16) 76 rfl rfl (by kernel_rfl) (by kernel_rfl) (by kernel_rfl) (fun _ _ _ h => h) (slice_yieldsT (by rfl) 43 (.tmp 75) rfl (adx.add i) rfl bo tl bc Tryz.underlying43 (fun w h => cell_under12 HCU.out (below_next B4.out h))) hHeld ?_
                try simp only [List.setIfInBounds_toArray, List.set_cons_zero, List.set_cons_succ]
                refine ready_one 8 (by kernel_rfl) ?_
                refine opH_kt 68 rfl rfl (by rfl) 16 (.tmp 63) (.tmp 67) 33 43 rfl (.agg (shC s)) (.slice bo tl bc) rfl rfl ENF.out _ (FI.out _ (tab_keep TB.out (below_next B4.out hHeld) (Nat.le_refl _)) (has_below HTX.out (below_next B4.out hHeld))) ?_
                rintro z wz ⟨rfl, hb⟩
                refine ⟨_, rfl, below_next hHeld hb, ?_⟩
                replace hHeld := below_next hHeld hb
                clear hb
                try simp only [List.setIfInBounds_toArray, List.set_cons_zero, List.set_cons_succ]
                refine ready_one 17 (by kernel_rfl) ?_
                refine opH_kt 77 rfl rfl (by rfl) 17 (.tmp 72) (.tmp 76) 36 43 rfl (.agg (shC s)) (.slice bo tl bc) rfl rfl ENR.out _ (RFI.out _ (tab_keep TB.out (below_next B4.out hHeld) (Nat.le_refl _)) (has_below HTX.out (below_next B4.out hHeld))) ?_
                rintro z wz ⟨rfl, hb⟩
                refine ⟨_, rfl, below_next hHeld hb, ?_⟩
                replace hHeld := below_next hHeld hb
                clear hb
                try simp only [List.setIfInBounds_toArray, List.set_cons_zero, List.set_cons_succ]
                refine take_at (i := 18) 78 rfl rfl (by kernel_rfl) (by kernel_rfl) (by kernel_rfl) (fun _ _ _ h => h) (sure_yes (by rfl) (fun w => by go_simp; try with_reducible rfl)) hHeld ?_
                try simp only [List.setIfInBounds_toArray, List.set_cons_zero, List.set_cons_succ]
                refine wpAnyH_done (by kernel_rfl) ?_ _
                have HBJ := Lib.hid hHeld
                clear hHeld
                go_wp2
                go_roundw
                case rel => exact ⟨i + 1, by omega, by go_num, HBJ.out⟩
                case measure => simp [intOf] <;> omega
            · by_cases hin2 : i < n
              · have q0 : (i : Int) < (n : Int) := by omega
                have q1 : ¬ (i : Int) < (q : Int) := by omega
                clear hi hin hin2
                have SAM := Lib.hid (same_any wr y2 y4 (treeV l ts) (treeV l ts) (files_below (files_below HY2.out C4.out) HBL.out) (files_below HY4.out HBL.out) (by unfold treeV; split <;> simp <;> (have := HLN.out; omega)) (by unfold treeV; split <;> simp <;> (have := HLN.out; omega)))
                rw [decide_eq_true rfl] at SAM
                go_wp2_with (first
                  | (go_at_call 18; refine SAM.out.mono ?_; rintro x w9 ⟨rfl, hb⟩; have B9 := Lib.hid (below_next HB.out hb); clear hb))
                go_ret
                exact ⟨by simp, B9.out⟩
              · have q0 : ¬ (i : Int) < (n : Int) := by omega
                clear hi hin hin2
                have SAM := Lib.hid (same_any wr y2 y4 (treeV l ts) (treeV l ts) (files_below (files_below HY2.out C4.out) HBL.out) (files_below HY4.out HBL.out) (by unfold treeV; split <;> simp <;> (have := HLN.out; omega)) (by unfold treeV; split <;> simp <;> (have := HLN.out; omega)))
                rw [decide_eq_true rfl] at SAM
                go_wp2_with (first
                  | (go_at_call 18; refine SAM.out.mono ?_; rintro x w9 ⟨rfl, hb⟩; have B9 := Lib.hid (below_next HB.out hb); clear hb))
                go_ret
                exact ⟨by simp, B9.out⟩
    · have a3 : (q : Int) > 20 := by omega
      have a4 : (20 : Int) < (q : Int) := by omega
      go_wp2
      go_ret
      exact ⟨rfl, B1.out⟩
  · have a1 : (n : Int) > 20 := by omega
    have a2 : (20 : Int) < (n : Int) := by omega
    go_wp2
    go_ret
    exact ⟨rfl, B1.out⟩
end Go.Proofs.YtppmbdpfledejaaGreatDoor
