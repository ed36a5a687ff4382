/-
Texts that all claims of this seat share, part 12: RefHistory, Law13Awake, Law13Join, WideEvs, OpCall, Parts, OpenDots, Open12, OpenEvs.
-/
import Derived.Deep.DeepCutAuto
import Derived.Test.YtcdjkjadbhejpaaGreatDoorProg
import Derived.WalkKit
import Derived.ProofKit
import Derived.OpenShut
import Derived.Deep.SlicePairs
import Derived.Deep.Slices
import Derived.SizedLaws
import Derived.Test.YtcdjkjadbhejpaaGreatDoorPk11
namespace Go.Proofs.YtcdjkjadbhejpaaGreatDoor
open Go.RowKit
set_option maxRecDepth 100000 in
set_option maxHeartbeats 16000000 in
theorem history_any (l : List DeedT) (hs : ∀ x ∈ l, x.who < 256 ∧ x.other < 256 ∧ x.path < 256 ∧ x.size < 256) (v : Value) (w : World) (hv : HasDeeds w v l) : Calls Tryz.prog 20 #[v] w fun x w' => ∃ vo, ∃ a : Nat → Value, x = .returned (.tuple #[vo, .agg #[a 0, a 1, a 2]]) ∧ HasEvs w' vo (histN l).out ∧ (∀ j, j < 3 → TypDots w' (a j) ((histN l).know j)) ∧ Below w.heap.size w w' := by
  have HS := Lib.hid hs
  have HV := Lib.hid hv
  obtain ⟨n, hn⟩ : ∃ n, n = l.length := ⟨_, rfl⟩
  obtain ⟨ao, cap, rfl⟩ := deeds_shape hv n hn
  have HN := Lib.hid hn
  clear hs hv hn
  go_enter Tryz.func20, Tryz.ntmps20
  go_wp2
  have hk1 := heap_last (w.alloc (.cells #[.slice none 0 0, .slice none 0 0, .slice none 0 0] 39 (0, 0))) (.cells #[.slice none 0 0, .slice none 0 0, .slice none 0 0] 39 (0, 0))
  have HI := Lib.hid (show HistAt w (((w.alloc (.cells #[.slice none 0 0, .slice none 0 0, .slice none 0 0] 39 (0, 0))).alloc (.cells #[.slice none 0 0, .slice none 0 0, .slice none 0 0] 39 (0, 0))).alloc (.cells #[.string ⟨#[97]⟩, .string ⟨#[97, 47, 98]⟩, .string ⟨#[99]⟩, .string ⟨#[100]⟩] 9 (0, 0))) hist0 (.slice none 0 0) from hist_start w)
  clear hk1
  go_loopw [5, 7, 8, 9, 10] (fun o c _ _ _ wr => ∃ k : Nat, k ≤ n ∧ k ≤ 40 ∧ c = .int .i64 (k : Int) ∧ HistAt w wr ((l.take k).foldl stepH hist0) o) (fun _ c _ _ _ _ => 40 - (intOf c).toNat)
  case atStart => exact ⟨0, by omega, by omega, rfl, HI.out⟩
  case round =>
    obtain ⟨k, hkn, hk40, rfl, hh⟩ := hrel
    have HH := Lib.hid hh
    by_cases hr : k < n ∧ k < 40
    · have q0 : (k : Int) < (n : Int) := by omega
      have q1 : (k : Int) < 40 := by omega
      obtain ⟨d, hd⟩ : ∃ d, l[k]? = some d := ⟨_, List.getElem?_eq_getElem (by have := HN.out; omega)⟩
      obtain ⟨a, us, hus, hown, hres, hkn2, htyp, hpaths, hsz, hbel⟩ := hh
      obtain ⟨ad, cap', e, hdc⟩ := deeds_at (deeds_below HV.out hbel) n k HN.out.symm d hd
      cases e
      obtain ⟨b1, b2, b3, b4⟩ := HS.out d (List.mem_of_getElem? hd)
      obtain ⟨i, hi⟩ : ∃ i, i = d.who % 3 := ⟨_, rfl⟩
      obtain ⟨oo, hoo⟩ : ∃ j, j = d.other % 3 := ⟨_, rfl⟩
      have hi3 : i < 3 := by omega
      have ho3 : oo < 3 := by omega
      have q3 : (i : Int) < 3 := by omega
      have q4 : (oo : Int) < 3 := by omega
      obtain ⟨wa, ta, ea⟩ := deed_nums d.who 3 b1
      obtain ⟨wo, tq, eo⟩ := deed_nums d.other 3 b2
      have wo2 : IntKind.i64.wrap (d.other : Int) = (d.other : Int) := deed_wrap _ b2
      rw [← hi] at ta ea
      rw [← hoo] at tq eo
      have ta' : (d.who : Int).tmod 3 = (i : Int) := ta
      have ea' : (d.who : Int) % 3 = (i : Int) := ea
      have tq' : (d.other : Int).tmod 3 = (oo : Int) := tq
      have eo' : (d.other : Int) % 3 = (oo : Int) := eo
      have HIO := Lib.hid (And.intro hi (And.intro hoo (And.intro hi3 ho3)))
      clear ta ea tq eo hi hoo hi3 ho3
      have HDC := Lib.hid hdc
      have HD := Lib.hid hd
      have HB := Lib.hid (And.intro b1 (And.intro b2 (And.intro b3 b4)))
      have HO := Lib.hid hown
      have HR := Lib.hid (And.intro hres (And.intro hkn2 (And.intro hpaths hsz)))
      have HY := Lib.hid htyp
      have HU := Lib.hid hus
      have HBL := Lib.hid hbel
      clear hdc hd b1 b2 b3 b4 hown hres hkn2 hpaths hsz htyp hus hbel
      go_upto_region 9 with (first
        | (refine load_deed (by rfl) 76 (.tmp 24) rfl (ad.add (k * 6)) rfl Tryz.underlying76 deedSize HDC.out ?_))
      have hbw := (Below.refl wr.heap.size wr).alloc (Nat.le_refl _) (.cells #[.int .u8 (d.who : Int), .int .u8 (d.other : Int), .int .u8 (d.path : Int), .bool d.learns, .bool d.gone, .int .u8 (d.size : Int)] 76 (0, 0))
      have HD1 := Lib.hid (heap_last wr (.cells #[.int .u8 (d.who : Int), .int .u8 (d.other : Int), .int .u8 (d.path : Int), .bool d.learns, .bool d.gone, .int .u8 (d.size : Int)] 76 (0, 0)))
      have HR1 := Lib.hid (And.intro (row_kept HR.out.1 hbw) (And.intro (row_kept HR.out.2.1 hbw) (And.intro (row_kept HR.out.2.2.1 hbw) (Nat.le_trans HR.out.2.2.2 hbw.size))))
      have HY1 := Lib.hid (fun j hj => typ_below (HY.out j hj) hbw)
      have HO1 := Lib.hid (show OwnEvs _ _ _ us from ⟨own_below HO.out.1 hbw, fun x hx => typ_below (HO.out.2 x hx) hbw⟩)
      have HB1 := Lib.hid (below_next HBL.out hbw)
      have HLT := Lib.hid (show w.heap.size + 3 ≤ wr.heap.size from HR.out.2.2.2)
      clear hbw
      generalize wr.alloc (.cells #[.int .u8 (d.who : Int), .int .u8 (d.other : Int), .int .u8 (d.path : Int), .bool d.learns, .bool d.gone, .int .u8 (d.size : Int)] 76 (0, 0)) = W1 at *
      have c3 : W1.cell? ⟨wr.heap.size, 3, none⟩ = some (.bool d.learns) := (cell_of_row _ _ 3 _ _ _ HD1.out).trans rfl
      cases hL : d.learns with
      | true =>
        rw [hL] at c3
        go_upto_region 10 with fail
        obtain ⟨nn, hinv⟩ := inv_take l (fun x hx => (HS.out x hx).2.2.2) k hk40
        have JN := Lib.hid (fun v u w hv hu => refJoin_typ10 (((l.take k).foldl stepH hist0).know i) (((l.take k).foldl stepH hist0).know oo) (know_len hinv HIO.out.2.2.1) (know_len hinv HIO.out.2.2.2) v u w hv hu)
        clear hinv
        generalize hgen : (l.take k).foldl stepH hist0 = h at *
        obtain ⟨ai, ci, hai⟩ := dots_shape (HY1.out i HIO.out.2.2.1).1 _ rfl
        obtain ⟨aj, cj, haj⟩ := dots_shape (HY1.out oo HIO.out.2.2.2).1 _ rfl
        have HAI := Lib.hid hai
        have HAJ := Lib.hid haj
        have HG := Lib.hid hgen
        clear hai haj hgen
        refine wp_region_held_drew (S := fun w' => Below w.heap.size w w' ∧ w'.heap[wr.heap.size]? = some (.cells #[.int .u8 (d.who : Int), .int .u8 (d.other : Int), .int .u8 (d.path : Int), .bool d.learns, .bool d.gone, .int .u8 (d.size : Int)] 76 (0, 0))) (by kernel_rfl) ⟨drawS HB1.out, HD1.out⟩ (fun hHeld => ?_)
        have hdr : Below W1.heap.size W1 W1.drew := drawS (Below.refl _ _)
        have RD := Lib.hid (show W1.drew.heap[w.heap.size]? = _ ∧ W1.drew.heap[w.heap.size + 1]? = _ ∧ W1.drew.heap[w.heap.size + 2]? = _ ∧ w.heap.size + 3 ≤ W1.drew.heap.size from HR1.out)
        have YD := Lib.hid (fun j hj => typ_below (HY1.out j hj) hdr)
        have OD := Lib.hid (show OwnEvs _ _ _ us from ⟨own_below HO1.out.1 hdr, fun x hx => typ_below (HO1.out.2 x hx) hdr⟩)
        clear hdr
        generalize W1.drew = wd at *
        refine take_at (i := 0) 32 rfl rfl (by kernel_rfl) (by kernel_rfl) (by kernel_rfl) (fun _ _ _ h => h) (sure_yes (by rfl) (fun w => by go_simp; try with_reducible rfl)) hHeld ?_
        simp only [List.setIfInBounds_toArray, List.set_cons_zero, List.set_cons_succ]
        refine take_at (i := 1) 33 rfl rfl (by kernel_rfl) (by kernel_rfl) (by kernel_rfl) (fun _ _ _ h => h) (sure_yes (by rfl) (fun w => by go_simp; try with_reducible rfl)) hHeld ?_
        simp only [List.setIfInBounds_toArray, List.set_cons_zero, List.set_cons_succ]
        refine take_at (i := 2) 34 rfl rfl (by kernel_rfl) (by kernel_rfl) (by kernel_rfl) (fun _ _ _ h => h) (sure_yes (by rfl) (fun w => by go_simp; try with_reducible rfl)) hHeld ?_
        simp only [List.setIfInBounds_toArray, List.set_cons_zero, List.set_cons_succ]
        refine take_at (i := 4) 36 rfl rfl (by kernel_rfl) (by kernel_rfl) (by kernel_rfl) (fun _ _ _ h => h) (sure_yes (by rfl) (fun w => by go_simp; try with_reducible rfl)) hHeld ?_
        simp only [List.setIfInBounds_toArray, List.set_cons_zero, List.set_cons_succ]
        refine take_at (i := 5) 37 rfl rfl (by kernel_rfl) (by kernel_rfl) (by kernel_rfl) (fun _ _ _ h => h) (cell_yields (by rfl) 5 (.tmp 36) rfl wr.heap.size 1 rfl .u8 _ Tryz.underlying5 (fun _ h => (cell_of_row _ _ 1 _ _ _ h.2).trans rfl)) hHeld ?_
        simp only [List.setIfInBounds_toArray, List.set_cons_zero, List.set_cons_succ]
        refine take_at (i := 6) 38 rfl rfl (by kernel_rfl) (by kernel_rfl) (by kernel_rfl) (fun _ _ _ h => h) (sure_yes (by rfl) (fun w => by go_simp; try with_reducible rfl)) hHeld ?_
        simp only [List.setIfInBounds_toArray, List.set_cons_zero, List.set_cons_succ]
        refine take_at (i := 7) 39 rfl rfl (by kernel_rfl) (by kernel_rfl) (by kernel_rfl) (fun _ _ _ h => h) (sure_yes (by rfl) (fun w => by go_simp; try with_reducible rfl)) hHeld ?_
        simp only [List.setIfInBounds_toArray, List.set_cons_zero, List.set_cons_succ]
        refine take_at (i := 8) 40 rfl rfl (by kernel_rfl) (by kernel_rfl) (by kernel_rfl) (fun _ _ _ h => h) (sure_yes (by rfl) (fun w => by go_simp; try with_reducible rfl)) hHeld ?_
        simp only [List.setIfInBounds_toArray, List.set_cons_zero, List.set_cons_succ]
        refine wpAnyH_ready (rs := [3, 9]) (by kernel_rfl) (by simp) ?_
        refine AllReadyH.cons rfl (fun CONT hCONT => ?_) (AllReadyH.cons rfl (fun CONT hCONT => ?_) (AllReadyH.nil))
        · refine load_cell_at 35 rfl (by rfl) 26 (.tmp 34) rfl ⟨w.heap.size + 1, i, none⟩ rfl ai _ ci Tryz.underlying26 (by rw [← HAI.out]; exact know_cell RD.out.2.1 HIO.out.2.2.1) ?_
          refine hCONT.out _ _ hHeld (fun hHeld => ?_)
          clear hCONT CONT
          simp only [List.setIfInBounds_toArray, List.set_cons_zero, List.set_cons_succ]
          refine wpAnyH_ready (rs := [9]) (by kernel_rfl) (by simp) ?_
          refine AllReadyH.cons rfl (fun CONT hCONT => ?_) AllReadyH.nil
          refine load_cell_at 41 rfl (by rfl) 26 (.tmp 40) rfl ⟨w.heap.size + 1, oo, none⟩ rfl aj _ cj Tryz.underlying26 (by rw [← HAJ.out]; exact know_cell RD.out.2.1 HIO.out.2.2.2) ?_
          refine hCONT.out _ _ hHeld (fun hHeld => ?_)
          clear hCONT CONT
          simp only [List.setIfInBounds_toArray, List.set_cons_zero, List.set_cons_succ]
          refine wpAnyH_ready (rs := [10]) (by kernel_rfl) (by simp) ?_
          refine AllReadyH.cons rfl (fun CONT hCONT => ?_) AllReadyH.nil
          go_simp
          go_at_call 52
          refine (JN.out _ _ _ (by rw [← HAI.out]; exact (YD.out i HIO.out.2.2.1).1) (by rw [← HAJ.out]; exact (YD.out oo HIO.out.2.2.2).1)).mono ?_
          rintro x wz ⟨u, rfl, hu, hb⟩
          dsimp only
          have RZ := Lib.hid (And.intro (row_kept RD.out.1 hb) (And.intro (row_kept RD.out.2.1 hb) (And.intro (row_kept RD.out.2.2.1 hb) (Nat.le_trans RD.out.2.2.2 hb.size))))
          have YZ := Lib.hid (fun j hj => typ_below (YD.out j hj) hb)
          have OZ := Lib.hid (show OwnEvs _ _ _ us from ⟨own_below OD.out.1 hb, fun x hx => typ_below (OD.out.2 x hx) hb⟩)
          have UZ := Lib.hid hu
          obtain ⟨ao3, cap3, rfl⟩ := dots_shape hu.1 _ rfl
          refine hCONT.out _ _ ⟨below_next hHeld.1 hb, row_kept hHeld.2 hb⟩ (fun hHeld => ?_)
          clear hCONT CONT hb hu
          refine take_at (i := 11) 43 rfl rfl (by kernel_rfl) (by kernel_rfl) (by kernel_rfl) (fun _ _ _ h => h) (sure_yes (by rfl) (fun w => by go_simp; try with_reducible rfl)) hHeld ?_
          simp only [List.setIfInBounds_toArray, List.set_cons_zero, List.set_cons_succ]
          refine wpAnyH_ready (rs := [12]) (by kernel_rfl) (by simp) ?_
          refine AllReadyH.cons rfl (fun CONT hCONT => ?_) AllReadyH.nil
          refine store_slice_at rfl (by rfl) 26 (.tmp 43) (.tmp 42) rfl (w.heap.size + 1) i #[a 0, a 1, a 2] ao3 _ cap3 39 RZ.out.2.1 rfl rfl HIO.out.2.2.1 vecSize12 (fun w9 hg hs => ?_)
          have hlt := HLT.out
          have GK := Lib.hid (show w9.heap[w.heap.size + 1]? = _ from hg)
          have GS := Lib.hid hs
          refine hCONT.out _ _ ⟨solo_below hHeld.1 hs (by omega), (hs.block _ (by omega)).trans hHeld.2⟩ (fun hHeld => ?_)
          clear hCONT CONT hg hs hlt
          refine wpAnyH_done (by kernel_rfl) ?_ _
          have HX := Lib.hid (show HistAt w w9 ((l.take (k + 1)).foldl stepH hist0) _ by
            rw [take_step HD.out, HG.out]
            exact hist_learn hL HIO.out.1 HIO.out.2.1 HIO.out.2.2.1 HU.out RZ.out.1 RZ.out.2.1 RZ.out.2.2.1 RZ.out.2.2.2 YZ.out OZ.out UZ.out GK.out GS.out hHeld.1)
          go_wp2
          refine ⟨⟨k + 1, by omega, by omega, by simp, HX.out⟩, ?_⟩
          simp [intOf] <;> omega
        · refine load_cell_at 41 rfl (by rfl) 26 (.tmp 40) rfl ⟨w.heap.size + 1, oo, none⟩ rfl aj _ cj Tryz.underlying26 (by rw [← HAJ.out]; exact know_cell RD.out.2.1 HIO.out.2.2.2) ?_
          refine hCONT.out _ _ hHeld (fun hHeld => ?_)
          clear hCONT CONT
          simp only [List.setIfInBounds_toArray, List.set_cons_zero, List.set_cons_succ]
          refine wpAnyH_ready (rs := [3]) (by kernel_rfl) (by simp) ?_
          refine AllReadyH.cons rfl (fun CONT hCONT => ?_) AllReadyH.nil
          refine load_cell_at 35 rfl (by rfl) 26 (.tmp 34) rfl ⟨w.heap.size + 1, i, none⟩ rfl ai _ ci Tryz.underlying26 (by rw [← HAI.out]; exact know_cell RD.out.2.1 HIO.out.2.2.1) ?_
          refine hCONT.out _ _ hHeld (fun hHeld => ?_)
          clear hCONT CONT
          simp only [List.setIfInBounds_toArray, List.set_cons_zero, List.set_cons_succ]
          refine wpAnyH_ready (rs := [10]) (by kernel_rfl) (by simp) ?_
          refine AllReadyH.cons rfl (fun CONT hCONT => ?_) AllReadyH.nil
          go_simp
          go_at_call 52
          refine (JN.out _ _ _ (by rw [← HAI.out]; exact (YD.out i HIO.out.2.2.1).1) (by rw [← HAJ.out]; exact (YD.out oo HIO.out.2.2.2).1)).mono ?_
          rintro x wz ⟨u, rfl, hu, hb⟩
          dsimp only
          have RZ := Lib.hid (And.intro (row_kept RD.out.1 hb) (And.intro (row_kept RD.out.2.1 hb) (And.intro (row_kept RD.out.2.2.1 hb) (Nat.le_trans RD.out.2.2.2 hb.size))))
          have YZ := Lib.hid (fun j hj => typ_below (YD.out j hj) hb)
          have OZ := Lib.hid (show OwnEvs _ _ _ us from ⟨own_below OD.out.1 hb, fun x hx => typ_below (OD.out.2 x hx) hb⟩)
          have UZ := Lib.hid hu
          obtain ⟨ao3, cap3, rfl⟩ := dots_shape hu.1 _ rfl
          refine hCONT.out _ _ ⟨below_next hHeld.1 hb, row_kept hHeld.2 hb⟩ (fun hHeld => ?_)
          clear hCONT CONT hb hu
          refine take_at (i := 11) 43 rfl rfl (by kernel_rfl) (by kernel_rfl) (by kernel_rfl) (fun _ _ _ h => h) (sure_yes (by rfl) (fun w => by go_simp; try with_reducible rfl)) hHeld ?_
          simp only [List.setIfInBounds_toArray, List.set_cons_zero, List.set_cons_succ]
          refine wpAnyH_ready (rs := [12]) (by kernel_rfl) (by simp) ?_
          refine AllReadyH.cons rfl (fun CONT hCONT => ?_) AllReadyH.nil
          refine store_slice_at rfl (by rfl) 26 (.tmp 43) (.tmp 42) rfl (w.heap.size + 1) i #[a 0, a 1, a 2] ao3 _ cap3 39 RZ.out.2.1 rfl rfl HIO.out.2.2.1 vecSize12 (fun w9 hg hs => ?_)
          have hlt := HLT.out
          have GK := Lib.hid (show w9.heap[w.heap.size + 1]? = _ from hg)
          have GS := Lib.hid hs
          refine hCONT.out _ _ ⟨solo_below hHeld.1 hs (by omega), (hs.block _ (by omega)).trans hHeld.2⟩ (fun hHeld => ?_)
          clear hCONT CONT hg hs hlt
          refine wpAnyH_done (by kernel_rfl) ?_ _
          have HX := Lib.hid (show HistAt w w9 ((l.take (k + 1)).foldl stepH hist0) _ by
            rw [take_step HD.out, HG.out]
            exact hist_learn hL HIO.out.1 HIO.out.2.1 HIO.out.2.2.1 HU.out RZ.out.1 RZ.out.2.1 RZ.out.2.2.1 RZ.out.2.2.2 YZ.out OZ.out UZ.out GK.out GS.out hHeld.1)
          go_wp2
          refine ⟨⟨k + 1, by omega, by omega, by simp, HX.out⟩, ?_⟩
          simp [intOf] <;> omega
      | false =>
        rw [hL] at c3
        go_upto_region 11 with fail
        obtain ⟨nn, hinv⟩ := inv_take l (fun x hx => (HS.out x hx).2.2.2) k hk40
        have GN := Lib.hid (fun v w hv => refGet_any10 (((l.take k).foldl stepH hist0).know i) (know_len hinv HIO.out.2.2.1) (i : Int) v w hv)
        have HKL := Lib.hid (know_len hinv HIO.out.2.2.1)
        clear hinv
        generalize hgen : (l.take k).foldl stepH hist0 = h at *
        obtain ⟨ai, ci, hai⟩ := dots_shape (HY1.out i HIO.out.2.2.1).1 _ rfl
        have HAI := Lib.hid hai
        have HG := Lib.hid hgen
        have hbd := getV_bd (h.know i) (i : Int)
        obtain ⟨G, hG⟩ : ∃ G, G = getV (h.know i) (i : Int) := ⟨_, rfl⟩
        obtain ⟨q, hq⟩ : ∃ q, G + 1 = q := ⟨_, rfl⟩
        rw [← hG] at GN hbd
        obtain ⟨pp, hpp⟩ : ∃ pp, pp = d.path % 4 := ⟨_, rfl⟩
        have hp4 : pp < 4 := by rw [hpp]; exact Nat.mod_lt _ (by decide)
        have q5 : (pp : Int) < 4 := by omega
        obtain ⟨EN, hEN⟩ : ∃ EN : Ev, EN = ⟨(i : Int), q, h.know i, 1, pathsH.getD pp [], sizeF d.size, (d.size : Int)⟩ := ⟨_, rfl⟩
        have HEN := Lib.hid hEN
        have HP4 := Lib.hid (And.intro hpp (And.intro hp4 (And.intro hG hq)))
        have wq : IntKind.i64.wrap (G + 1) = q := by rw [hq, IntKind.wrap_i64]; omega
        have wq2 : wrap64 (G + 1) = q := by rw [hq, wrap64]; omega
        have ws2 : IntKind.i64.wrap (d.size : Int) = (d.size : Int) := deed_wrap _ HB.out.2.2.2
        have ws3 : wrap64 (d.size : Int) = (d.size : Int) := (deed_nums d.size 1 HB.out.2.2.2).1
        obtain ⟨wp, tp, ep⟩ := deed_nums d.path 4 HB.out.2.2.1
        rw [← hpp] at tp ep
        have wp2 : IntKind.i64.wrap (d.path : Int) = (d.path : Int) := deed_wrap _ HB.out.2.2.1
        have tp' : (d.path : Int).tmod 4 = (pp : Int) := tp
        have ep' : (d.path : Int) % 4 = (pp : Int) := ep
        clear hai hgen hEN hpp hp4 hG hq hbd tp ep
        go_cut [10] (fun s10 wx => ∃ PB, s10 = .pointer (some ⟨PB, 0, none⟩) ∧ W1.heap.size ≤ PB ∧ EvAt wx PB 30 EN (.slice ai (h.know i).length ci) ∧ Below W1.heap.size W1 wx)
        case first =>
          rename_i JJ KK hJJ hKK
          have HJJ := Lib.hid hJJ
          have HKK := Lib.hid hKK
          clear hJJ hKK
          refine wp_region_held_drew (S := fun w' => Below W1.heap.size W1 w') (by kernel_rfl) (drawS (Below.refl _ _)) (fun hHeld => ?_)
          generalize W1.drew = wd at hHeld ⊢
          refine take_at (i := 0) 44 rfl rfl (by kernel_rfl) (by kernel_rfl) (by kernel_rfl) (fun _ _ _ h => h) (sure_yes (by rfl) (fun w => by go_simp; try with_reducible rfl)) hHeld ?_
          simp only [List.setIfInBounds_toArray, List.set_cons_zero, List.set_cons_succ]
          refine take_at (i := 1) 45 rfl rfl (by kernel_rfl) (by kernel_rfl) (by kernel_rfl) (fun _ _ _ h => h) (sure_yes (by rfl) (fun w => by go_simp; try with_reducible rfl)) hHeld ?_
          simp only [List.setIfInBounds_toArray, List.set_cons_zero, List.set_cons_succ]
          refine take_at (i := 2) 46 rfl rfl (by kernel_rfl) (by kernel_rfl) (by kernel_rfl) (fun _ _ _ h => h) (sure_yes (by rfl) (fun w => by go_simp; try with_reducible rfl)) hHeld ?_
          simp only [List.setIfInBounds_toArray, List.set_cons_zero, List.set_cons_succ]
          refine take_at (i := 4) 48 rfl rfl (by kernel_rfl) (by kernel_rfl) (by kernel_rfl) (fun _ _ _ h => h) (sure_yes (by rfl) (fun w => by go_simp; try with_reducible rfl)) hHeld ?_
          simp only [List.setIfInBounds_toArray, List.set_cons_zero, List.set_cons_succ]
          refine take_at (i := 8) 52 rfl rfl (by kernel_rfl) (by kernel_rfl) (by kernel_rfl) (fun _ _ _ h => h) (sure_yes (by rfl) (fun w => by go_simp; try with_reducible rfl)) hHeld ?_
          simp only [List.setIfInBounds_toArray, List.set_cons_zero, List.set_cons_succ]
          refine take_at (i := 9) 53 rfl rfl (by kernel_rfl) (by kernel_rfl) (by kernel_rfl) (fun _ _ _ h => h) (sure_yes (by rfl) (fun w => by go_simp; try with_reducible rfl)) hHeld ?_
          simp only [List.setIfInBounds_toArray, List.set_cons_zero, List.set_cons_succ]
          refine take_at (i := 11) 55 rfl rfl (by kernel_rfl) (by kernel_rfl) (by kernel_rfl) (fun _ _ _ h => h) (sure_yes (by rfl) (fun w => by go_simp; try with_reducible rfl)) hHeld ?_
          simp only [List.setIfInBounds_toArray, List.set_cons_zero, List.set_cons_succ]
          refine take_at (i := 12) 56 rfl rfl (by kernel_rfl) (by kernel_rfl) (by kernel_rfl) (fun _ _ _ h => h) (sure_yes (by rfl) (fun w => by go_simp; try with_reducible rfl)) hHeld ?_
          simp only [List.setIfInBounds_toArray, List.set_cons_zero, List.set_cons_succ]
          refine take_at (i := 18) 62 rfl rfl (by kernel_rfl) (by kernel_rfl) (by kernel_rfl) (fun _ _ _ h => h) (sure_yes (by rfl) (fun w => by go_simp; try with_reducible rfl)) hHeld ?_
          simp only [List.setIfInBounds_toArray, List.set_cons_zero, List.set_cons_succ]
          refine take_at (i := 21) 65 rfl rfl (by kernel_rfl) (by kernel_rfl) (by kernel_rfl) (fun _ _ _ h => h) (sure_yes (by rfl) (fun w => by go_simp; try with_reducible rfl)) hHeld ?_
          simp only [List.setIfInBounds_toArray, List.set_cons_zero, List.set_cons_succ]
          refine take_at (i := 3) 47 rfl rfl (by kernel_rfl) (by kernel_rfl) (by kernel_rfl) (fun _ _ _ h => h) (slice_yields12H (by rfl) 26 (.tmp 46) rfl ⟨w.heap.size + 1, i, none⟩ rfl ai _ ci Tryz.underlying26 (fun _ h => by rw [← HAI.out]; exact know_cell (row_kept HR1.out.2.1 h) HIO.out.2.2.1)) hHeld ?_
          simp only [List.setIfInBounds_toArray, List.set_cons_zero, List.set_cons_succ]
          refine take_at (i := 10) 54 rfl rfl (by kernel_rfl) (by kernel_rfl) (by kernel_rfl) (fun _ _ _ h => h) (slice_yields12H (by rfl) 26 (.tmp 53) rfl ⟨w.heap.size + 1, i, none⟩ rfl ai _ ci Tryz.underlying26 (fun _ h => by rw [← HAI.out]; exact know_cell (row_kept HR1.out.2.1 h) HIO.out.2.2.1)) hHeld ?_
          simp only [List.setIfInBounds_toArray, List.set_cons_zero, List.set_cons_succ]
          refine take_at (i := 13) 57 rfl rfl (by kernel_rfl) (by kernel_rfl) (by kernel_rfl) (fun _ _ _ h => h) (cell_yields (by rfl) 5 (.tmp 56) rfl wr.heap.size 2 rfl .u8 _ Tryz.underlying5 (fun _ h => (cell_of_row _ _ 2 _ _ _ (row_kept HD1.out h)).trans rfl)) hHeld ?_
          simp only [List.setIfInBounds_toArray, List.set_cons_zero, List.set_cons_succ]
          refine take_at (i := 14) 58 rfl rfl (by kernel_rfl) (by kernel_rfl) (by kernel_rfl) (fun _ _ _ h => h) (sure_yes (by rfl) (fun w => by go_simp; try with_reducible rfl)) hHeld ?_
          simp only [List.setIfInBounds_toArray, List.set_cons_zero, List.set_cons_succ]
          refine take_at (i := 15) 59 rfl rfl (by kernel_rfl) (by kernel_rfl) (by kernel_rfl) (fun _ _ _ h => h) (sure_yes (by rfl) (fun w => by go_simp; try with_reducible rfl)) hHeld ?_
          simp only [List.setIfInBounds_toArray, List.set_cons_zero, List.set_cons_succ]
          refine take_at (i := 16) 60 rfl rfl (by kernel_rfl) (by kernel_rfl) (by kernel_rfl) (fun _ _ _ h => h) (sure_yes (by rfl) (fun w => by go_simp; try with_reducible rfl)) hHeld ?_
          simp only [List.setIfInBounds_toArray, List.set_cons_zero, List.set_cons_succ]
          refine take_at (i := 17) 61 rfl rfl (by kernel_rfl) (by kernel_rfl) (by kernel_rfl) (fun _ _ _ h => h) (str_yields12 (by rfl) 9 (.tmp 60) rfl ⟨w.heap.size + 1 + 1, pp, none⟩ rfl _ Tryz.underlying9 (fun _ h => path_cellH (row_kept HR1.out.2.2.1 h) HP4.out.2.1)) hHeld ?_
          simp only [List.setIfInBounds_toArray, List.set_cons_zero, List.set_cons_succ]
          refine take_at (i := 19) 63 rfl rfl (by kernel_rfl) (by kernel_rfl) (by kernel_rfl) (fun _ _ _ h => h) (cell_yields (by rfl) 5 (.tmp 62) rfl wr.heap.size 5 rfl .u8 _ Tryz.underlying5 (fun _ h => (cell_of_row _ _ 5 _ _ _ (row_kept HD1.out h)).trans rfl)) hHeld ?_
          simp only [List.setIfInBounds_toArray, List.set_cons_zero, List.set_cons_succ]
          refine take_at (i := 20) 64 rfl rfl (by kernel_rfl) (by kernel_rfl) (by kernel_rfl) (fun _ _ _ h => h) (build_yields (by rfl) 28 #[(0, .tmp 63)] rfl _ _ (dig_built HB.out.2.2.2) (by simp [Act.eval])) hHeld ?_
          simp only [List.setIfInBounds_toArray, List.set_cons_zero, List.set_cons_succ]
          refine take_at (i := 22) 66 rfl rfl (by kernel_rfl) (by kernel_rfl) (by kernel_rfl) (fun _ _ _ h => h) (cell_yields (by rfl) 5 (.tmp 65) rfl wr.heap.size 5 rfl .u8 _ Tryz.underlying5 (fun _ h => (cell_of_row _ _ 5 _ _ _ (row_kept HD1.out h)).trans rfl)) hHeld ?_
          simp only [List.setIfInBounds_toArray, List.set_cons_zero, List.set_cons_succ]
          refine take_at (i := 23) 67 rfl rfl (by kernel_rfl) (by kernel_rfl) (by kernel_rfl) (fun _ _ _ h => h) (sure_yes (by rfl) (fun w => by go_simp; try with_reducible rfl)) hHeld ?_
          simp only [List.setIfInBounds_toArray, List.set_cons_zero, List.set_cons_succ]
          refine wpAnyH_ready (rs := [5, 25]) (by kernel_rfl) (by simp) ?_
          refine AllReadyH.cons rfl (fun CONT hCONT => ?_) (AllReadyH.cons rfl (fun CONT hCONT => ?_) (AllReadyH.nil))
          · go_simp
            go_at_call 53
            refine (GN.out _ _ (by rw [← HAI.out]; exact dots_below (HY1.out i HIO.out.2.2.1).1 hHeld)).mono ?_
            rintro x wz ⟨rfl, hb⟩
            dsimp only
            refine hCONT.out _ _ (below_next hHeld hb) (fun hHeld => ?_)
            clear hCONT CONT hb
            refine take_at (i := 6) 50 rfl rfl (by kernel_rfl) (by kernel_rfl) (by kernel_rfl) (fun _ _ _ h => h) (sure_yes (by rfl) (fun w => by go_simp; try with_reducible rfl)) hHeld ?_
            simp only [List.setIfInBounds_toArray, List.set_cons_zero, List.set_cons_succ]
            refine take_at (i := 7) 51 rfl rfl (by kernel_rfl) (by kernel_rfl) (by kernel_rfl) (fun _ _ _ h => h) (sure_yes (by rfl) (fun w => by go_simp; try with_reducible rfl)) hHeld ?_
            simp only [List.setIfInBounds_toArray, List.set_cons_zero, List.set_cons_succ]
            refine take_at (i := 24) 68 rfl rfl (by kernel_rfl) (by kernel_rfl) (by kernel_rfl) (fun _ _ _ h => h) (build_yields (by rfl) 30 #[(0, .tmp 51), (1, .tmp 54), (2, .const (.int .i64 1)), (3, .tmp 61), (4, .tmp 64), (5, .tmp 67)] rfl _ _ (ev_built EN ai (h.know i).length ci) (by rw [HEN.out]; simp [Act.eval])) hHeld ?_
            simp only [List.setIfInBounds_toArray, List.set_cons_zero, List.set_cons_succ]
            refine ready_allocH 25 10 (by kernel_rfl) rfl rfl (by rfl) 30 rfl (evC noEv (.slice none 0 0)) ev_zeroH (hHeld.alloc hHeld.size _) ?_
            simp only [List.setIfInBounds_toArray, List.set_cons_zero, List.set_cons_succ]
            have hHeld2 := hHeld.alloc hHeld.size (.cells (evC noEv (.slice none 0 0)) 30 (0, 0))
            have A6 := Lib.hid (box_ev wz 30 noEv (.slice none 0 0))
            have LW := Lib.hid (show W1.heap.size ≤ wz.heap.size from hHeld.size)
            replace hHeld := hHeld2
            clear hHeld2
            generalize hgp : wz.heap.size = PB at *
            generalize wz.alloc (.cells (evC noEv (.slice none 0 0)) 30 (0, 0)) = W6 at *
            refine ready_store_ev 26 (by kernel_rfl) rfl rfl (by rfl) 30 (.tmp 10) (.tmp 68) rfl PB EN noEv (.slice ai (h.know i).length ci) (.slice none 0 0) rfl rfl 30 A6.out evSize rfl (fun w7 hg hs7 => ?_)
            have hb7 := solo_below hHeld hs7 LW.out
            refine ⟨hb7, ?_⟩
            have A7 := Lib.hid hg
            have B7 := Lib.hid hb7
            clear hg hs7 hb7 hHeld
            refine wpAnyH_done (by kernel_rfl) ?_ _
            refine HKK.out _ _ ?_
            have hJJ := HJJ.out
            go_meet
            exact ⟨PB, rfl, LW.out, A7.out, B7.out⟩
          · refine alloc_at 10 rfl (by rfl) 30 rfl (evC noEv (.slice none 0 0)) ev_zeroH ?_
            have A6 := Lib.hid (box_ev wd 30 noEv (.slice none 0 0))
            have LW := Lib.hid (show W1.heap.size ≤ wd.heap.size from hHeld.size)
            refine hCONT.out _ _ (hHeld.alloc hHeld.size _) (fun hHeld => ?_)
            clear hCONT CONT
            simp only [List.setIfInBounds_toArray, List.set_cons_zero, List.set_cons_succ]
            generalize hgp : wd.heap.size = PB at *
            generalize wd.alloc (.cells (evC noEv (.slice none 0 0)) 30 (0, 0)) = W6 at *
            refine wpAnyH_ready (rs := [5]) (by kernel_rfl) (by simp) ?_
            refine AllReadyH.cons rfl (fun CONT hCONT => ?_) AllReadyH.nil
            go_simp
            go_at_call 53
            refine (GN.out _ _ (by rw [← HAI.out]; exact dots_below (HY1.out i HIO.out.2.2.1).1 hHeld)).mono ?_
            rintro x wz ⟨rfl, hb⟩
            dsimp only
            have A6 := Lib.hid (evAt_kept A6.out hb)
            refine hCONT.out _ _ (below_next hHeld hb) (fun hHeld => ?_)
            clear hCONT CONT hb
            refine take_at (i := 6) 50 rfl rfl (by kernel_rfl) (by kernel_rfl) (by kernel_rfl) (fun _ _ _ h => h) (sure_yes (by rfl) (fun w => by go_simp; try with_reducible rfl)) hHeld ?_
            simp only [List.setIfInBounds_toArray, List.set_cons_zero, List.set_cons_succ]
            refine take_at (i := 7) 51 rfl rfl (by kernel_rfl) (by kernel_rfl) (by kernel_rfl) (fun _ _ _ h => h) (sure_yes (by rfl) (fun w => by go_simp; try with_reducible rfl)) hHeld ?_
            simp only [List.setIfInBounds_toArray, List.set_cons_zero, List.set_cons_succ]
            refine take_at (i := 24) 68 rfl rfl (by kernel_rfl) (by kernel_rfl) (by kernel_rfl) (fun _ _ _ h => h) (build_yields (by rfl) 30 #[(0, .tmp 51), (1, .tmp 54), (2, .const (.int .i64 1)), (3, .tmp 61), (4, .tmp 64), (5, .tmp 67)] rfl _ _ (ev_built EN ai (h.know i).length ci) (by rw [HEN.out]; simp [Act.eval])) hHeld ?_
            simp only [List.setIfInBounds_toArray, List.set_cons_zero, List.set_cons_succ]
            refine ready_store_ev 26 (by kernel_rfl) rfl rfl (by rfl) 30 (.tmp 10) (.tmp 68) rfl PB EN noEv (.slice ai (h.know i).length ci) (.slice none 0 0) rfl rfl 30 A6.out evSize rfl (fun w7 hg hs7 => ?_)
            have hb7 := solo_below hHeld hs7 LW.out
            refine ⟨hb7, ?_⟩
            have A7 := Lib.hid hg
            have B7 := Lib.hid hb7
            clear hg hs7 hb7 hHeld
            refine wpAnyH_done (by kernel_rfl) ?_ _
            refine HKK.out _ _ ?_
            have hJJ := HJJ.out
            go_meet
            exact ⟨PB, rfl, LW.out, A7.out, B7.out⟩
        case rest =>
          obtain ⟨PB, rfl, hpb, hev, hbw⟩ := hcut
          have PE := Lib.hid hev
          have MD := Lib.hid (show HistMid w wc a h _ us PB from ⟨row_kept HR1.out.1 hbw, row_kept HR1.out.2.1 hbw, row_kept HR1.out.2.2.1 hbw, fun j hj => typ_below (HY1.out j hj) hbw, ⟨own_below HO1.out.1 hbw, fun x hx => typ_below (HO1.out.2 x hx) hbw⟩, Nat.le_trans HR1.out.2.2.2 hpb, fun b hb => Nat.lt_of_lt_of_le (own_blockH HO1.out.1 b hb).2.1 hpb, (Array.getElem?_eq_some_iff.1 hev).1, below_next HB1.out hbw⟩)
          have c4 : wc.cell? ⟨wr.heap.size, 4, none⟩ = some (.bool d.gone) := (cell_of_row _ _ 4 _ _ _ (row_kept HD1.out hbw)).trans rfl
          have WT := Lib.hid (fun v w hv => refWith_typ10 (h.know i) (by have := HKL.out; exact this) (i : Int) q v w hv)
          have HUS := Lib.hid (show us.length ≤ 40 by have := congrArg List.length HU.out; rw [List.length_map] at this; rw [this, ← HG.out]; exact Nat.le_trans (hist_len l k) hk40)
          clear hpb hev hbw
          cases hGn : d.gone with
          | true =>
            rw [hGn] at c4
            go_upto_region 13 with (first
              | (refine load_cell_on (by rfl) 4 (.tmp 69) rfl ⟨wr.heap.size, 4, none⟩ rfl true Tryz.underlying4 c4 ?_))
            go_upto_region 14 with (first
              | (refine store_cell rfl 3 (.tmp 71) (.const (.int .i64 2)) rfl rfl .i64 PB 3 (evC EN (.slice ai (h.know i).length ci)) 2 30 PE.out rfl rfl (by rw [evC_size]; decide) intSizeH ?_; rintro w13 hg hs; rw [ev_kindH] at hg; have MD13 := Lib.hid (histMid_solo MD.out PE.out hs); have PE13 := Lib.hid (show EvAt w13 PB 30 (⟨EN.r, EN.q, EN.deps, 2, EN.path, EN.sum, EN.size⟩ : Ev) (.slice ai (h.know i).length ci) from hg); clear hg hs))
            go_upto_region 15 with (first
              | (refine build_on (by rfl) 28 #[] rfl [] (row .u8 32 zeroF) dig_built0 (by simp) ?_)
              | (refine store_in rfl 28 (.tmp 73) (.tmp 72) rfl rfl PB 5 (evC (⟨EN.r, EN.q, EN.deps, 2, EN.path, EN.sum, EN.size⟩ : Ev) (.slice ai (h.know i).length ci)).toList (row .u8 32 zeroF).toList 30 (by rw [Array.toArray_toList]; exact PE13.out) rfl (by rw [Array.toArray_toList]; rfl) (by rw [sumSize]; simp [row_size]) (by simp [evC_size, row_size]) (row_onesH _) ?_; rintro w14 hg hs; rw [ev_sumH] at hg; have MD14 := Lib.hid (histMid_solo MD13.out PE13.out hs); have PE14 := Lib.hid (show EvAt w14 PB 30 (⟨EN.r, EN.q, EN.deps, 2, EN.path, zeroF, EN.size⟩ : Ev) (.slice ai (h.know i).length ci) from hg); clear hg hs))
            go_upto_region 16 with (first
              | (refine store_cell rfl 3 (.tmp 74) (.const (.int .i64 0)) rfl rfl .i64 PB 37 (evC (⟨EN.r, EN.q, EN.deps, 2, EN.path, zeroF, EN.size⟩ : Ev) (.slice ai (h.know i).length ci)) 0 30 PE14.out rfl rfl (by rw [evC_size]; decide) intSizeH ?_; rintro w15 hg hs; rw [ev_sizeH] at hg; have MD15 := Lib.hid (histMid_solo MD14.out PE14.out hs); have PE15 := Lib.hid (show EvAt w15 PB 30 (⟨EN.r, EN.q, EN.deps, 2, EN.path, zeroF, 0⟩ : Ev) (.slice ai (h.know i).length ci) from hg); clear hg hs))
            trace_state
            have PX := Lib.hid (show EvAt w15 PB 30 (evH h d) (.slice ai (h.know i).length ci) by
              have e : evH h d = (⟨EN.r, EN.q, EN.deps, 2, EN.path, zeroF, 0⟩ : Ev) := by
                rw [HEN.out]; unfold evH; rw [hGn, ← HIO.out.1, ← HP4.out.1, ← HP4.out.2.2.2, HP4.out.2.2.1]; simp
              rw [e]; exact PE15.out)
            have MX := MD15
            generalize w15 = wE at *
            have hqe : q = (evH h d).q ∧ (i : Int) = (evH h d).r := by unfold evH; rw [← HIO.out.1, ← HP4.out.2.2.2, HP4.out.2.2.1]; exact ⟨rfl, rfl⟩
            have HQE := Lib.hid hqe
            clear hqe
            refine wp_region_held_drew (S := fun w' => EvAt w' PB 30 (evH h d) (.slice ai (h.know i).length ci)) (by kernel_rfl) (show EvAt wE.drew PB _ _ _ from PX.out) (fun hHeld => ?_)
            have MX1 := Lib.hid (show HistMid w wE.drew a h _ us PB from histMid_below MX.out (drawS (Below.refl _ _)))
            generalize wE.drew = wd at *
            refine take_at (i := 0) 75 rfl rfl (by kernel_rfl) (by kernel_rfl) (by kernel_rfl) (fun _ _ _ h => h) (sure_yes (by rfl) (fun w => by go_simp; try with_reducible rfl)) hHeld ?_
            simp only [List.setIfInBounds_toArray, List.set_cons_zero, List.set_cons_succ]
            refine take_at (i := 1) 76 rfl rfl (by kernel_rfl) (by kernel_rfl) (by kernel_rfl) (fun _ _ _ h => h) (sure_yes (by rfl) (fun w => by go_simp; try with_reducible rfl)) hHeld ?_
            simp only [List.setIfInBounds_toArray, List.set_cons_zero, List.set_cons_succ]
            refine take_at (i := 2) 77 rfl rfl (by kernel_rfl) (by kernel_rfl) (by kernel_rfl) (fun _ _ _ h => h) (sure_yes (by rfl) (fun w => by go_simp; try with_reducible rfl)) hHeld ?_
            simp only [List.setIfInBounds_toArray, List.set_cons_zero, List.set_cons_succ]
            refine take_at (i := 4) 79 rfl rfl (by kernel_rfl) (by kernel_rfl) (by kernel_rfl) (fun _ _ _ h => h) (sure_yes (by rfl) (fun w => by go_simp; try with_reducible rfl)) hHeld ?_
            simp only [List.setIfInBounds_toArray, List.set_cons_zero, List.set_cons_succ]
            refine take_at (i := 5) (v := .agg #[.int .i64 (i : Int), .int .i64 q]) 80 rfl rfl (by kernel_rfl) (by kernel_rfl) (by kernel_rfl) (fun _ _ _ h => h) (dot_yields (by rfl) 24 (.tmp 79) rfl ⟨PB, 0, none⟩ rfl (i : Int) q Tryz.underlying24 (by kernel_rfl) (fun _ h => by rw [HQE.out.1, HQE.out.2]; exact evAt_dot h)) hHeld ?_
            simp only [List.setIfInBounds_toArray, List.set_cons_zero, List.set_cons_succ]
            refine wpAnyH_ready (rs := [3]) (by kernel_rfl) (by simp) ?_
            refine AllReadyH.cons rfl (fun CONT hCONT => ?_) AllReadyH.nil
            refine load_cell_at 78 rfl (by rfl) 26 (.tmp 77) rfl ⟨w.heap.size + 1, i, none⟩ rfl ai _ ci Tryz.underlying26 (by rw [← HAI.out]; exact know_cell MX1.out.r2 HIO.out.2.2.1) ?_
            refine hCONT.out _ _ hHeld (fun hHeld => ?_)
            clear hCONT CONT
            simp only [List.setIfInBounds_toArray, List.set_cons_zero, List.set_cons_succ]
            refine wpAnyH_ready (rs := [6]) (by kernel_rfl) (by simp) ?_
            refine AllReadyH.cons rfl (fun CONT hCONT => ?_) AllReadyH.nil
            go_simp
            go_at_call 54
            refine (WT.out _ _ (by rw [← HAI.out]; exact (MX1.out.typ i HIO.out.2.2.1).1)).mono ?_
            rintro x wz ⟨u, rfl, hu, hb⟩
            dsimp only
            have MZ := Lib.hid (histMid_below MX1.out hb)
            have UZ := Lib.hid hu
            obtain ⟨ao3, cap3, rfl⟩ := dots_shape hu.1 _ rfl
            refine hCONT.out _ _ (evAt_kept hHeld hb) (fun hHeld => ?_)
            clear hCONT CONT hb hu
            refine take_at (i := 7) 82 rfl rfl (by kernel_rfl) (by kernel_rfl) (by kernel_rfl) (fun _ _ _ h => h) (sure_yes (by rfl) (fun w => by go_simp; try with_reducible rfl)) hHeld ?_
            simp only [List.setIfInBounds_toArray, List.set_cons_zero, List.set_cons_succ]
            refine wpAnyH_ready (rs := [8]) (by kernel_rfl) (by simp) ?_
            refine AllReadyH.cons rfl (fun CONT hCONT => ?_) AllReadyH.nil
            refine store_slice_at rfl (by rfl) 26 (.tmp 82) (.tmp 81) rfl (w.heap.size + 1) i #[a 0, a 1, a 2] ao3 _ cap3 39 MZ.out.r2 rfl rfl HIO.out.2.2.1 vecSize12 (fun w9 hg hs => ?_)
            have GK := Lib.hid (show w9.heap[w.heap.size + 1]? = _ from hg)
            have GS := Lib.hid hs
            refine hCONT.out _ _ ((hs.block _ (by have := MZ.out.low; omega)).trans hHeld) (fun hHeld => ?_)
            clear hCONT CONT hg hs
            refine wpAnyH_done (by kernel_rfl) ?_ _
            have P9 := Lib.hid hHeld
            clear hHeld
            obtain ⟨ie, hie, hiz⟩ := infoEv
            have HIZ := Lib.hid hiz
            clear hiz
            obtain ⟨N9, hN9⟩ : ∃ N, w9.heap.size = N := ⟨_, rfl⟩
            have HN9 := Lib.hid hN9
            clear hN9
            go_wp2_with (first
              | (refine load_ev_on (by rfl) 30 (.tmp 10) rfl PB rfl P9.out Tryz.underlying30 evSize ?_)
              | (refine build_ev1 rfl 85 rfl (.tmp 84) rfl N9 HN9.out (evH h d) ai (h.know i).length ci rfl ?_; rintro wA hEA hBA hNA; have EA := Lib.hid hEA; have BA := Lib.hid hBA; clear hEA hBA hNA)
              | (refine append_ev rfl (.tmp 83) (.tmp 85) 22 rfl (w.heap.size + 3) 30 ie Tryz.underlying22 hie HIZ.out _ us (evH h d, .slice ai (h.know i).length ci) rfl (own_below (own_solo MZ.out.own.1 GS.out (by omega)) BA.out) rfl ⟨N9, 0, none⟩ 1 rfl (fun j u hu => by rw [Addr.add_lit, Nat.zero_add]; exact evAt_cell EA.out j u hu) (by have := HUS.out; show us.length + 1 ≤ 100000; omega) (by have := BA.out.size; have := GS.out.size; have := MZ.out.low; have := MZ.out.top; omega) ?_; rintro v' w10 hown hgr; have HX := Lib.hid (show HistAt w w10 ((l.take (k + 1)).foldl stepH hist0) v' by
                  rw [take_step HD.out, HG.out]
                  exact hist_event hL HIO.out.1 HIO.out.2.2.1 HU.out MZ.out HAI.out.symm (by rw [← HQE.out.1, ← HQE.out.2]; exact UZ.out) GK.out GS.out BA.out hown hgr); clear hown hgr))
            refine ⟨⟨k + 1, by omega, by omega, by simp, HX.out⟩, ?_⟩
            simp [intOf] <;> omega
          | false =>
            rw [hGn] at c4
            go_upto_region 16 with (first
              | (refine load_cell_on (by rfl) 4 (.tmp 69) rfl ⟨wr.heap.size, 4, none⟩ rfl false Tryz.underlying4 c4 ?_))
            have PX := Lib.hid (show EvAt wc PB 30 (evH h d) (.slice ai (h.know i).length ci) by
              have e : evH h d = EN := by
                rw [HEN.out]; unfold evH; rw [hGn, ← HIO.out.1, ← HP4.out.1, ← HP4.out.2.2.2, HP4.out.2.2.1]; simp
              rw [e]; exact PE.out)
            have MX := MD
            generalize wc = wE at *
            have hqe : q = (evH h d).q ∧ (i : Int) = (evH h d).r := by unfold evH; rw [← HIO.out.1, ← HP4.out.2.2.2, HP4.out.2.2.1]; exact ⟨rfl, rfl⟩
            have HQE := Lib.hid hqe
            clear hqe
            refine wp_region_held_drew (S := fun w' => EvAt w' PB 30 (evH h d) (.slice ai (h.know i).length ci)) (by kernel_rfl) (show EvAt wE.drew PB _ _ _ from PX.out) (fun hHeld => ?_)
            have MX1 := Lib.hid (show HistMid w wE.drew a h _ us PB from histMid_below MX.out (drawS (Below.refl _ _)))
            generalize wE.drew = wd at *
            refine take_at (i := 0) 75 rfl rfl (by kernel_rfl) (by kernel_rfl) (by kernel_rfl) (fun _ _ _ h => h) (sure_yes (by rfl) (fun w => by go_simp; try with_reducible rfl)) hHeld ?_
            simp only [List.setIfInBounds_toArray, List.set_cons_zero, List.set_cons_succ]
            refine take_at (i := 1) 76 rfl rfl (by kernel_rfl) (by kernel_rfl) (by kernel_rfl) (fun _ _ _ h => h) (sure_yes (by rfl) (fun w => by go_simp; try with_reducible rfl)) hHeld ?_
            simp only [List.setIfInBounds_toArray, List.set_cons_zero, List.set_cons_succ]
            refine take_at (i := 2) 77 rfl rfl (by kernel_rfl) (by kernel_rfl) (by kernel_rfl) (fun _ _ _ h => h) (sure_yes (by rfl) (fun w => by go_simp; try with_reducible rfl)) hHeld ?_
            simp only [List.setIfInBounds_toArray, List.set_cons_zero, List.set_cons_succ]
            refine take_at (i := 4) 79 rfl rfl (by kernel_rfl) (by kernel_rfl) (by kernel_rfl) (fun _ _ _ h => h) (sure_yes (by rfl) (fun w => by go_simp; try with_reducible rfl)) hHeld ?_
            simp only [List.setIfInBounds_toArray, List.set_cons_zero, List.set_cons_succ]
            refine take_at (i := 5) (v := .agg #[.int .i64 (i : Int), .int .i64 q]) 80 rfl rfl (by kernel_rfl) (by kernel_rfl) (by kernel_rfl) (fun _ _ _ h => h) (dot_yields (by rfl) 24 (.tmp 79) rfl ⟨PB, 0, none⟩ rfl (i : Int) q Tryz.underlying24 (by kernel_rfl) (fun _ h => by rw [HQE.out.1, HQE.out.2]; exact evAt_dot h)) hHeld ?_
            simp only [List.setIfInBounds_toArray, List.set_cons_zero, List.set_cons_succ]
            refine wpAnyH_ready (rs := [3]) (by kernel_rfl) (by simp) ?_
            refine AllReadyH.cons rfl (fun CONT hCONT => ?_) AllReadyH.nil
            refine load_cell_at 78 rfl (by rfl) 26 (.tmp 77) rfl ⟨w.heap.size + 1, i, none⟩ rfl ai _ ci Tryz.underlying26 (by rw [← HAI.out]; exact know_cell MX1.out.r2 HIO.out.2.2.1) ?_
            refine hCONT.out _ _ hHeld (fun hHeld => ?_)
            clear hCONT CONT
            simp only [List.setIfInBounds_toArray, List.set_cons_zero, List.set_cons_succ]
            refine wpAnyH_ready (rs := [6]) (by kernel_rfl) (by simp) ?_
            refine AllReadyH.cons rfl (fun CONT hCONT => ?_) AllReadyH.nil
            go_simp
            go_at_call 54
            refine (WT.out _ _ (by rw [← HAI.out]; exact (MX1.out.typ i HIO.out.2.2.1).1)).mono ?_
            rintro x wz ⟨u, rfl, hu, hb⟩
            dsimp only
            have MZ := Lib.hid (histMid_below MX1.out hb)
            have UZ := Lib.hid hu
            obtain ⟨ao3, cap3, rfl⟩ := dots_shape hu.1 _ rfl
            refine hCONT.out _ _ (evAt_kept hHeld hb) (fun hHeld => ?_)
            clear hCONT CONT hb hu
            refine take_at (i := 7) 82 rfl rfl (by kernel_rfl) (by kernel_rfl) (by kernel_rfl) (fun _ _ _ h => h) (sure_yes (by rfl) (fun w => by go_simp; try with_reducible rfl)) hHeld ?_
            simp only [List.setIfInBounds_toArray, List.set_cons_zero, List.set_cons_succ]
            refine wpAnyH_ready (rs := [8]) (by kernel_rfl) (by simp) ?_
            refine AllReadyH.cons rfl (fun CONT hCONT => ?_) AllReadyH.nil
            refine store_slice_at rfl (by rfl) 26 (.tmp 82) (.tmp 81) rfl (w.heap.size + 1) i #[a 0, a 1, a 2] ao3 _ cap3 39 MZ.out.r2 rfl rfl HIO.out.2.2.1 vecSize12 (fun w9 hg hs => ?_)
            have GK := Lib.hid (show w9.heap[w.heap.size + 1]? = _ from hg)
            have GS := Lib.hid hs
            refine hCONT.out _ _ ((hs.block _ (by have := MZ.out.low; omega)).trans hHeld) (fun hHeld => ?_)
            clear hCONT CONT hg hs
            refine wpAnyH_done (by kernel_rfl) ?_ _
            have P9 := Lib.hid hHeld
            clear hHeld
            obtain ⟨ie, hie, hiz⟩ := infoEv
            have HIZ := Lib.hid hiz
            clear hiz
            obtain ⟨N9, hN9⟩ : ∃ N, w9.heap.size = N := ⟨_, rfl⟩
            have HN9 := Lib.hid hN9
            clear hN9
            go_wp2_with (first
              | (refine load_ev_on (by rfl) 30 (.tmp 10) rfl PB rfl P9.out Tryz.underlying30 evSize ?_)
              | (refine build_ev1 rfl 85 rfl (.tmp 84) rfl N9 HN9.out (evH h d) ai (h.know i).length ci rfl ?_; rintro wA hEA hBA hNA; have EA := Lib.hid hEA; have BA := Lib.hid hBA; clear hEA hBA hNA)
              | (refine append_ev rfl (.tmp 83) (.tmp 85) 22 rfl (w.heap.size + 3) 30 ie Tryz.underlying22 hie HIZ.out _ us (evH h d, .slice ai (h.know i).length ci) rfl (own_below (own_solo MZ.out.own.1 GS.out (by omega)) BA.out) rfl ⟨N9, 0, none⟩ 1 rfl (fun j u hu => by rw [Addr.add_lit, Nat.zero_add]; exact evAt_cell EA.out j u hu) (by have := HUS.out; show us.length + 1 ≤ 100000; omega) (by have := BA.out.size; have := GS.out.size; have := MZ.out.low; have := MZ.out.top; omega) ?_; rintro v' w10 hown hgr; have HX := Lib.hid (show HistAt w w10 ((l.take (k + 1)).foldl stepH hist0) v' by
                  rw [take_step HD.out, HG.out]
                  exact hist_event hL HIO.out.1 HIO.out.2.2.1 HU.out MZ.out HAI.out.symm (by rw [← HQE.out.1, ← HQE.out.2]; exact UZ.out) GK.out GS.out BA.out hown hgr); clear hown hgr))
            refine ⟨⟨k + 1, by omega, by omega, by simp, HX.out⟩, ?_⟩
            simp [intOf] <;> omega
    · obtain ⟨a, us, hus, hown, hres, hkn2, htyp, hpaths, hsz, hbel⟩ := hh
      have hend : (l.take k).foldl stepH hist0 = histN l := by
        unfold histN
        by_cases h40 : k = 40
        · rw [h40]
        · rw [List.take_of_length_le (by have := HN.out; omega), List.take_of_length_le (by have := HN.out; omega)]
      rw [hend] at hus htyp
      have hHS := Lib.hid (And.intro hown (And.intro hus htyp))
      have HRR := Lib.hid (And.intro hres (And.intro hkn2 hbel))
      have HA1 := Lib.hid (show (#[a 0, a 1, a 2] : Array Value).all (·.oneCell') = true by
        obtain ⟨x0, y0, e0⟩ := dots_shape (htyp 0 (by omega)).1 _ rfl
        obtain ⟨x1, y1, e1⟩ := dots_shape (htyp 1 (by omega)).1 _ rfl
        obtain ⟨x2, y2, e2⟩ := dots_shape (htyp 2 (by omega)).1 _ rfl
        rw [e0, e1, e2]; simp [Value.oneCell'])
      clear hus hown hres hkn2 htyp hpaths hsz hbel hend
      have q9 : ¬ ((k : Int) < (n : Int) ∧ (k : Int) < 40) := by omega
      by_cases hk1 : k < n
      · have q0 : (k : Int) < (n : Int) := by omega
        have q1 : ¬ (k : Int) < 40 := by omega
        clear q9 hr hkn hk40 hk1
        go_upto_region 18 with fail
        refine wp_region_held_drew (S := fun w' => w'.heap[w.heap.size + 1]? = some (.cells #[a 0, a 1, a 2] 39 (0, 0))) (by kernel_rfl) (show wr.drew.heap[w.heap.size + 1]? = _ from HRR.out.2.1) (fun hHeld => ?_)
        have hd0 : Below wr.heap.size wr wr.drew := drawS (Below.refl _ _)
        have RR := Lib.hid (show wr.drew.heap[w.heap.size]? = _ from HRR.out.1)
        have OW := Lib.hid (show OwnEvs (w.heap.size + 3) wr.drew _ us from ⟨own_below hHS.out.1.1 hd0, fun x hx => typ_below (hHS.out.1.2 x hx) hd0⟩)
        have TY := Lib.hid (fun j hj => typ_below (hHS.out.2.2 j hj) hd0)
        have BB := Lib.hid (below_next HRR.out.2.2 hd0)
        clear hd0
        generalize wr.drew = wd at *
        refine take_at (i := 0) 87 rfl rfl (by kernel_rfl) (by kernel_rfl) (by kernel_rfl) (fun _ _ _ h => h) (sure_yes (by rfl) (fun w => by go_simp; try with_reducible rfl)) hHeld ?_
        simp only [List.setIfInBounds_toArray, List.set_cons_zero, List.set_cons_succ]
        refine take_at (i := 1) 88 rfl rfl (by kernel_rfl) (by kernel_rfl) (by kernel_rfl) (fun _ _ _ h => h) (row_yields (by rfl) 39 (.tmp 4) rfl (w.heap.size + 1) rfl 39 #[a 0, a 1, a 2] (0, 0) _ Tryz.underlying39 rfl (by kernel_rfl) (fun _ h => h)) hHeld ?_
        simp only [List.setIfInBounds_toArray, List.set_cons_zero, List.set_cons_succ]
        refine take_at (i := 2) 2 rfl rfl (by kernel_rfl) (by kernel_rfl) (by kernel_rfl) (fun _ _ _ h => h) (sure_yes (by rfl) (fun w => by go_simp; try with_reducible rfl)) hHeld ?_
        simp only [List.setIfInBounds_toArray, List.set_cons_zero, List.set_cons_succ]
        refine wpAnyH_ready (rs := [3]) (by kernel_rfl) (by simp) ?_
        refine AllReadyH.cons rfl (fun CONT hCONT => ?_) AllReadyH.nil
        refine store_at rfl (by rfl) 39 (.tmp 3) (.tmp 88) rfl w.heap.size #[a 0, a 1, a 2] rfl rfl 39 _ RR.out (by kernel_rfl) rfl HA1.out ?_
        have hs := solo_setRow wd w.heap.size #[a 0, a 1, a 2]
        have R9 := Lib.hid (setRow_heap wd w.heap.size _ #[a 0, a 1, a 2] 39 (0, 0) RR.out)
        generalize wd.setRow w.heap.size #[a 0, a 1, a 2] = w9 at *
        have O9 := Lib.hid (show OwnEvs (w.heap.size + 3) w9 _ us from ⟨own_solo OW.out.1 hs (by omega), fun x hx => typ_solo (OW.out.2 x hx) hs RR.out (by decide)⟩)
        have T9 := Lib.hid (fun j hj => typ_solo (TY.out j hj) hs RR.out (by decide))
        have B9 := Lib.hid (solo_below BB.out hs (Nat.le_refl _))
        refine hCONT.out _ _ ((hs.block _ (by omega)).trans hHeld) (fun hHeld => ?_)
        clear hCONT CONT hs
        refine wpAnyH_done (by kernel_rfl) ?_ _
        go_wp2
        exact bodyPost_ret (results_2cell Tryz.results20 _ _ w.heap.size 39 _ (0, 0) _ _ rfl rfl R9.out Tryz.underlying39 rfl (by kernel_rfl)) rfl ⟨_, a, rfl, by rw [← hHS.out.2.1]; exact evs_of_own O9.out, T9.out, B9.out⟩
      · have q0 : ¬ (k : Int) < (n : Int) := by omega
        clear q9 hr hkn hk40 hk1
        go_upto_region 18 with fail
        refine wp_region_held_drew (S := fun w' => w'.heap[w.heap.size + 1]? = some (.cells #[a 0, a 1, a 2] 39 (0, 0))) (by kernel_rfl) (show wr.drew.heap[w.heap.size + 1]? = _ from HRR.out.2.1) (fun hHeld => ?_)
        have hd0 : Below wr.heap.size wr wr.drew := drawS (Below.refl _ _)
        have RR := Lib.hid (show wr.drew.heap[w.heap.size]? = _ from HRR.out.1)
        have OW := Lib.hid (show OwnEvs (w.heap.size + 3) wr.drew _ us from ⟨own_below hHS.out.1.1 hd0, fun x hx => typ_below (hHS.out.1.2 x hx) hd0⟩)
        have TY := Lib.hid (fun j hj => typ_below (hHS.out.2.2 j hj) hd0)
        have BB := Lib.hid (below_next HRR.out.2.2 hd0)
        clear hd0
        generalize wr.drew = wd at *
        refine take_at (i := 0) 87 rfl rfl (by kernel_rfl) (by kernel_rfl) (by kernel_rfl) (fun _ _ _ h => h) (sure_yes (by rfl) (fun w => by go_simp; try with_reducible rfl)) hHeld ?_
        simp only [List.setIfInBounds_toArray, List.set_cons_zero, List.set_cons_succ]
        refine take_at (i := 1) 88 rfl rfl (by kernel_rfl) (by kernel_rfl) (by kernel_rfl) (fun _ _ _ h => h) (row_yields (by rfl) 39 (.tmp 4) rfl (w.heap.size + 1) rfl 39 #[a 0, a 1, a 2] (0, 0) _ Tryz.underlying39 rfl (by kernel_rfl) (fun _ h => h)) hHeld ?_
        simp only [List.setIfInBounds_toArray, List.set_cons_zero, List.set_cons_succ]
        refine take_at (i := 2) 2 rfl rfl (by kernel_rfl) (by kernel_rfl) (by kernel_rfl) (fun _ _ _ h => h) (sure_yes (by rfl) (fun w => by go_simp; try with_reducible rfl)) hHeld ?_
        simp only [List.setIfInBounds_toArray, List.set_cons_zero, List.set_cons_succ]
        refine wpAnyH_ready (rs := [3]) (by kernel_rfl) (by simp) ?_
        refine AllReadyH.cons rfl (fun CONT hCONT => ?_) AllReadyH.nil
        refine store_at rfl (by rfl) 39 (.tmp 3) (.tmp 88) rfl w.heap.size #[a 0, a 1, a 2] rfl rfl 39 _ RR.out (by kernel_rfl) rfl HA1.out ?_
        have hs := solo_setRow wd w.heap.size #[a 0, a 1, a 2]
        have R9 := Lib.hid (setRow_heap wd w.heap.size _ #[a 0, a 1, a 2] 39 (0, 0) RR.out)
        generalize wd.setRow w.heap.size #[a 0, a 1, a 2] = w9 at *
        have O9 := Lib.hid (show OwnEvs (w.heap.size + 3) w9 _ us from ⟨own_solo OW.out.1 hs (by omega), fun x hx => typ_solo (OW.out.2 x hx) hs RR.out (by decide)⟩)
        have T9 := Lib.hid (fun j hj => typ_solo (TY.out j hj) hs RR.out (by decide))
        have B9 := Lib.hid (solo_below BB.out hs (Nat.le_refl _))
        refine hCONT.out _ _ ((hs.block _ (by omega)).trans hHeld) (fun hHeld => ?_)
        clear hCONT CONT hs
        refine wpAnyH_done (by kernel_rfl) ?_ _
        go_wp2
        exact bodyPost_ret (results_2cell Tryz.results20 _ _ w.heap.size 39 _ (0, 0) _ _ rfl rfl R9.out Tryz.underlying39 rfl (by kernel_rfl)) rfl ⟨_, a, rfl, by rw [← hHS.out.2.1]; exact evs_of_own O9.out, T9.out, B9.out⟩
end Go.Proofs.YtcdjkjadbhejpaaGreatDoor
namespace Go.Proofs.YtcdjkjadbhejpaaGreatDoor
open Go.RowKit
def da1 : DeedT := ⟨0, 0, 0, false, false, 1⟩
def da2 : DeedT := ⟨0, 0, 0, false, false, 2⟩
def aw1 : Ev := evH hist0 da1
def aw2 : Ev := evH (stepH hist0 da1) da2
theorem aw_out : (histN [da1, da2]).out = [aw1, aw2] := by rfl
theorem aw_hit1 : hitE aw2 aw1 = false := by decide +kernel
theorem aw_hit2 : hitE aw1 aw2 = true := by decide +kernel
theorem aw_out1 : outE aw2 aw1 = true := by decide +kernel
theorem aw_add1 : addE [aw1] aw2 = [aw2] := by
  unfold addE
  simp [aw_hit1, aw_out1, insE]
theorem aw_add2 : addE [aw2] aw1 = [aw2] := by
  unfold addE
  simp [aw_hit2]
theorem aw_may2 : mayE aw2 = true := by decide +kernel
theorem aw_heads : mayHs [aw2] = true := (mayHs_iff _).2 ⟨fun e he => by rw [List.mem_singleton.1 he]; exact aw_may2, List.pairwise_singleton _ _⟩
theorem aw_fit1 : FitE aw1 := ⟨by unfold I64; decide +kernel, by unfold I64; decide +kernel, by decide +kernel, by decide +kernel⟩
theorem aw_fit2 : FitE aw2 := ⟨by unfold I64; decide +kernel, by unfold I64; decide +kernel, by decide +kernel, by decide +kernel⟩
theorem aw_size : aw2.size = 2 := rfl
theorem aw_small : ∀ x ∈ [da1, da2], x.who < 256 ∧ x.other < 256 ∧ x.path < 256 ∧ x.size < 256 := by
  intro x hx
  simp only [List.mem_cons, List.mem_nil_iff, or_false] at hx
  rcases hx with rfl | rfl <;> decide
theorem addr_zero13 (a : Addr) : a.add 0 = a := by unfold Addr.add; split <;> simp_all
def deedCells : List Value := deedC da1 ++ deedC da2
theorem aw_deeds {w : World} {B : Nat} {T : TypeId} (h : w.heap[B]? = some (.cells deedCells.toArray T (0, 0))) : HasDeeds w (.slice (some ⟨B, 0, none⟩) 2 2) [da1, da2] := by
  refine ⟨some ⟨B, 0, none⟩, 2, rfl, (fun h => by cases h), fun ad had => ?_⟩
  cases had
  refine ⟨Nat.le_refl _, fun i d hi j u hu => ?_⟩
  rw [Addr.add_lit, Nat.zero_add]
  simp only [World.cell?, h]
  match i, hi with
  | 0, hi =>
    cases hi
    have hj : j < 6 := (List.getElem?_eq_some_iff.1 hu).1
    match j, hj with
    | 0, _ => exact hu
    | 1, _ => exact hu
    | 2, _ => exact hu
    | 3, _ => exact hu
    | 4, _ => exact hu
    | 5, _ => exact hu
  | 1, hi =>
    cases hi
    have hj : j < 6 := (List.getElem?_eq_some_iff.1 hu).1
    match j, hj with
    | 0, _ => exact hu
    | 1, _ => exact hu
    | 2, _ => exact hu
    | 3, _ => exact hu
    | 4, _ => exact hu
    | 5, _ => exact hu
  | i + 2, hi => simp at hi
set_option maxRecDepth 100000 in
set_option maxHeartbeats 16000000 in
theorem awake13_any (w : World) (hT : PowTab w) : Calls Tryz.prog 11 #[] w fun x w' => x = .returned (.bool true) ∧ Below w.heap.size w w' := by
  have HT := Lib.hid hT
  have HI := Lib.hid (fun v w hv => history_any [da1, da2] aw_small v w hv)
  rw [aw_out] at HI
  clear hT
  go_enter Tryz.func11, Tryz.ntmps11
  go_upto_region 2 with (first
    | (go_at_call 20; refine (HI.out _ _ (aw_deeds (heap_last _ _))).mono ?_; rintro x w2 ⟨vo, a, rfl, he, ha, hb⟩; have B2 := Lib.hid (((Below.refl w.heap.size w).alloc (Nat.le_refl _) _).trans (hb.mono (by simp))); have HE2 := Lib.hid he; have HA1 := Lib.hid (show (#[a 0, a 1, a 2] : Array Value).all (·.oneCell') = true by
        obtain ⟨x0, y0, e0⟩ := dots_shape (ha 0 (by omega)).1 _ rfl
        obtain ⟨x1, y1, e1⟩ := dots_shape (ha 1 (by omega)).1 _ rfl
        obtain ⟨x2, y2, e2⟩ := dots_shape (ha 2 (by omega)).1 _ rfl
        rw [e0, e1, e2]; simp [Value.oneCell']); clear hb he ha)
    | (refine store_new rfl 39 (.tmp 2) (.tmp 11) rfl rfl w2 _ #[a 0, a 1, a 2] 39 rfl rfl rfl (by kernel_rfl) rfl HA1.out ?_; rintro W3 hg hb hlt; have HV3 := Lib.hid (evs_below HE2.out hb); have B3 := Lib.hid (below_next B2.out hb); have HT3 := Lib.hid (powTab_below HT.out (below_next B2.out hb)); clear hg hb hlt))
  obtain ⟨us, hus, hdu, hhu⟩ := u_of_evs HV3.out
  have hu2 : us.length = 2 := by have := congrArg List.length hus; simpa using this
  obtain ⟨x1, x2, rfl⟩ : ∃ x1 x2, us = [x1, x2] := by
    match us, hu2 with
    | [x1, x2], _ => exact ⟨x1, x2, rfl⟩
  simp only [List.map_cons, List.map_nil, List.cons.injEq, and_true] at hus
  obtain ⟨e1, v1⟩ := x1
  obtain ⟨e2, v2⟩ := x2
  dsimp only at hus
  obtain ⟨rfl, rfl⟩ := hus
  obtain ⟨ad, cap, ev, hc1⟩ := holdsU_at hhu 2 0 rfl _ rfl
  have ev2 := ev
  obtain ⟨ad2, cap2, ev3, hc2⟩ := holdsU_at hhu 2 1 rfl _ rfl
  subst ev
  cases ev3
  have hroom := holdsU_room hhu
  dsimp only at hc1 hc2
  rw [Nat.zero_mul, addr_zero13] at hc1
  rw [Nat.one_mul] at hc2
  have hcap : (1 : Int) ≤ (cap : Int) := by omega
  have C1 := Lib.hid hc1
  have C2 := Lib.hid hc2
  have hd1 := hdu (aw1, v1) (by simp)
  have hd2 := hdu (aw2, v2) (by simp)
  have H1 := Lib.hid (show HoldsU W3 (.slice (some ad) 1 cap) [(aw1, v1)] from holdsU_take hhu 1 (by omega))
  have H2 := Lib.hid (show HoldsU W3 (.slice (some (ad.add 38)) 1 (cap - 1)) [(aw2, v2)] from ⟨some (ad.add 38), cap - 1, rfl, (fun h => by cases h), fun b hb => by
    cases hb
    refine ⟨by simp; omega, fun j u hu => ?_⟩
    exact hc2 j u (by simpa [evsC] using hu)⟩)
  have D1 := Lib.hid (show DepsU W3 [(aw1, v1)] from fun y hy => by rw [List.mem_singleton.1 hy]; exact hd1)
  have D2 := Lib.hid (show DepsU W3 [(aw2, v2)] from fun y hy => by rw [List.mem_singleton.1 hy]; exact hd2)
  have K1 := Lib.hid hd1
  have K2 := Lib.hid hd2
  obtain ⟨o1, c1, q1⟩ := dots_shape hd1 aw1.deps.length rfl
  obtain ⟨o2, c2, q2⟩ := dots_shape hd2 aw2.deps.length rfl
  have A1 := Lib.hid (fun w hv hd hu => add_any [(aw1, v1)] (by simp) (fun y hy => by rw [List.mem_singleton.1 hy]; exact aw_fit1) aw2 aw_fit2 (.slice (some ad) 1 cap) v2 w hv hd hu)
  have A2 := Lib.hid (fun w hv hd hu => add_any [(aw2, v2)] (by simp) (fun y hy => by rw [List.mem_singleton.1 hy]; exact aw_fit2) aw1 aw_fit1 (.slice (some (ad.add 38)) 1 (cap - 1)) v1 w hv hd hu)
  simp only [List.map_cons, List.map_nil] at A1 A2
  rw [aw_add1] at A1
  rw [aw_add2] at A2
  have hn0 : ¬ cap = 0 := by omega
  have hn1 : ¬ cap = 1 := by omega
  clear hhu hdu hc1 hc2 hd1 hd2 ev2 hroom HE2 HV3 HI HT
  go_upto_region 4 with fail
  refine wp_region_held_drew (S := fun w' => Below W3.heap.size W3 w') (by kernel_rfl) (drawS (Below.refl _ _)) (fun hHeld => ?_)
  generalize W3.drew = wd at hHeld ⊢
  refine take_at (i := 0) 15 rfl rfl (by kernel_rfl) (by kernel_rfl) (by kernel_rfl) (fun _ _ _ h => h) (sure_yes (by rfl) (fun w => by go_simp; try with_reducible rfl)) hHeld ?_
  simp only [List.setIfInBounds_toArray, List.set_cons_zero, List.set_cons_succ]
  refine take_at (i := 1) 16 rfl rfl (by kernel_rfl) (by kernel_rfl) (by kernel_rfl) (fun _ _ _ h => h) (sure_yes (by rfl) (fun w => by go_simp; try with_reducible rfl)) hHeld ?_
  simp only [List.setIfInBounds_toArray, List.set_cons_zero, List.set_cons_succ]
  refine take_at (i := 2) 17 rfl rfl (by kernel_rfl) (by kernel_rfl) (by kernel_rfl) (fun _ _ _ h => h) (sure_yes (by rfl) (fun w => by go_simp; try with_reducible rfl)) hHeld ?_
  simp only [List.setIfInBounds_toArray, List.set_cons_zero, List.set_cons_succ]
  refine take_at (i := 3) 18 rfl rfl (by kernel_rfl) (by kernel_rfl) (by kernel_rfl) (fun _ _ _ h => h) (sure_yes (by rfl) (fun w => by go_simp; try with_reducible rfl)) hHeld ?_
  simp only [List.setIfInBounds_toArray, List.set_cons_zero, List.set_cons_succ]
  refine take_at (i := 4) 19 rfl rfl (by kernel_rfl) (by kernel_rfl) (by kernel_rfl) (fun _ _ _ h => h) (evA_yields (by rfl) 30 (.tmp 18) rfl (ad.add 38) rfl Tryz.underlying30 evSize (fun w h j u hu => cell_under12 (C2.out j u hu) h)) hHeld ?_
  simp only [List.setIfInBounds_toArray, List.set_cons_zero, List.set_cons_succ]
  refine ready_call2 5 20 (by kernel_rfl) rfl rfl (by rfl) 16 (.tmp 16) (.tmp 19) 22 30 rfl (.slice (some ad) 1 cap) (.agg (evC aw2 v2)) rfl rfl (enters_of Tryz.func16 (by kernel_rfl) rfl) _ (A1.out _ (holdsU_below H1.out hHeld) (depsU_below D1.out hHeld) (dots_below K2.out hHeld)) (fun x wz hp => ?_)
  obtain ⟨va, rfl, he, hb⟩ := hp
  refine ⟨_, rfl, below_next hHeld hb, ?_⟩
  have HE_va := Lib.hid he
  replace hHeld := below_next hHeld hb
  clear hb he
  simp only [List.setIfInBounds_toArray, List.set_cons_zero, List.set_cons_succ]
  refine take_at (i := 6) 3 rfl rfl (by kernel_rfl) (by kernel_rfl) (by kernel_rfl) (fun _ _ _ h => h) (sure_yes (by rfl) (fun w => by go_simp; try with_reducible rfl)) hHeld ?_
  simp only [List.setIfInBounds_toArray, List.set_cons_zero, List.set_cons_succ]
  refine wpAnyH_done (by kernel_rfl) ?_ _
  have Z4 := Lib.hid hHeld
  have HB1 := Lib.hid (holdsU_below H2.out hHeld)
  have HB2 := Lib.hid (depsU_below D2.out hHeld)
  have HB3 := Lib.hid (dots_below K1.out hHeld)
  clear hHeld
  go_upto_region 5 with fail
  have CZ := Lib.hid (fun j u hu => cell_under12 (C1.out j u hu) Z4.out)
  refine wp_region_held_drew (S := fun w' => Below wz.heap.size wz w') (by kernel_rfl) (drawS (Below.refl _ _)) (fun hHeld => ?_)
  generalize wz.drew = wd at hHeld ⊢
  refine take_at (i := 0) 21 rfl rfl (by kernel_rfl) (by kernel_rfl) (by kernel_rfl) (fun _ _ _ h => h) (sure_yes (by rfl) (fun w => by go_simp; try with_reducible rfl)) hHeld ?_
  simp only [List.setIfInBounds_toArray, List.set_cons_zero, List.set_cons_succ]
  refine take_at (i := 1) 22 rfl rfl (by kernel_rfl) (by kernel_rfl) (by kernel_rfl) (fun _ _ _ h => h) (sure_yes (by rfl) (fun w => by go_simp; try with_reducible rfl)) hHeld ?_
  simp only [List.setIfInBounds_toArray, List.set_cons_zero, List.set_cons_succ]
  refine take_at (i := 2) 23 rfl rfl (by kernel_rfl) (by kernel_rfl) (by kernel_rfl) (fun _ _ _ h => h) (sure_yes (by rfl) (fun w => by go_simp; try with_reducible rfl)) hHeld ?_
  simp only [List.setIfInBounds_toArray, List.set_cons_zero, List.set_cons_succ]
  refine take_at (i := 3) 24 rfl rfl (by kernel_rfl) (by kernel_rfl) (by kernel_rfl) (fun _ _ _ h => h) (sure_yes (by rfl) (fun w => by go_simp; try with_reducible rfl)) hHeld ?_
  simp only [List.setIfInBounds_toArray, List.set_cons_zero, List.set_cons_succ]
  refine take_at (i := 4) 25 rfl rfl (by kernel_rfl) (by kernel_rfl) (by kernel_rfl) (fun _ _ _ h => h) (evA_yields (by rfl) 30 (.tmp 24) rfl ad rfl Tryz.underlying30 evSize (fun w h j u hu => cell_under12 (CZ.out j u hu) h)) hHeld ?_
  simp only [List.setIfInBounds_toArray, List.set_cons_zero, List.set_cons_succ]
  refine ready_call2 5 26 (by kernel_rfl) rfl rfl (by rfl) 16 (.tmp 22) (.tmp 25) 22 30 rfl (.slice (some (ad.add 38)) 1 (cap - 1)) (.agg (evC aw1 v1)) rfl rfl (enters_of Tryz.func16 (by kernel_rfl) rfl) _ (A2.out _ (holdsU_below HB1.out hHeld) (depsU_below HB2.out hHeld) (dots_below HB3.out hHeld)) (fun x wy hp => ?_)
  obtain ⟨vb, rfl, he, hb⟩ := hp
  refine ⟨_, rfl, below_next hHeld hb, ?_⟩
  have HE_vb := Lib.hid he
  replace hHeld := below_next hHeld hb
  clear hb he
  simp only [List.setIfInBounds_toArray, List.set_cons_zero, List.set_cons_succ]
  refine take_at (i := 6) 4 rfl rfl (by kernel_rfl) (by kernel_rfl) (by kernel_rfl) (fun _ _ _ h => h) (sure_yes (by rfl) (fun w => by go_simp; try with_reducible rfl)) hHeld ?_
  simp only [List.setIfInBounds_toArray, List.set_cons_zero, List.set_cons_succ]
  refine wpAnyH_done (by kernel_rfl) ?_ _
  have Z5 := Lib.hid hHeld
  clear hHeld
  obtain ⟨us, hus, hda, hha⟩ := u_of_evs (evs_below HE_va.out Z5.out)
  obtain ⟨vs, hvs, hdb, hhb⟩ := u_of_evs HE_vb.out
  have hu1 : us.length = 1 := by have := congrArg List.length hus; simpa using this
  have hu2 : vs.length = 1 := by have := congrArg List.length hvs; simpa using this
  obtain ⟨y1, rfl⟩ : ∃ x, us = [x] := List.length_eq_one_iff.1 hu1
  obtain ⟨y2, rfl⟩ : ∃ x, vs = [x] := List.length_eq_one_iff.1 hu2
  simp only [List.map_cons, List.map_nil, List.cons.injEq, and_true] at hus hvs
  obtain ⟨f1, w1⟩ := y1
  obtain ⟨f2, w2⟩ := y2
  dsimp only at hus hvs
  subst hus
  subst hvs
  obtain ⟨bd, bap, ev, hc1⟩ := holdsU_at hha 1 0 rfl _ rfl
  subst ev
  obtain ⟨cd, cap3, ev, hc2⟩ := holdsU_at hhb 1 0 rfl _ rfl
  subst ev
  rw [Nat.zero_mul, addr_zero13] at hc1 hc2
  have CA := ev_fieldM hc1 37 (by decide) _ (evC_at _ _).2.2.2.2.2
  have CB := ev_fieldM hc2 37 (by decide) _ (evC_at _ _).2.2.2.2.2
  rw [aw_size] at CA CB
  have MA := Lib.hid (may_heads13 [(aw2, w1)] (by simp) (fun y hy => by rw [List.mem_singleton.1 hy]; exact aw_fit2) _ _ hha hda (powTab_below (powTab_below HT3.out Z4.out) Z5.out))
  simp only [List.map_cons, List.map_nil] at MA
  rw [aw_heads] at MA
  clear hc1 hc2 hha hhb hda hdb hu1 hu2
  go_wp2_with (first
    | (go_at_call 13; refine MA.out.mono ?_; rintro x w9 ⟨rfl, hb⟩; have B9 := Lib.hid hb; clear hb))
  go_ret
  exact ⟨rfl, below_next B3.out (below_next (below_next Z4.out Z5.out) B9.out)⟩
end Go.Proofs.YtcdjkjadbhejpaaGreatDoor
namespace Go.Proofs.YtcdjkjadbhejpaaGreatDoor
open Go.RowKit
theorem mem_fst {us : List (Ev × Value)} {x : Ev × Value} (h : x ∈ us) : x.1 ∈ us.map (·.1) := List.mem_map_of_mem h
/-- List of like events. -/
theorem list_same (S : List Ev) (hl : S.length ≤ 40000) (hf : ∀ e ∈ S, FitE e) (v u : Value) (w : World) (hv : HasEvs w v S) (hu : HasEvs w u S) : Calls Tryz.prog 15 #[v, u] w fun x w' => x = .returned (.bool true) ∧ Below w.heap.size w w' := by
  obtain ⟨us, h1, h2, h3⟩ := u_of_evs hv
  obtain ⟨vs, g1, g2, g3⟩ := u_of_evs hu
  exact list_true13 us vs (by have := congrArg List.length h1; rw [List.length_map] at this; omega) (fun x hx => (hf _ (by rw [← h1]; exact mem_fst hx)).2.2.1) (h1.trans g1.symm) v u w h3 h2 g3 g2
end Go.Proofs.YtcdjkjadbhejpaaGreatDoor
namespace Go.Proofs.YtcdjkjadbhejpaaGreatDoor
open Go.RowKit
/-- Events whose numbers are of 64 bits, and whose paths a memory can hold. -/
def WideU (us : List (Ev × Value)) : Prop := ∀ x ∈ us, I64 x.1.r ∧ I64 x.1.q ∧ x.1.path.length < 1152921504606846976
theorem fit_small {us : List (Ev × Value)} (h : WideU us) (hs : smallB us = true) : FitU us ∧ us.length ≤ 60 := by
  unfold smallB at hs
  rw [Bool.and_eq_true, decide_eq_true_eq] at hs
  refine ⟨fun x hx => ⟨(h x hx).1, (h x hx).2.1, ?_, (h x hx).2.2⟩, hs.1⟩
  have := List.all_eq_true.1 hs.2 x hx
  simp only [decide_eq_true_eq] at this
  omega
end Go.Proofs.YtcdjkjadbhejpaaGreatDoor
namespace Go.Proofs.YtcdjkjadbhejpaaGreatDoor
open Go.RowKit
theorem opH_c1 {P : Program} {md : Region.Mode} {ops : Array Oper} {Q : Exit → Act → World → Prop} {S : World → Prop} {fuel : Nat} {listed : Array Bool} {ts : Array Value} {ds : List Deferred} {w : World} {i : Nat} {o : Oper} (d : Nat) (hoi : ops[i]? = some o) (hd : o.dst = some d) (hw : Region.wanted o (yielded ops ts) = true) (f : FuncId) (c x : Operand) (t : TypeId)
    (ho : o.op = .call { callee := .value c, args := #[x], argTypes := #[t] }) (hc : Act.eval { tmps := ts, defers := ds } c = .func (.func f) #[] #[]) (v : Value) (hx : Act.eval { tmps := ts, defers := ds } x = v) (eg : ∀ vs w, (callFunc f vs).run P w = .ok (.enter f vs) w) (Post : Ending → World → Prop) (hcall : Calls P f #[v] w Post)
    (h : ∀ e w', Post e w' → ∃ r, e = .returned r ∧ S w' ∧ wpAnyH P md ops Q S fuel (listed.setIfInBounds i true) { tmps := ts.setIfInBounds d r, defers := ds } w') : OpH P md ops Q S fuel listed { tmps := ts, defers := ds } w i :=
  opH_call1 hoi hw f c x t ho hc v hx eg Post hcall fun e w' hp => by
    obtain ⟨r, h1, h2, h3⟩ := h e w' hp
    exact ⟨r, h1, h2, by rw [hd]; exact h3⟩
theorem opH_c2 {P : Program} {md : Region.Mode} {ops : Array Oper} {Q : Exit → Act → World → Prop} {S : World → Prop} {fuel : Nat} {listed : Array Bool} {ts : Array Value} {ds : List Deferred} {w : World} {i : Nat} {o : Oper} (d : Nat) (hoi : ops[i]? = some o) (hd : o.dst = some d) (hw : Region.wanted o (yielded ops ts) = true) (f : FuncId) (c x y : Operand) (t u : TypeId)
    (ho : o.op = .call { callee := .value c, args := #[x, y], argTypes := #[t, u] }) (hc : Act.eval { tmps := ts, defers := ds } c = .func (.func f) #[] #[]) (v z : Value) (hx : Act.eval { tmps := ts, defers := ds } x = v) (hy : Act.eval { tmps := ts, defers := ds } y = z) (eg : ∀ vs w, (callFunc f vs).run P w = .ok (.enter f vs) w) (Post : Ending → World → Prop) (hcall : Calls P f #[v, z] w Post)
    (h : ∀ e w', Post e w' → ∃ r, e = .returned r ∧ S w' ∧ wpAnyH P md ops Q S fuel (listed.setIfInBounds i true) { tmps := ts.setIfInBounds d r, defers := ds } w') : OpH P md ops Q S fuel listed { tmps := ts, defers := ds } w i :=
  opH_call2 hoi hw f c x y t u ho #[] hc v z hx hy eg Post hcall fun e w' hp => by
    obtain ⟨r, h1, h2, h3⟩ := h e w' hp
    exact ⟨r, h1, h2, by rw [hd]; exact h3⟩
end Go.Proofs.YtcdjkjadbhejpaaGreatDoor
namespace Go.Proofs.YtcdjkjadbhejpaaGreatDoor
/-- What a struct's parts weigh is weighed with it. -/
theorem sized_parts {H : Type} {P : Program} {ts : List TypeId} {ds : List (DataW H)} (h : (DataW.weightsEach P ts ds).all (· ≤ reachBytes) = true) {j : Nat} {t : TypeId} {fs : Array Field} {parts : List (DataW H)} (ht : ts[j]? = some t) (hd : ds[j]? = some (.agg parts)) (hu : P.underlying t = some (.struct fs)) :
    (DataW.weightsEach P (fs.toList.map (·.type)) parts).all (· ≤ reachBytes) = true := by
  rw [List.all_eq_true]
  intro n hn
  exact List.all_eq_true.1 h n (DataW.weights_mem_each ht hd n (by simp only [DataW.weights, hu]; exact hn))
end Go.Proofs.YtcdjkjadbhejpaaGreatDoor
namespace Go.Proofs.YtcdjkjadbhejpaaGreatDoor
open Go.ChangeShapes Go.WideShapes Go.ChangeAt Go.RowKit
/-- The cell of a slice of dots that lies in memory. -/
theorem open_dots_cell {H : Type} {enc : TypeId × Value → H} {P : Program} {w : World} {base : Nat} {sp : Nat → Bool} {held : Bool} {t e : TypeId} {f0 f1 : Field} {v : Value} {d : DataW H} {p : List MemPlace} {fuel : Nat}
    (ht : P.underlying t = some (.slice e)) (he : P.underlying e = some (.struct #[f0, f1])) (ce : P.cellsOf e = 2) (o0 : f0.offset = 0) (o1 : f1.offset = 1) (c0 : P.cellsOf f0.type = 1) (c1 : P.cellsOf f1.type = 1)
    (h0 : P.underlying f0.type = some (.int .i64)) (h1 : P.underlying f1.type = some (.int .i64)) (hf : DataW.trod enc P w base sp held fuel t [v] = some (d, p)) : ∃ l : List D2, HasDots w v l ∧ (l = [] ∨ ∃ elems spare, d = .slice elems spare ∧ l.length ≤ elems.length + spare.length) := by
  rcases Go.Deep.open_slice_pairs ht he ce o0 o1 c0 c1 hf with ⟨hcs, -⟩ | ⟨a, len, cap, m, n, V0, V1, D0, D1, P0, P1, hcs, _, hl, hm, hmm, hx, hrow⟩
  · simp only [List.cons.injEq, and_true] at hcs
    subst hcs
    exact ⟨[], dots_nil w, .inl rfl⟩
  · simp only [List.cons.injEq, and_true] at hcs
    subst hcs
    have hlm : len ≤ m := by rw [hmm]; split <;> omega
    have each : ∀ i, i < len → ∃ y : D2, w.cell? (a.add (i * 2)) = some (.int .i64 y.1) ∧ w.cell? (a.add (i * 2 + 1)) = some (.int .i64 y.2) := fun i hi => by
      obtain ⟨g1, g2, g3, g4⟩ := hrow i (by omega)
      obtain ⟨x, e1, -, -⟩ := DataW.trod_int h0 g3
      obtain ⟨z, e2, -, -⟩ := DataW.trod_int h1 g4
      simp only [List.cons.injEq, and_true] at e1 e2
      exact ⟨(x, z), by rw [g1, e1], by rw [g2, e2]⟩
    obtain ⟨y, hy⟩ := Go.Deep.choose_lt each
    have hus : ∀ i x, ((List.range len).map y)[i]? = some x → i < len ∧ x = y i := fun i x hx => by
      have hi : i < len := by
        have := (List.getElem?_eq_some_iff.1 hx).1
        simpa using this
      refine ⟨hi, ?_⟩
      rw [List.getElem?_map, List.getElem?_range hi] at hx
      exact (Option.some.inj hx).symm
    have hulen : ((List.range len).map y).length = len := by simp
    refine ⟨(List.range len).map y, ⟨some a, cap, by rw [hulen], (fun h => by cases h), fun ad had => ⟨by rw [hulen]; exact hl, fun j u hu => ?_⟩⟩, .inr ⟨_, _, (congrArg Prod.fst hx : _), by rw [hulen]; simp⟩⟩
    cases had
    obtain ⟨i, x, hx, hor⟩ := dotsC_inv _ j u hu
    obtain ⟨hi, rfl⟩ := hus i x hx
    rcases hor with ⟨rfl, rfl⟩ | ⟨rfl, rfl⟩
    · exact (hy i hi).1
    · exact (hy i hi).2
end Go.Proofs.YtcdjkjadbhejpaaGreatDoor
namespace Go.Proofs.YtcdjkjadbhejpaaGreatDoor
open Go.ChangeShapes Go.WideShapes Go.ChangeAt Go.RowKit
theorem open_digest_cells {H : Type} {enc : TypeId × Value → H} {P : Program} {w : World} {base : Nat} {sp : Nat → Bool} {held : Bool} {t e : TypeId} {cs : List Value} {x : DataW H × List MemPlace} {fuel : Nat}
    (ht : P.underlying t = some (.array 32 e)) (he : P.underlying e = some (.int .u8)) (hce : P.cellsOf e = 1) (hct : P.cellsOf t = 32) (h : DataW.trod enc P w base sp held fuel t cs = some x) :
    ∃ f : Nat → BitVec 32, (∀ i, u32 (f i) < 256) ∧ cs = (row .u8 32 f).toList := by
  obtain ⟨xs, m, -, -, hl, hxl, hel⟩ := DataW.trod_array ht h
  rw [hct] at hl
  have each : ∀ i, i < 32 → ∃ z : Int, cs[i]? = some (.int .u8 z) ∧ (Lit.int .u8 z).wf = true := fun i hi => by
    have g := hel i hi
    rw [hce, Nat.mul_one, List.getElem?_eq_getElem (by omega)] at g
    have e1 : (cs.drop i).take 1 = [cs[i]] := by rw [List.drop_eq_getElem_cons (by omega)]; rfl
    rw [e1] at g
    obtain ⟨z, ez, -, wz⟩ := DataW.trod_int he g
    simp only [List.cons.injEq, and_true] at ez
    exact ⟨z, by rw [List.getElem?_eq_getElem (by omega), ez], wz⟩
  obtain ⟨y, hy⟩ := Go.Deep.choose_lt each
  obtain ⟨f, h1, h2⟩ := bytes_fn (n := 32) (zs := (List.range 32).map y) (by simp) (fun z hz => by
    obtain ⟨i, hi, rfl⟩ := List.mem_map.1 hz
    exact (hy i (by simpa using hi)).2)
  refine ⟨f, h1, ?_⟩
  rw [← h2]
  apply List.ext_getElem?
  intro i
  by_cases hi : i < 32
  · rw [(hy i hi).1]; simp [List.getElem?_range hi]
  · rw [List.getElem?_eq_none (by omega), List.getElem?_eq_none (by simp; omega)]
set_option maxRecDepth 100000 in
set_option maxHeartbeats 4000000 in
set_option linter.unusedSimpArgs false in
theorem open_event {H : Type} {enc : TypeId × Value → H} {w : World} {base : Nat} {sp : Nat → Bool} {held : Bool} {r : Reach} {b0 : Nat} {v : Value} {d : DataW H} {p : List MemPlace} (hv : Value.okWide Tryz.prog w r b0 30 v) (h : DataW.Trod enc Tryz.prog w base sp held 30 v d p) :
    ∃ (e : Ev) (u : Value), v = .agg (evC e u) ∧ HasDots w u e.deps ∧ (∀ i, u32 (e.sum i) < 256) ∧ (Lit.int .i64 e.r).wf = true ∧ (Lit.int .i64 e.q).wf = true ∧ (Lit.int .i64 e.kind).wf = true ∧ (Lit.int .i64 e.size).wf = true ∧
      ∃ ds : List (DataW H), d = .agg ds ∧ ds[3]? = some (.lit (.string (str e.path).data.toList)) := by
  have hc0 : Tryz.prog.cellsOf 30 = 38 := by kernel_rfl
  have hc1 : Tryz.prog.cellsOf 24 = 2 := by kernel_rfl
  have hc2 : Tryz.prog.cellsOf 3 = 1 := by kernel_rfl
  have hc3 : Tryz.prog.cellsOf 2 = 1 := by kernel_rfl
  have hc4 : Tryz.prog.cellsOf 26 = 1 := by kernel_rfl
  have hc5 : Tryz.prog.cellsOf 9 = 1 := by kernel_rfl
  have hc6 : Tryz.prog.cellsOf 28 = 32 := by kernel_rfl
  have hc7 : Tryz.prog.cellsOf 5 = 1 := by kernel_rfl
  unfold Value.okWide at hv
  rw [Tryz.underlying30] at hv
  obtain ⟨cs, rfl, hsz, _⟩ := hv
  rw [hc0] at hsz
  obtain ⟨fuel, hy⟩ := h
  match cs, hsz with
  | ⟨k0 :: k1 :: k2 :: k3 :: k4 :: ks⟩, hsz =>
  obtain ⟨ys, m', _, hd, _, hl', hf⟩ := DataW.trod_struct Tryz.underlying30 hy
  match ys, hl' with
  | [y0, y1, y2, y3, y4, y5], _ =>
  have g0 := hf 0 _ rfl
  have g1 := hf 1 _ rfl
  have g2 := hf 2 _ rfl
  have g3 := hf 3 _ rfl
  have g4 := hf 4 _ rfl
  have g5 := hf 5 _ rfl
  simp [Value.cells, hc1, hc2, hc4, hc5, hc6] at g0 g1 g2 g3 g4 g5
  obtain ⟨zs, m2, _, _, _, hl2, hf2⟩ := DataW.trod_struct Tryz.underlying24 g0
  match zs, hl2 with
  | [z0, z1], _ =>
  have i0 := hf2 0 _ rfl
  have i1 := hf2 1 _ rfl
  simp [hc2, hc3] at i0 i1
  obtain ⟨a, e0, -, w0⟩ := DataW.trod_int Tryz.underlying3 i0
  obtain ⟨b, e1, -, w1⟩ := DataW.trod_int Tryz.underlying2 i1
  obtain ⟨l, hl3, -⟩ := open_dots_cell Tryz.underlying26 Tryz.underlying24 (by kernel_rfl) rfl rfl (by kernel_rfl) (by kernel_rfl) Tryz.underlying3 Tryz.underlying2 g1
  obtain ⟨kd, e2, -, w2⟩ := DataW.trod_int Tryz.underlying3 g2
  obtain ⟨x, e3, h3, -⟩ := DataW.trod_string Tryz.underlying9 g3
  obtain ⟨f, hf4, e4⟩ := open_digest_cells Tryz.underlying28 Tryz.underlying5 hc7 hc6 g4
  obtain ⟨sz, e5, -, w5⟩ := DataW.trod_int Tryz.underlying3 g5
  simp only [List.cons.injEq, and_true] at e0 e1 e2 e3
  have hlen : ks.length = 33 := by simpa using hsz
  have hks : ks = (row .u8 32 f).toList ++ [.int .i64 sz] := by
    rw [← e4, ← e5, List.take_of_length_le (l := ks.drop 32) (by rw [List.length_drop]; omega), List.take_append_drop]
  have hx : str x.data.toList = x := by unfold str; rfl
  refine ⟨⟨a, b, l, kd, x.data.toList, f, sz⟩, k2, ?_, hl3, hf4, w0, w1, w2, w5, [y0.1, y1.1, y2.1, y3.1, y4.1, y5.1], ?_, ?_⟩
  · rw [e0, e1, e2, e3, hks]
    refine congrArg Value.agg ?_
    apply Array.toList_inj.1
    simp only [evC, hx, Array.toList_append]
    rfl
  · exact (Prod.mk.inj hd).1
  · show some y3.1 = _
    rw [h3, hx]
theorem i64_of12 {a : Int} (h : (Lit.int .i64 a).wf = true) : -9223372036854775808 ≤ a ∧ a < 9223372036854775808 := by
  simp [Lit.wf, IntKind.min, IntKind.max, IntKind.signed, IntKind.bits] at h; omega
end Go.Proofs.YtcdjkjadbhejpaaGreatDoor
namespace Go.Proofs.YtcdjkjadbhejpaaGreatDoor
open Go.ChangeShapes Go.WideShapes Go.ChangeAt Go.RowKit
theorem mem_weightsE {H : Type} {P : Program} {e : TypeId} {d : DataW H} {m : Nat} : ∀ {ds : List (DataW H)}, d ∈ ds → m ∈ DataW.weights P e d → m ∈ DataW.weightsAll P e ds
  | x :: ds, h, hm => by
    simp only [DataW.weightsAll, List.mem_append]
    rcases List.mem_cons.1 h with rfl | h
    · exact .inl hm
    · exact .inr (mem_weightsE h hm)
theorem sized_elemE {H : Type} {P : Program} {ts : List TypeId} {ds : List (DataW H)} {k : Nat} {t e : TypeId} {fs : Array Field} {elems spare parts : List (DataW H)} (h : (DataW.weightsEach P ts ds).all (· ≤ reachBytes) = true)
    (ht : ts[k]? = some t) (hd : ds[k]? = some (.slice elems spare)) (hu : P.underlying t = some (.slice e)) (he : P.underlying e = some (.struct fs)) (hm : (.agg parts : DataW H) ∈ elems) : (DataW.weightsEach P (fs.toList.map (·.type)) parts).all (· ≤ reachBytes) = true := by
  rw [List.all_eq_true]
  intro n hn
  refine List.all_eq_true.1 h _ (DataW.weights_mem_each ht hd n ?_)
  simp only [DataW.weights, hu, List.mem_cons, List.mem_append]
  exact .inr (.inl (mem_weightsE hm (by simp only [DataW.weights, he]; exact hn)))
theorem evsC_inv (us : List (Ev × Value)) : ∀ j u, (evsC us)[j]? = some u → ∃ i z q, us[i]? = some z ∧ j = i * 38 + q ∧ (evC z.1 z.2)[q]? = some u := by
  induction us with
  | nil => intro j u h; simp [evsC] at h
  | cons y t ih =>
    intro j u h
    rw [evsC] at h
    by_cases hj : j < 38
    · rw [List.getElem?_append_left (by rw [evC_len]; exact hj), Array.getElem?_toList] at h
      exact ⟨0, y, j, rfl, by omega, h⟩
    · rw [List.getElem?_append_right (by rw [evC_len]; omega), evC_len] at h
      obtain ⟨i, z, q, h1, h2, h3⟩ := ih (j - 38) u h
      exact ⟨i + 1, z, q, by simpa using h1, by omega, h3⟩
set_option maxRecDepth 100000 in
set_option maxHeartbeats 4000000 in
set_option linter.unusedSimpArgs false in
theorem open_event_cells {H : Type} {enc : TypeId × Value → H} {w : World} {base : Nat} {sp : Nat → Bool} {held : Bool} {fuel : Nat} {cs : List Value} {x : DataW H × List MemPlace} (hsz : cs.length = 38) (hy : DataW.trod enc Tryz.prog w base sp held fuel 30 cs = some x) :
    ∃ (e : Ev) (u : Value), cs = (evC e u).toList ∧ HasDots w u e.deps ∧ I64 e.r ∧ I64 e.q ∧ ∃ ds : List (DataW H), x.1 = .agg ds ∧ ds[3]? = some (.lit (.string (str e.path).data.toList)) := by
  have hc1 : Tryz.prog.cellsOf 24 = 2 := by kernel_rfl
  have hc2 : Tryz.prog.cellsOf 3 = 1 := by kernel_rfl
  have hc3 : Tryz.prog.cellsOf 2 = 1 := by kernel_rfl
  have hc4 : Tryz.prog.cellsOf 26 = 1 := by kernel_rfl
  have hc5 : Tryz.prog.cellsOf 9 = 1 := by kernel_rfl
  have hc6 : Tryz.prog.cellsOf 28 = 32 := by kernel_rfl
  have hc7 : Tryz.prog.cellsOf 5 = 1 := by kernel_rfl
  match cs, hsz with
  | k0 :: k1 :: k2 :: k3 :: k4 :: ks, hsz =>
  obtain ⟨ys, m', _, hd, _, hl', hf⟩ := DataW.trod_struct Tryz.underlying30 hy
  match ys, hl' with
  | [y0, y1, y2, y3, y4, y5], _ =>
  have g0 := hf 0 _ rfl
  have g1 := hf 1 _ rfl
  have g2 := hf 2 _ rfl
  have g3 := hf 3 _ rfl
  have g4 := hf 4 _ rfl
  have g5 := hf 5 _ rfl
  simp [Value.cells, hc1, hc2, hc4, hc5, hc6] at g0 g1 g2 g3 g4 g5
  obtain ⟨zs, m2, _, _, _, hl2, hf2⟩ := DataW.trod_struct Tryz.underlying24 g0
  match zs, hl2 with
  | [z0, z1], _ =>
  have i0 := hf2 0 _ rfl
  have i1 := hf2 1 _ rfl
  simp [hc2, hc3] at i0 i1
  obtain ⟨a, e0, -, w0⟩ := DataW.trod_int Tryz.underlying3 i0
  obtain ⟨b, e1, -, w1⟩ := DataW.trod_int Tryz.underlying2 i1
  obtain ⟨l, hl3, -⟩ := open_dots_cell Tryz.underlying26 Tryz.underlying24 (by kernel_rfl) rfl rfl (by kernel_rfl) (by kernel_rfl) Tryz.underlying3 Tryz.underlying2 g1
  obtain ⟨kd, e2, -, w2⟩ := DataW.trod_int Tryz.underlying3 g2
  obtain ⟨s, e3, h3, -⟩ := DataW.trod_string Tryz.underlying9 g3
  obtain ⟨f, hf4, e4⟩ := open_digest_cells Tryz.underlying28 Tryz.underlying5 hc7 hc6 g4
  obtain ⟨sz, e5, -, w5⟩ := DataW.trod_int Tryz.underlying3 g5
  simp only [List.cons.injEq, and_true] at e0 e1 e2 e3
  have hlen : ks.length = 33 := by simpa using hsz
  have hks : ks = (row .u8 32 f).toList ++ [.int .i64 sz] := by
    rw [← e4, ← e5, List.take_of_length_le (l := ks.drop 32) (by rw [List.length_drop]; omega), List.take_append_drop]
  have hx : str s.data.toList = s := by unfold str; rfl
  refine ⟨⟨a, b, l, kd, s.data.toList, f, sz⟩, k2, ?_, hl3, i64_of12 w0, i64_of12 w1, [y0.1, y1.1, y2.1, y3.1, y4.1, y5.1], ?_, ?_⟩
  · rw [e0, e1, e2, e3, hks]
    simp only [evC, hx, Array.toList_append]
    rfl
  · exact (Prod.mk.inj hd).1
  · show some y3.1 = _
    rw [h3, hx]
set_option maxRecDepth 100000 in
set_option maxHeartbeats 4000000 in
theorem open_events {H : Type} {enc : TypeId × Value → H} {w : World} {base : Nat} {sp : Nat → Bool} {held : Bool} {r : Reach} {b0 : Nat} {v : Value} {d : DataW H} {p : List MemPlace} {ts : List TypeId} {ds : List (DataW H)} {k : Nat} (hv : Value.okWide Tryz.prog w r b0 22 v)
    (h : DataW.Trod enc Tryz.prog w base sp held 22 v d p) (hreach : (DataW.weightsEach Tryz.prog ts ds).all (· ≤ reachBytes) = true) (hts : ts[k]? = some 22) (hds : ds[k]? = some d) :
    ∃ us : List (Ev × Value), HoldsU w v us ∧ DepsU w us ∧ WideU us := by
  have hr : reachBytes = 140737488351232 := by decide
  have hc0 : Tryz.prog.cellsOf 30 = 38 := by kernel_rfl
  obtain ⟨a1, len, cap, rfl⟩ := okWide_slice Tryz.underlying22 hv
  obtain ⟨fuel, hf⟩ := h
  rcases Go.Deep.open_slice Tryz.underlying22 hf with ⟨hcs, -⟩ | ⟨a, len', cap', m, n, D, Pl, hcs, _, hl, hm, hmm, hx, hrow⟩
  · simp [Value.cells] at hcs
    obtain ⟨rfl, rfl, rfl⟩ := hcs
    exact ⟨[], holdsU_nil w, (fun x h => by cases h), fun x h => by cases h⟩
  · simp [Value.cells] at hcs
    obtain ⟨rfl, rfl, rfl⟩ := hcs
    have hlm : len ≤ m := by rw [hmm]; split <;> omega
    have hd : d = .slice ((List.range len).map D) ((List.range (m - len)).map fun j => D (len + j)) := congrArg Prod.fst hx
    have each : ∀ i, i < len → ∃ y : Ev × Value, (∀ j u, (evC y.1 y.2)[j]? = some u → w.cell? (a.add (i * 38 + j)) = some u) ∧ HasDots w y.2 y.1.deps ∧ I64 y.1.r ∧ I64 y.1.q ∧ y.1.path.length < 1152921504606846976 := fun i hi => by
      obtain ⟨cs', h1, h2⟩ := hrow i (by omega)
      rw [hc0] at h1
      obtain ⟨_, hlen, hcell⟩ := World.cells?_some h1
      obtain ⟨e, u, hcs, g1, g2, g3, dd, g4, g5⟩ := open_event_cells hlen h2
      clear h1 h2
      refine ⟨(e, u), fun j z hz => ?_, g1, g2, g3, ?_⟩
      · have hj : j < 38 := by have := (Array.getElem?_eq_some_iff.1 hz).1; rw [evC_size] at this; exact this
        have hh := hcell j hj
        rw [Go.Deep.add_add] at hh
        rw [hh, hcs, Array.getElem?_toList, hz]
      · have hw := sized_elemE (parts := dd) hreach hts (by rw [hds, hd]) Tryz.underlying22 Tryz.underlying30 (List.mem_map.2 ⟨i, by simpa using hi, g4⟩)
        have w0 := sized_string hw (j := 3) (t := 9) rfl g5
        rw [hr, show (str e.path).data.toList = e.path from by simp [str]] at w0
        show e.path.length < _
        omega
    haveI : Inhabited (Ev × Value) := ⟨(⟨0, 0, [], 0, [], fun _ => 0#32, 0⟩, .slice none 0 0)⟩
    obtain ⟨y, hy⟩ := Go.Deep.choose_lt each
    have hulen : ((List.range len).map y).length = len := by simp
    refine ⟨(List.range len).map y, ⟨some a, cap, by rw [hulen], (fun h => by cases h), fun ad had => ⟨by rw [hulen]; exact hl, fun j u hu => ?_⟩⟩, fun x hx => ?_, fun x hx => ?_⟩
    · cases had
      obtain ⟨i, z, q, h1, h2, h3⟩ := evsC_inv _ j u hu
      have hi : i < len := by have := (List.getElem?_eq_some_iff.1 h1).1; simpa using this
      rw [List.getElem?_map, List.getElem?_range hi] at h1
      obtain rfl := Option.some.inj h1
      rw [h2]
      exact (hy i hi).1 q u h3
    · obtain ⟨i, hi, rfl⟩ := List.mem_map.1 hx
      exact (hy i (by simpa using hi)).2.1
    · obtain ⟨i, hi, rfl⟩ := List.mem_map.1 hx
      exact (hy i (by simpa using hi)).2.2
end Go.Proofs.YtcdjkjadbhejpaaGreatDoor
