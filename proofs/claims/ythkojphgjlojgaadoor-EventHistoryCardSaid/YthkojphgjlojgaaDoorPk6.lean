/-
Texts that all claims of this seat share, part 6: EventCode, EventLine, Marks, PathSeq, PathPart, PathAll.
-/
import Derived.BigQuiet
import Derived.Deep.QuietTactic
import Derived.Lib.IndexLaws
import Derived.Test.YthkojphgjlojgaaDoorShelf
import Derived.RangeFuncNested
import Derived.RangeFuncBound
import Derived.RangeFuncCalls
import Derived.RangeFuncLeaves
import Derived.RangeFuncFrom
import Derived.Shelf.Abstract
import Derived.Shelf.RegionOpen
import Derived.WalkKit
import Derived.OwnWalkIn
import Derived.TacticsInMore
import Derived.LoopNIn
import Derived.LoopIn
import Derived.Test.YthkojphgjlojgaaDoorPk5
namespace Go.Proofs.YthkojphgjlojgaaDoor
open Go.RowKit
theorem six_at {w : World} {B : Nat} {T : TypeId} {s : List UInt8} (h : w.heap[B]? = some (.cells (sixC s).toArray T (0, 0))) (k : Nat) (hk : k < 6) : w.cell? ⟨B, k, none⟩ = some (.string (str (sd s k))) := by
  simp only [World.cell?, h]
  exact sixC_at s k hk
set_option maxRecDepth 100000 in
set_option maxHeartbeats 16000000 in
theorem meant_any (s : List UInt8) (hs : s.length < 4294967281) (w : World) : Calls Tryd.prog 43 #[.string (str s)] w fun x w' => ∃ v, x = .returned (.agg (evC (meantE s) v)) ∧ TypDots w' v (meantE s).deps ∧ Below w.heap.size w w' := by
  have SP := Lib.hid (fun w => splitN_any s hs w)
  have hk := fun k => sd_len s k
  have PD := Lib.hid (fun w => parse_any9 (sd s 1) (by have := hk 1; omega) w)
  have PV := Lib.hid (fun w => vecParse_typ (sd s 2) (by have := hk 2; omega) w)
  have PH := Lib.hid (fun w => parse_any w (sd s 4))
  have RD := Lib.hid (fun w => read_any w (sd s 5) 65536 (by have := hk 5; omega))
  have KD := Lib.hid (fun w => kindOf_any (sd s 0) w)
  have MT := Lib.hid (show meantE s = ⟨parR (sd s 1), parQ (sd s 1), parV (sd s 2), kindW (sd s 0), sd s 3, parsed (sd s 4), readN (sd s 5) 65536⟩ from rfl)
  clear hk
  go_enter Tryd.func43, Tryd.ntmps43
  go_upto_region 2 with fail
  rw [← noEv_cells]
  have H1 := Lib.hid (show ((w.alloc (.cells (evC noEv (.slice none 0 0)) 36 (0, 0))).alloc (.cells emptyC.toArray 84 (0, 0))).heap[w.heap.size + 1]? = some (.cells emptyC.toArray 84 (0, 0)) by
    have h := heap_last (w.alloc (.cells (evC noEv (.slice none 0 0)) 36 (0, 0))) (.cells emptyC.toArray 84 (0, 0))
    rwa [show (w.alloc (.cells (evC noEv (.slice none 0 0)) 36 (0, 0))).heap.size = w.heap.size + 1 by simp] at h)
  have E1 := Lib.hid (evAt_kept (box_ev w 36 noEv (.slice none 0 0)) ((Below.refl _ _).alloc (Nat.le_refl _) (.cells emptyC.toArray 84 (0, 0))))
  have B1 := Lib.hid (((Below.refl w.heap.size w).alloc (Nat.le_refl _) (.cells (evC noEv (.slice none 0 0)) 36 (0, 0))).alloc (by simp) (.cells emptyC.toArray 84 (0, 0)))
  rw [show (#[Value.string ⟨#[]⟩, Value.string ⟨#[]⟩, Value.string ⟨#[]⟩, Value.string ⟨#[]⟩, Value.string ⟨#[]⟩, Value.string ⟨#[]⟩] : Array Value) = emptyC.toArray from rfl]
  generalize (w.alloc (.cells (evC noEv (.slice none 0 0)) 36 (0, 0))).alloc (.cells emptyC.toArray 84 (0, 0)) = W1 at *
  refine wp_region_held_drew (S := fun w' => Below w.heap.size w w') (by kernel_rfl) (drawS B1.out) (fun hHeld => ?_)
  have HD := Lib.hid (show W1.drew.heap[w.heap.size + 1]? = some (.cells emptyC.toArray 84 (0, 0)) from H1.out)
  have ED := Lib.hid (show EvAt W1.drew w.heap.size 36 noEv (.slice none 0 0) from E1.out)
  clear H1 E1 B1
  generalize W1.drew = wd at *
  refine take_at (i := 0) 12 rfl rfl (by kernel_rfl) (by kernel_rfl) (by kernel_rfl) (fun _ _ _ h => h) (sure_yes (by rfl) (fun w => by go_simp; try with_reducible rfl)) hHeld ?_
  simp only [List.setIfInBounds_toArray, List.set_cons_zero, List.set_cons_succ]
  refine take_at (i := 1) 13 rfl rfl (by kernel_rfl) (by kernel_rfl) (by kernel_rfl) (fun _ _ _ h => h) (sure_yes (by rfl) (fun w => by go_simp; try with_reducible rfl)) hHeld ?_
  simp only [List.setIfInBounds_toArray, List.set_cons_zero, List.set_cons_succ]
  refine wpAnyH_ready (rs := [2]) (by kernel_rfl) (by simp) ?_
  refine AllReadyH.cons rfl (fun CONT hCONT => ?_) AllReadyH.nil
  go_simp
  go_at_call 67
  refine (SP.out _).mono ?_
  rintro e w6 ⟨rfl, rfl⟩
  dsimp only
  have CS := Lib.hid (fun j v h => spl_cells s wd 9 j v h)
  have G6 := Lib.hid (row_kept HD.out ((Below.refl wd.heap.size wd).alloc (Nat.le_refl _) (.cells (splC s) 9 (0, 0))))
  have E6 := Lib.hid (evAt_kept ED.out ((Below.refl wd.heap.size wd).alloc (Nat.le_refl _) (.cells (splC s) 9 (0, 0))))
  have L6 := Lib.hid (show wd.heap.size < (wd.alloc (.cells (splC s) 9 (0, 0))).heap.size by simp)
  refine hCONT.out _ _ (hHeld.alloc hHeld.size _) (fun hHeld2 => ?_)
  clear hCONT CONT
  generalize wd.alloc (.cells (splC s) 9 (0, 0)) = w6 at *
  refine wpAnyH_ready (rs := [3]) (by kernel_rfl) (by simp) ?_
  refine AllReadyH.cons rfl (fun CONT hCONT => ?_) AllReadyH.nil
  refine copy_at 15 rfl (by rfl) (.tmp 12) (.tmp 14) 54 54 rfl 9 Tryd.underlying54 strSize12 (w.heap.size + 1) 0 6 6 _ _ _ rfl rfl emptyC 84 G6.out _ (by rw [List.length_map]; exact (Nat.min_eq_left (by have := spl6_len s; omega)).symm) CS.out (by rw [List.length_map]; have := spl6_len s; exact (by simp [emptyC]; omega)) (spl_one s) (fun w7 hg7 hs7 => ?_)
  rw [six_splice] at hg7
  have G7 := Lib.hid hg7
  have B7 := Lib.hid (solo_below hHeld2 hs7 (by omega))
  have E7 := Lib.hid (show EvAt w7 w.heap.size 36 noEv (.slice none 0 0) from (hs7.block _ (by omega)).trans E6.out)
  refine hCONT.out _ _ B7.out (fun hHeld => ?_)
  clear hCONT CONT hg7 hs7
  refine wpAnyH_done (by kernel_rfl) ?_ _
  simp only [List.setIfInBounds_toArray, List.set_cons_zero, List.set_cons_succ]
  go_upto_region 4 with (first
    | (refine load_str_on (by rfl) 9 (.tmp 17) rfl ⟨w.heap.size + 1, 1, none⟩ rfl _ Tryd.underlying9 (six_at G7.out 1 (by decide)) ?_)
    | (go_at_call 68; refine (PD.out _).mono ?_; rintro x w8 ⟨rfl, hb⟩; have G8 := Lib.hid (row_kept G7.out hb); have E8 := Lib.hid (evAt_kept E7.out hb); have B8 := Lib.hid (below_next B7.out hb); clear hb))
  have D9 := Lib.hid (heap_last w8 (.cells #[.int .i64 (parR (sd s 1)), .int .i64 (parQ (sd s 1))] 32 (0, 0)))
  have N9 := Lib.hid ((Below.refl w8.heap.size w8).alloc (Nat.le_refl _) (.cells #[.int .i64 (parR (sd s 1)), .int .i64 (parQ (sd s 1))] 32 (0, 0)))
  have G9 := Lib.hid (row_kept G8.out N9.out)
  have E9 := Lib.hid (evAt_kept E8.out N9.out)
  have B9 := Lib.hid (below_next B8.out N9.out)
  generalize w8.alloc (.cells #[.int .i64 (parR (sd s 1)), .int .i64 (parQ (sd s 1))] 32 (0, 0)) = W9 at *
  go_upto_region 5 with (first
    | (refine load_str_on (by rfl) 9 (.tmp 23) rfl ⟨w.heap.size + 1, 2, none⟩ rfl _ Tryd.underlying9 (six_at G9.out 2 (by decide)) ?_)
    | (go_at_call 69; refine (PV.out _).mono ?_; rintro x w10 ⟨v, rfl, hv, hb⟩; have G10 := Lib.hid (row_kept G9.out hb); have D10 := Lib.hid (row_kept D9.out hb); have E10 := Lib.hid (evAt_kept E9.out hb); have B10 := Lib.hid (below_next B9.out hb); have V10 := Lib.hid hv; obtain ⟨ao, cap, rfl⟩ := dots_shape hv.1 _ rfl; clear hb hv))
  go_upto_region 6 with (first
    | (refine load_str_on (by rfl) 9 (.tmp 29) rfl ⟨w.heap.size + 1, 4, none⟩ rfl _ Tryd.underlying9 (six_at G10.out 4 (by decide)) ?_)
    | (go_at_call 70; refine (PH.out _).mono ?_; rintro x w11 ⟨rfl, hb⟩; rw [show rowV .u8 32 (parsed (sd s 4)) = .agg (row .u8 32 (parsed (sd s 4))) from rfl]; have G11 := Lib.hid (row_kept G10.out hb); have D11 := Lib.hid (row_kept D10.out hb); have E11 := Lib.hid (evAt_kept E10.out hb); have V11 := Lib.hid (typ_below V10.out hb); have B11 := Lib.hid (below_next B10.out hb); clear hb)
    | (refine store_new rfl 34 (.tmp 8) (.tmp 32) rfl rfl w11 _ (row .u8 32 (parsed (sd s 4))) 34 rfl rfl rfl (by rw [sumSize, row_size]) (by rw [row_size]; rfl) (row_one _ _ _) ?_; rintro W12 hg hb hlt; have S12 := Lib.hid hg; have G12 := Lib.hid (row_kept G11.out hb); have D12 := Lib.hid (row_kept D11.out hb); have E12 := Lib.hid (evAt_kept E11.out hb); have V12 := Lib.hid (typ_below V11.out hb); have B12 := Lib.hid (below_next B11.out hb); clear hb hg hlt))
  go_upto_region 7 with (first
    | (refine load_str_on (by rfl) 9 (.tmp 35) rfl ⟨w.heap.size + 1, 5, none⟩ rfl _ Tryd.underlying9 (six_at G12.out 5 (by decide)) ?_)
    | (go_at_call 71; refine (RD.out _).mono ?_; rintro x w13 ⟨rfl, hb⟩; have S13 := Lib.hid (row_kept S12.out hb); have G13 := Lib.hid (row_kept G12.out hb); have D13 := Lib.hid (row_kept D12.out hb); have E13 := Lib.hid (evAt_kept E12.out hb); have V13 := Lib.hid (typ_below V12.out hb); have B13 := Lib.hid (below_next B12.out hb); clear hb))
  have LT := Lib.hid (show w.heap.size < w8.heap.size ∧ w.heap.size < w11.heap.size from ⟨Nat.lt_of_lt_of_le (Nat.lt_of_lt_of_le (Nat.lt_succ_self _) (by have := (Array.getElem?_eq_some_iff.1 G8.out).1; omega)) (Nat.le_refl _), by have := (Array.getElem?_eq_some_iff.1 G11.out).1; omega⟩)
  refine wp_region_held_drew (S := fun w' => Below w.heap.size w w' ∧ w'.heap[w.heap.size + 1]? = some (.cells (sixC s).toArray 84 (0, 0)) ∧ w'.heap[w8.heap.size]? = some (.cells #[.int .i64 (parR (sd s 1)), .int .i64 (parQ (sd s 1))] 32 (0, 0)) ∧ w'.heap[w11.heap.size]? = some (.cells (row .u8 32 (parsed (sd s 4))) 34 (0, 0)) ∧ ∃ e v, EvAt w' w.heap.size 36 e v) (by kernel_rfl) ⟨drawS B13.out, G13.out, D13.out, S13.out, _, _, E13.out⟩ (fun hHeld => ?_)
  obtain ⟨EV, hEV⟩ : ∃ EV, EV = meantE s := ⟨_, rfl⟩
  have HE := Lib.hid (hEV.trans MT.out)
  have HE2 := Lib.hid hEV
  clear hEV
  have VD := Lib.hid (show TypDots w13.drew _ _ from typ_below V13.out (drawS (Below.refl _ _)))
  have ED := Lib.hid (show EvAt w13.drew w.heap.size 36 noEv (.slice none 0 0) from E13.out)
  generalize w13.drew = wd at *
  refine take_at (i := 1) 41 rfl rfl (by kernel_rfl) (by kernel_rfl) (by kernel_rfl) (fun _ _ _ h => h) (sure_yes (by rfl) (fun w => by go_simp; try with_reducible rfl)) hHeld ?_
  simp only [List.setIfInBounds_toArray, List.set_cons_zero, List.set_cons_succ]
  refine take_at (i := 2) 42 rfl rfl (by kernel_rfl) (by kernel_rfl) (by kernel_rfl) (fun _ _ _ h => h) (sure_yes (by rfl) (fun w => by go_simp; try with_reducible rfl)) hHeld ?_
  simp only [List.setIfInBounds_toArray, List.set_cons_zero, List.set_cons_succ]
  refine take_at (i := 5) 45 rfl rfl (by kernel_rfl) (by kernel_rfl) (by kernel_rfl) (fun _ _ _ h => h) (sure_yes (by rfl) (fun w => by go_simp; try with_reducible rfl)) hHeld ?_
  simp only [List.setIfInBounds_toArray, List.set_cons_zero, List.set_cons_succ]
  refine take_at (i := 8) 48 rfl rfl (by kernel_rfl) (by kernel_rfl) (by kernel_rfl) (fun _ _ _ h => h) (sure_yes (by rfl) (fun w => by go_simp; try with_reducible rfl)) hHeld ?_
  simp only [List.setIfInBounds_toArray, List.set_cons_zero, List.set_cons_succ]
  refine take_at (i := 0) 40 rfl rfl (by kernel_rfl) (by kernel_rfl) (by kernel_rfl) (fun _ _ _ h => h) (row_yields (by rfl) 32 (.tmp 4) rfl w8.heap.size rfl 32 _ (0, 0) _ Tryd.underlying32 rfl (by kernel_rfl) (fun _ h => h.2.2.1)) hHeld ?_
  simp only [List.setIfInBounds_toArray, List.set_cons_zero, List.set_cons_succ]
  refine take_at (i := 3) 43 rfl rfl (by kernel_rfl) (by kernel_rfl) (by kernel_rfl) (fun _ _ _ h => h) (str_yields12 (by rfl) 9 (.tmp 42) rfl ⟨w.heap.size + 1, 0, none⟩ rfl _ Tryd.underlying9 (fun _ h => six_at h.2.1 0 (by decide))) hHeld ?_
  simp only [List.setIfInBounds_toArray, List.set_cons_zero, List.set_cons_succ]
  refine take_at (i := 6) 46 rfl rfl (by kernel_rfl) (by kernel_rfl) (by kernel_rfl) (fun _ _ _ h => h) (str_yields12 (by rfl) 9 (.tmp 45) rfl ⟨w.heap.size + 1, 3, none⟩ rfl _ Tryd.underlying9 (fun _ h => six_at h.2.1 3 (by decide))) hHeld ?_
  simp only [List.setIfInBounds_toArray, List.set_cons_zero, List.set_cons_succ]
  refine take_at (i := 7) 47 rfl rfl (by kernel_rfl) (by kernel_rfl) (by kernel_rfl) (fun _ _ _ h => h) (row_yields (by rfl) 34 (.tmp 8) rfl w11.heap.size rfl 34 _ (0, 0) _ Tryd.underlying34 rfl (by rw [sumSize, row_size]) (fun _ h => h.2.2.2.1)) hHeld ?_
  simp only [List.setIfInBounds_toArray, List.set_cons_zero, List.set_cons_succ]
  refine wpAnyH_ready (rs := [4]) (by kernel_rfl) (by simp) ?_
  refine AllReadyH.cons rfl (fun CONT hCONT => ?_) AllReadyH.nil
  go_simp
  go_at_call 72
  refine (KD.out _).mono ?_
  rintro e w14 ⟨rfl, rfl⟩
  dsimp only
  refine hCONT.out _ _ hHeld (fun hHeld => ?_)
  clear hCONT CONT
  refine take_at (i := 9) 49 rfl rfl (by kernel_rfl) (by kernel_rfl) (by kernel_rfl) (fun _ _ _ h => h) (build_yields (by rfl) 36 #[(0, .tmp 40), (1, .tmp 41), (2, .tmp 44), (3, .tmp 46), (4, .tmp 47), (5, .tmp 48)] rfl _ _ (ev_built EV ao (parV (sd s 2)).length cap) (by rw [HE.out]; simp [Act.eval])) hHeld ?_
  simp only [List.setIfInBounds_toArray, List.set_cons_zero, List.set_cons_succ]
  refine ready_store_ev 10 (by kernel_rfl) rfl rfl (by rfl) 36 (.tmp 2) (.tmp 49) rfl w.heap.size EV noEv (.slice ao (parV (sd s 2)).length cap) (.slice none 0 0) rfl rfl 36 ED.out evSize rfl (fun w15 hg hs => ?_)
  have LL := LT.out
  refine ⟨⟨solo_below hHeld.1 hs (Nat.le_refl _), (hs.block _ (by omega)).trans hHeld.2.1, (hs.block _ (by omega)).trans hHeld.2.2.1, (hs.block _ (by omega)).trans hHeld.2.2.2.1, _, _, hg⟩, ?_⟩
  have E15 := Lib.hid hg
  have S15 := Lib.hid hs
  refine wpAnyH_done (by kernel_rfl) ?_ _
  have T15 := Lib.hid (typ_solo VD.out S15.out ED.out (by decide))
  have B15 := Lib.hid (solo_below hHeld.1 S15.out (Nat.le_refl _))
  go_wp2
  exact bodyPost_ret (results_cell_row Tryd.results43 _ _ w.heap.size 36 _ (0, 0) _ rfl E15.out Tryd.underlying36 rfl (by rw [evSize, evC_size])) rfl ⟨_, by rw [← HE2.out], by rw [MT.out]; exact T15.out, B15.out⟩
end Go.Proofs.YthkojphgjlojgaaDoor
namespace Go.Proofs.YthkojphgjlojgaaDoor
open Go.RowKit
theorem join_cells (c : UInt8) (ls : List (List UInt8)) (w : World) (g : Nat) (T : TypeId) (hg : w.heap[g]? = some (.cells (textsL ls).toArray T (0, 0))) (hn : ls.length ≤ 1000) (hl : (joinB c ls).length ≤ 140737488355328) :
    Calls Tryd.prog 76 #[.slice (some ⟨g, 0, none⟩) ls.length ls.length, .string ⟨#[c]⟩] w fun e w' => e = .returned (.string (str (joinB c ls))) ∧ Below w.heap.size w w' := by
  have hcells : ∀ (j : Nat) x, (ls.map str)[j]? = some x → w.cell? ⟨g, 0 + j, none⟩ = some (.string x) := fun j x hx => by
    rw [Nat.zero_add]
    simp only [World.cell?, hg]
    show (textsL ls).toArray[j]? = _
    rw [List.getElem?_toArray, textsL, List.getElem?_map]
    rw [List.getElem?_map] at hx
    cases hj : ls[j]? with
    | none => rw [hj] at hx; cases hx
    | some y => rw [hj] at hx; exact congrArg some (congrArg Value.string (Option.some.inj hx))
  have hm : (ls.map str).map (·.data.toList) = ls := by
    rw [List.map_map]
    conv => rhs; rw [← List.map_id ls]
    exact List.map_congr_left fun p _ => by simp [str]
  have hj := Tryd.strings_Join g 0 ls.length (ls.map str) ⟨#[c]⟩ w hcells (Array.getElem?_eq_some_iff.1 hg).1 (by rw [List.length_map]; omega) (by rw [List.length_map]; exact Nat.le_refl _) (by rw [hm]; show (Lib.join ls [c]).length ≤ _; rw [lib_joinB]; exact hl)
  rw [hm, List.length_map] at hj
  refine hj.mono fun e w' => ?_
  rintro ⟨rfl, hb⟩
  exact ⟨by show Ending.returned (Value.string ⟨(Lib.join ls [c]).toArray⟩) = _; rw [lib_joinB]; rfl, hb⟩
set_option maxRecDepth 100000 in
set_option maxHeartbeats 4000000 in
theorem joined_any (ls : List (List UInt8)) (n : Nat) (hN : ls.length = n) (w : World) (g : Nat) (T : TypeId) (hg : w.heap[g]? = some (.cells (textsL ls).toArray T (0, 0))) (hn : ls.length ≤ 1000) (hl : (joinB 32 ls).length ≤ 140737488355328) :
    Calls Tryd.prog 46 #[.slice (some ⟨g, 0, none⟩) n n] w fun e w' => e = .returned (.string (str (joinB 32 ls))) ∧ Below w.heap.size w w' := by
  have JC := Lib.hid (join_cells 32 ls w g T hg hn hl)
  rw [hN] at JC
  clear hg hn hl hN
  generalize joinB 32 ls = S at *
  go_enter Tryd.func46, Tryd.ntmps46
  go_wp2_with (first | (go_at_call 76; refine JC.out.mono ?_; rintro e w1 ⟨rfl, hb⟩; have B1 := Lib.hid hb; clear hb))
  go_ret
  exact ⟨rfl, B1.out⟩
theorem may_bounds {e : Ev} (h : mayE e = true) : I64 e.r ∧ I64 e.q ∧ ownP e.path = true ∧ -9223372036854775808 ≤ e.size ∧ e.size < 9223372036854775808 := by
  have hk := may_kind h
  simp only [mayE, Bool.and_eq_true] at h
  have hb := mayT_bd (d := (e.r, e.q)) h.1
  dsimp only at hb
  exact ⟨by unfold I64; omega, by unfold I64; omega, h.2.2.1, by omega, by omega⟩
theorem line_small {e : Ev} (h : mayE e = true) : (lineE e).length ≤ 600006 := by
  have hm := h
  simp only [mayE, Bool.and_eq_true] at hm
  have h1 := dotT_length (d := (e.r, e.q)) hm.1
  rw [show dotT (e.r, e.q) = textD e.r e.q from rfl] at h1
  have h2 := textV_length e.deps
  have h3 := ((own_iff e.path).1 hm.2.2.1).2.2.1
  have h4 := textF_length e.sum
  have h5 : (numL e.size).length ≤ 5 := by
    rcases may_kind h with ⟨-, k2, k3⟩ | ⟨-, k2, -⟩
    · exact numL_len e.size 5 k2 (by omega) (by omega)
    · exact numL_len e.size 5 (by omega) (by omega) (by omega)
  have g1 : putW.length ≤ 100000 := by rw [show putW.length = 3 from rfl]; omega
  have g2 : delW.length ≤ 100000 := by rw [show delW.length = 3 from rfl]; omega
  have hall : ∀ p ∈ wordsE e, p.length ≤ 100000 := by
    clear h hm
    rw [wordsE]
    split
    · simp only [List.mem_cons, List.not_mem_nil, or_false, forall_eq_or_imp, forall_eq]
      exact ⟨g2, by omega, by omega, by omega⟩
    · simp only [List.mem_cons, List.not_mem_nil, or_false, forall_eq_or_imp, forall_eq]
      exact ⟨g1, by omega, by omega, by omega, by omega, by omega⟩
  have h6 := joinB_length 32 (wordsE e) 100000 hall
  have h7 := words_six e
  unfold lineE
  have : (wordsE e).length * 100001 ≤ 6 * 100001 := Nat.mul_le_mul_right _ h7
  omega
theorem line_len {e : Ev} (h : mayE e = true) : (lineE e).length ≤ 140737488355328 := Nat.le_trans (line_small h) (by omega)
theorem slice_yields12 {P : Program} {ops : Array Oper} {S : World → Prop} {o : Oper} {a : Act} (hw : Region.wanted o (yielded ops a.tmps) = true) (ty : TypeId) (x : Operand) (ho : o.op = .load ty x)
    (A : Addr) (hx : a.eval x = .pointer (some A)) (ao : Option Addr) (n c : Nat) {e : TypeId} (hu : P.underlying ty = some (.slice e)) (hS : ∀ w, S w → w.cell? A = some (.slice ao n c)) : YieldsIf P ops S o (.slice ao n c) a :=
  .inl ⟨hw, fun w h => by
    have hc := hS w h
    unfold execOp
    simp [ho, hx, Instr.loadAt, Instr.sureAddr, loadVar, isAgg, run_underlying hu, hc]⟩
theorem sum_yields12 {P : Program} {ops : Array Oper} {S : World → Prop} {o : Oper} {a : Act} (hw : Region.wanted o (yielded ops a.tmps) = true) (ty : TypeId) (x : Operand) (ho : o.op = .load ty x)
    (b : Nat) (hx : a.eval x = .pointer (some ⟨b, 5, none⟩)) {T : TypeId} {e : Ev} {v : Value} {n : Nat} {u : TypeId} (hu : P.underlying ty = some (.array n u)) (hi : (P.info? ty).map (·.size) = some 32) (hS : ∀ w, S w → EvAt w b T e v) : YieldsIf P ops S o (.agg (row .u8 32 e.sum)) a := by
  have h := yieldsIf_load_mid (ops := ops) (S := S) hw ty x ho b 5 hx (row .u8 32 e.sum).toList _ (fun w h => evAt_sum (hS w h)) hu rfl (by rw [hi]; simp [row_size])
  rwa [Array.toArray_toList] at h
set_option maxRecDepth 100000 in
set_option maxHeartbeats 16000000 in
theorem line_any12 (OWN : OwnSays) (e : Ev) (hl : e.deps.length < 2000000) (hp : e.path.length < 1152921504606846976) (hf : ∀ i, u32 (e.sum i) < 256) (v : Value) (w : World) (hv : HasDots w v e.deps) (hT : PowTab w) : Calls Tryd.prog 23 #[.agg (evC e v)] w fun x w' => x = .returned (.tuple #[.string (str (lineT e)), .int .i64 (lineErr e)]) ∧ Below w.heap.size w w' := by
  have HT := Lib.hid hT
  have HV := Lib.hid hv
  have E0 := Lib.hid (box_ev w 36 e v)
  have B0 := Lib.hid ((Below.refl w.heap.size w).alloc (Nat.le_refl _) (.cells (evC e v) 36 (0, 0)))
  have MY := Lib.hid (fun w hv hT => may_any12 OWN e hl hp v w hv hT)
  cases hm : mayE e with
  | false =>
    have HL := Lib.hid (show lineT e = [] ∧ lineErr e = 1 by simp [lineT, lineErr, hm])
    rw [hm] at MY
    clear hm hv hT hl hp hf
    go_enter Tryd.func23, Tryd.ntmps23
    go_wp2_with (first
      | (refine load_ev_on (by rfl) 36 (.tmp 1) rfl w.heap.size rfl E0.out Tryd.underlying36 evSize ?_)
      | (go_at_call 8; refine (MY.out _ (dots_below HV.out B0.out) (powTab_below HT.out B0.out)).mono ?_; rintro x w1 ⟨rfl, hb⟩; have B1 := Lib.hid (below_next B0.out hb); clear hb))
    go_ret2
    exact ⟨by rw [HL.out.1, HL.out.2]; rfl, B1.out⟩
  | true =>
    have HL := Lib.hid (show lineT e = lineE e ∧ lineErr e = 0 by simp [lineT, lineErr, hm])
    have LN := Lib.hid (line_len hm)
    obtain ⟨b1, b2, -, b3, b4⟩ := may_bounds hm
    have TD := Lib.hid (fun w hT => text_any9 e.r e.q b1 b2 w hT)
    have TV := Lib.hid (fun w hv hT => vecText_any e.deps hl v w hv hT)
    have TF := Lib.hid (fun w => text_any w e.sum hf)
    have TN := Lib.hid (fun w hT => number_any w e.size b3 b4 hT)
    have HK := Lib.hid (may_kind hm)
    rw [hm] at MY
    obtain ⟨n, hn⟩ : ∃ n, n = e.deps.length := ⟨_, rfl⟩
    obtain ⟨ao, cap, rfl⟩ := dots_shape hv n hn
    clear hm hv hT hl hp hf b1 b2 b3 b4 hn
    go_enter Tryd.func23, Tryd.ntmps23
    go_upto_region 3 with (first
      | (refine load_ev_on (by rfl) 36 (.tmp 1) rfl w.heap.size rfl E0.out Tryd.underlying36 evSize ?_)
      | (go_at_call 8; refine (MY.out _ (dots_below HV.out B0.out) (powTab_below HT.out B0.out)).mono ?_; rintro x w1 ⟨rfl, hb⟩; have B1 := Lib.hid (below_next B0.out hb); have E1 := Lib.hid (evAt_kept E0.out hb); clear hb))
    refine wp_region_held_drew (S := fun w' => Below w.heap.size w w' ∧ EvAt w' w.heap.size 36 e (.slice ao n cap)) (by kernel_rfl) ⟨drawS B1.out, E1.out⟩ (fun hHeld => ?_)
    generalize w1.drew = wd at hHeld ⊢
    refine take_at (i := 0) 9 rfl rfl (by kernel_rfl) (by kernel_rfl) (by kernel_rfl) (fun _ _ _ h => h) (sure_yes (by rfl) (fun w => by go_simp; try with_reducible rfl)) hHeld ?_
    simp only [List.setIfInBounds_toArray, List.set_cons_zero, List.set_cons_succ]
    refine take_at (i := 3) 12 rfl rfl (by kernel_rfl) (by kernel_rfl) (by kernel_rfl) (fun _ _ _ h => h) (sure_yes (by rfl) (fun w => by go_simp; try with_reducible rfl)) hHeld ?_
    simp only [List.setIfInBounds_toArray, List.set_cons_zero, List.set_cons_succ]
    refine take_at (i := 1) 10 rfl rfl (by kernel_rfl) (by kernel_rfl) (by kernel_rfl) (fun _ _ _ h => h) (dot_yields (by rfl) 32 (.tmp 9) rfl ⟨w.heap.size, 0, none⟩ rfl e.r e.q Tryd.underlying32 (by kernel_rfl) (fun _ h => evAt_dot h.2)) hHeld ?_
    simp only [List.setIfInBounds_toArray, List.set_cons_zero, List.set_cons_succ]
    refine take_at (i := 4) 13 rfl rfl (by kernel_rfl) (by kernel_rfl) (by kernel_rfl) (fun _ _ _ h => h) (slice_yields12 (by rfl) 26 (.tmp 12) rfl ⟨w.heap.size, 2, none⟩ rfl ao n cap Tryd.underlying26 (fun _ h => (evAt_cells h.2).2.2.1)) hHeld ?_
    simp only [List.setIfInBounds_toArray, List.set_cons_zero, List.set_cons_succ]
    refine wpAnyH_ready (rs := [2]) (by kernel_rfl) (by simp) ?_
    refine AllReadyH.cons rfl (fun CONT hCONT => ?_) AllReadyH.nil
    go_simp
    go_at_call 44
    refine (TD.out _ (powTab_below HT.out hHeld.1)).mono ?_
    rintro x wz ⟨rfl, hb⟩
    dsimp only
    refine hCONT.out _ _ ⟨below_next hHeld.1 hb, evAt_kept hHeld.2 hb⟩ (fun hHeld => ?_)
    clear hCONT CONT hb
    refine wpAnyH_ready (rs := [5]) (by kernel_rfl) (by simp) ?_
    refine AllReadyH.cons rfl (fun CONT hCONT => ?_) AllReadyH.nil
    go_simp
    go_at_call 45
    refine (TV.out _ (dots_below HV.out hHeld.1) (powTab_below HT.out hHeld.1)).mono ?_
    rintro x wz ⟨rfl, hb⟩
    dsimp only
    refine hCONT.out _ _ ⟨below_next hHeld.1 hb, evAt_kept hHeld.2 hb⟩ (fun hHeld => ?_)
    clear hCONT CONT hb
    refine take_at (i := 6) 4 rfl rfl (by kernel_rfl) (by kernel_rfl) (by kernel_rfl) (fun _ _ _ h => h) (sure_yes (by rfl) (fun w => by go_simp; try with_reducible rfl)) hHeld ?_
    simp only [List.setIfInBounds_toArray, List.set_cons_zero, List.set_cons_succ]
    refine take_at (i := 7) 5 rfl rfl (by kernel_rfl) (by kernel_rfl) (by kernel_rfl) (fun _ _ _ h => h) (sure_yes (by rfl) (fun w => by go_simp; try with_reducible rfl)) hHeld ?_
    simp only [List.setIfInBounds_toArray, List.set_cons_zero, List.set_cons_succ]
    refine wpAnyH_done (by kernel_rfl) ?_ _
    obtain ⟨-, -, -, c3, c4, c5⟩ := evAt_cells hHeld.2
    have BH := Lib.hid hHeld.1
    have EH := Lib.hid hHeld.2
    clear hHeld
    rcases HK.out with ⟨k1, -, -⟩ | ⟨k1, -, -⟩
    · have WE := Lib.hid (show wordsE e = [putW, textD e.r e.q, textV e.deps, e.path, textF e.sum, numL e.size] by rw [wordsE, if_neg (by omega)])
      have JN := Lib.hid (fun w => joined_any [putW, textD e.r e.q, textV e.deps, e.path, textF e.sum, numL e.size] 6 rfl (w.alloc (.cells #[.string ⟨#[112, 117, 116]⟩, .string (str (textD e.r e.q)), .string (str (textV e.deps)), .string (str e.path), .string (str (textF e.sum)), .string (str (numL e.size))] 9 (0, 0))) w.heap.size 9 (heap_last w _) (by simp) (by have h := LN.out; rwa [lineE, WE.out] at h))
      go_upto_region 6 with fail
      refine wp_region_held_drew (S := fun w' => Below w.heap.size w w' ∧ EvAt w' w.heap.size 36 e (.slice ao n cap)) (by kernel_rfl) ⟨drawS BH.out, EH.out⟩ (fun hHeld => ?_)
      generalize wz.drew = wd at hHeld ⊢
      refine take_at (i := 0) 24 rfl rfl (by kernel_rfl) (by kernel_rfl) (by kernel_rfl) (fun _ _ _ h => h) (sure_yes (by rfl) (fun w => by go_simp; try with_reducible rfl)) hHeld ?_
      simp only [List.setIfInBounds_toArray, List.set_cons_zero, List.set_cons_succ]
      refine take_at (i := 1) 25 rfl rfl (by kernel_rfl) (by kernel_rfl) (by kernel_rfl) (fun _ _ _ h => h) (sure_yes (by rfl) (fun w => by go_simp; try with_reducible rfl)) hHeld ?_
      simp only [List.setIfInBounds_toArray, List.set_cons_zero, List.set_cons_succ]
      refine take_at (i := 2) 26 rfl rfl (by kernel_rfl) (by kernel_rfl) (by kernel_rfl) (fun _ _ _ h => h) (sure_yes (by rfl) (fun w => by go_simp; try with_reducible rfl)) hHeld ?_
      simp only [List.setIfInBounds_toArray, List.set_cons_zero, List.set_cons_succ]
      refine take_at (i := 4) 28 rfl rfl (by kernel_rfl) (by kernel_rfl) (by kernel_rfl) (fun _ _ _ h => h) (sure_yes (by rfl) (fun w => by go_simp; try with_reducible rfl)) hHeld ?_
      simp only [List.setIfInBounds_toArray, List.set_cons_zero, List.set_cons_succ]
      refine take_at (i := 7) 31 rfl rfl (by kernel_rfl) (by kernel_rfl) (by kernel_rfl) (fun _ _ _ h => h) (sure_yes (by rfl) (fun w => by go_simp; try with_reducible rfl)) hHeld ?_
      simp only [List.setIfInBounds_toArray, List.set_cons_zero, List.set_cons_succ]
      refine take_at (i := 3) 27 rfl rfl (by kernel_rfl) (by kernel_rfl) (by kernel_rfl) (fun _ _ _ h => h) (str_yields12 (by rfl) 9 (.tmp 26) rfl ⟨w.heap.size, 4, none⟩ rfl _ Tryd.underlying9 (fun _ h => (evAt_cells h.2).2.2.2.2.1)) hHeld ?_
      simp only [List.setIfInBounds_toArray, List.set_cons_zero, List.set_cons_succ]
      refine take_at (i := 5) 29 rfl rfl (by kernel_rfl) (by kernel_rfl) (by kernel_rfl) (fun _ _ _ h => h) (sum_yields12 (by rfl) 34 (.tmp 28) rfl w.heap.size rfl Tryd.underlying34 sumSize (fun _ h => h.2)) hHeld ?_
      simp only [List.setIfInBounds_toArray, List.set_cons_zero, List.set_cons_succ]
      refine take_at (i := 8) 32 rfl rfl (by kernel_rfl) (by kernel_rfl) (by kernel_rfl) (fun _ _ _ h => h) (cell_yields (by rfl) 3 (.tmp 31) rfl w.heap.size 37 rfl .i64 _ Tryd.underlying3 (fun _ h => (evAt_cells h.2).2.2.2.2.2)) hHeld ?_
      simp only [List.setIfInBounds_toArray, List.set_cons_zero, List.set_cons_succ]
      refine wpAnyH_ready (rs := [6]) (by kernel_rfl) (by simp) ?_
      refine AllReadyH.cons rfl (fun CONT hCONT => ?_) AllReadyH.nil
      go_simp
      go_at_call 47
      refine (TF.out _).mono ?_
      rintro x wz ⟨rfl, hb⟩
      dsimp only
      refine hCONT.out _ _ ⟨below_next hHeld.1 hb, evAt_kept hHeld.2 hb⟩ (fun hHeld => ?_)
      clear hCONT CONT hb
      refine wpAnyH_ready (rs := [9]) (by kernel_rfl) (by simp) ?_
      refine AllReadyH.cons rfl (fun CONT hCONT => ?_) AllReadyH.nil
      go_simp
      go_at_call 48
      refine (TN.out _ (powTab_below HT.out hHeld.1)).mono ?_
      rintro x wz ⟨rfl, hb⟩
      dsimp only
      refine hCONT.out _ _ ⟨below_next hHeld.1 hb, evAt_kept hHeld.2 hb⟩ (fun hHeld => ?_)
      clear hCONT CONT hb
      refine wpAnyH_ready (rs := [10]) (by kernel_rfl) (by simp) ?_
      refine AllReadyH.cons rfl (fun CONT hCONT => ?_) AllReadyH.nil
      go_simp
      refine hCONT.out _ _ ⟨hHeld.1.alloc hHeld.1.size _, evAt_kept hHeld.2 ((Below.refl _ _).alloc (Nat.le_refl _) _)⟩ (fun hHeld => ?_)
      clear hCONT CONT
      refine wpAnyH_ready (rs := [11]) (by kernel_rfl) (by simp) ?_
      refine AllReadyH.cons rfl (fun CONT hCONT => ?_) AllReadyH.nil
      go_simp
      go_at_call 46
      refine (JN.out _).mono ?_
      rintro x wz ⟨rfl, hb⟩
      dsimp only
      refine hCONT.out _ _ ⟨below_next hHeld.1 hb, evAt_kept hHeld.2 hb⟩ (fun hHeld => ?_)
      clear hCONT CONT hb
      refine take_at (i := 12) 2 rfl rfl (by kernel_rfl) (by kernel_rfl) (by kernel_rfl) (fun _ _ _ h => h) (sure_yes (by rfl) (fun w => by go_simp; try with_reducible rfl)) hHeld ?_
      simp only [List.setIfInBounds_toArray, List.set_cons_zero, List.set_cons_succ]
      refine take_at (i := 13) 3 rfl rfl (by kernel_rfl) (by kernel_rfl) (by kernel_rfl) (fun _ _ _ h => h) (sure_yes (by rfl) (fun w => by go_simp; try with_reducible rfl)) hHeld ?_
      simp only [List.setIfInBounds_toArray, List.set_cons_zero, List.set_cons_succ]
      refine wpAnyH_done (by kernel_rfl) ?_ _
      go_wp2
      go_ret2
      exact ⟨by rw [HL.out.1, HL.out.2, lineE, WE.out]; rfl, hHeld.1⟩
    · have WE := Lib.hid (show wordsE e = [delW, textD e.r e.q, textV e.deps, e.path] by rw [wordsE, if_pos k1])
      have JN := Lib.hid (fun w => joined_any [delW, textD e.r e.q, textV e.deps, e.path] 4 rfl (w.alloc (.cells #[.string ⟨#[100, 101, 108]⟩, .string (str (textD e.r e.q)), .string (str (textV e.deps)), .string (str e.path)] 9 (0, 0))) w.heap.size 9 (heap_last w _) (by simp) (by have h := LN.out; rwa [lineE, WE.out] at h))
      go_wp2_with (first
        | (go_at_call 46; refine (JN.out _).mono ?_; rintro x w9 ⟨rfl, hb⟩; have B9 := Lib.hid (below_next (BH.out.alloc BH.out.size _) hb); clear hb))
      go_ret2
      exact ⟨by rw [HL.out.1, HL.out.2, lineE, WE.out]; rfl, B9.out⟩
theorem parV_len (s : List UInt8) : (parV s).length < 2000000 := by
  cases h : isVecT s with
  | true => have := rising_length (text_parseV h).1; omega
  | false => rw [parV, h]; simp
theorem store_ev {P : Program} {ops : Array Oper} {rest : List Oper} {o : Oper} {a : Act} {w : World} {Q : Exit → Act → World → Prop} (hgd : o.guard = none) (ty : TypeId) (x y : Operand) (ho : o.op = .store ty x y) (hd : o.dst = none)
    (g : Nat) (e e0 : Ev) (v v0 : Value) (hx : a.eval x = .pointer (some ⟨g, 0, none⟩)) (hy : a.eval y = .agg (evC e v)) (t : TypeId) (hg : EvAt w g t e0 v0) (hi : (P.info? ty).map (·.size) = some 38) (hv : v.oneCell' = true)
    (h : ∀ w', EvAt w' g t e v → Solo g w w' → wpList P ops Q rest a w') : wpList P ops Q (o :: rest) a w := by
  refine wpList_store_row hgd ty x y ho g (evC e v) hx hy t _ hg (by rw [hi, evC_size]) (by rw [evC_size, evC_size]) (evC_one e v hv) ?_
  rw [hd]
  exact h _ (setRow_heap _ _ _ _ _ _ hg) (solo_setRow w g _)
set_option maxRecDepth 100000 in
set_option maxHeartbeats 16000000 in
theorem parse_any12 (OWN : OwnSays) (s : List UInt8) (hs : s.length < 4294967281) (w : World) (hT : PowTab w) : Calls Tryd.prog 22 #[.string (str s)] w fun x w' => ∃ v, x = .returned (.tuple #[.agg (evC (parE s) v), .int .i64 (parEErr s)]) ∧ TypDots w' v (parE s).deps ∧ Below w.heap.size w w' := by
  have HT := Lib.hid hT
  have MN := Lib.hid (fun w => meant_any s hs w)
  have s2 : (str s).toList = s := str_toList s
  have IS := meant_is s
  clear hT
  cases hm : mayE (meantE s) with
  | false =>
    have HL := Lib.hid (show lineT (meantE s) = [] ∧ lineErr (meantE s) = 1 by simp [lineT, lineErr, hm])
    have HR := Lib.hid (show parE s = noEv ∧ parEErr s = 2 by rw [hm] at IS; have h : isE s = false := by rw [← IS]; rfl
                                                              simp [parE, parEErr, h])
    clear IS hm
    go_enter Tryd.func22, Tryd.ntmps22
    go_upto_region 1 with fail
    rw [← noEv_cells]
    have E0 := Lib.hid (box_ev w 36 noEv (.slice none 0 0))
    have B0 := Lib.hid ((Below.refl w.heap.size w).alloc (Nat.le_refl _) (.cells (evC noEv (.slice none 0 0)) 36 (0, 0)))
    generalize w.alloc (.cells (evC noEv (.slice none 0 0)) 36 (0, 0)) = W0 at *
    go_upto_region 2 with (first
      | (go_at_call 43; refine (MN.out _).mono ?_; rintro x w1 ⟨v, rfl, hv, hb⟩; have V1 := Lib.hid hv; have E1 := Lib.hid (evAt_kept E0.out hb); have B1 := Lib.hid (below_next B0.out hb); obtain ⟨ao, cap, rfl⟩ := dots_shape hv.1 _ rfl; clear hv hb)
      | (refine store_new rfl 36 (.tmp 4) (.tmp 8) rfl rfl w1 _ (evC (meantE s) (.slice ao (meantE s).deps.length cap)) 36 rfl rfl rfl (by rw [evSize, evC_size]) (by rw [evC_size]; rfl) (evC_one _ _ rfl) ?_; rintro W2 hg hb hlt; have M2 := Lib.hid (show EvAt W2 w1.heap.size 36 (meantE s) (.slice ao (meantE s).deps.length cap) from hg); have V2 := Lib.hid (typ_below V1.out hb); have E2 := Lib.hid (evAt_kept E1.out hb); have B2 := Lib.hid (below_next B1.out hb); clear hg hb hlt))
    have LN := Lib.hid (line_any12 OWN (meantE s) (parV_len _) (by have := sd_len s 3; show (sd s 3).length < _; omega) (meant_lt s) (.slice ao (meantE s).deps.length cap))
    have HW := Lib.hid (show w.heap.size < w1.heap.size from (Array.getElem?_eq_some_iff.1 E1.out).1)
    rw [HL.out.1, HL.out.2] at LN
    go_wp2_with (first
      | (refine load_ev_on (by rfl) 36 (.tmp 4) rfl w1.heap.size rfl M2.out Tryd.underlying36 evSize ?_)
      | (go_at_call 23; refine (LN.out _ V2.out.1 (powTab_below HT.out B2.out)).mono ?_; rintro x w3 ⟨rfl, hb⟩; have M3 := Lib.hid (evAt_kept M2.out hb); have V3 := Lib.hid (typ_below V2.out hb); have E3 := Lib.hid (evAt_kept E2.out hb); have B3 := Lib.hid (below_next B2.out hb); clear hb)
      | (refine store_ev rfl 36 (.tmp 2) (.tmp 21) rfl rfl w.heap.size noEv noEv (.slice none 0 0) (.slice none 0 0) rfl (by rw [noEv_cells]; rfl) 36 E3.out evSize rfl ?_; rintro W4 hg hs; have E4 := Lib.hid hg; have B4 := Lib.hid (solo_below B3.out hs (Nat.le_refl _)); clear hg hs))
    exact bodyPost_ret (results_cell2 Tryd.results22 _ _ w.heap.size 36 _ (0, 0) _ _ rfl rfl E4.out Tryd.underlying36 rfl (by rw [evSize, evC_size])) rfl ⟨_, by rw [HR.out.1, HR.out.2]; rfl, by rw [HR.out.1]; exact typ_nil _, B4.out⟩
  | true =>
    by_cases he : lineE (meantE s) = s
    · have HL := Lib.hid (show lineT (meantE s) = s ∧ lineErr (meantE s) = 0 by simp [lineT, lineErr, hm, he])
      have h : isE s = true := by rw [← IS, hm, he]; simp
      have HR := Lib.hid (show parE s = evOf s ∧ parEErr s = 0 by simp [parE, parEErr, h])
      have HS := Lib.hid (meant_same h)
      clear IS hm he h
      go_enter Tryd.func22, Tryd.ntmps22
      go_upto_region 1 with fail
      rw [← noEv_cells]
      have E0 := Lib.hid (box_ev w 36 noEv (.slice none 0 0))
      have B0 := Lib.hid ((Below.refl w.heap.size w).alloc (Nat.le_refl _) (.cells (evC noEv (.slice none 0 0)) 36 (0, 0)))
      generalize w.alloc (.cells (evC noEv (.slice none 0 0)) 36 (0, 0)) = W0 at *
      go_upto_region 2 with (first
        | (go_at_call 43; refine (MN.out _).mono ?_; rintro x w1 ⟨v, rfl, hv, hb⟩; have V1 := Lib.hid hv; have E1 := Lib.hid (evAt_kept E0.out hb); have B1 := Lib.hid (below_next B0.out hb); obtain ⟨ao, cap, rfl⟩ := dots_shape hv.1 _ rfl; clear hv hb)
        | (refine store_new rfl 36 (.tmp 4) (.tmp 8) rfl rfl w1 _ (evC (meantE s) (.slice ao (meantE s).deps.length cap)) 36 rfl rfl rfl (by rw [evSize, evC_size]) (by rw [evC_size]; rfl) (evC_one _ _ rfl) ?_; rintro W2 hg hb hlt; have M2 := Lib.hid (show EvAt W2 w1.heap.size 36 (meantE s) (.slice ao (meantE s).deps.length cap) from hg); have V2 := Lib.hid (typ_below V1.out hb); have E2 := Lib.hid (evAt_kept E1.out hb); have B2 := Lib.hid (below_next B1.out hb); clear hg hb hlt))
      have LN := Lib.hid (line_any12 OWN (meantE s) (parV_len _) (by have := sd_len s 3; show (sd s 3).length < _; omega) (meant_lt s) (.slice ao (meantE s).deps.length cap))
      have HW := Lib.hid (show w.heap.size < w1.heap.size from (Array.getElem?_eq_some_iff.1 E1.out).1)
      rw [HL.out.1, HL.out.2] at LN
      go_wp2_with (first
        | (refine load_ev_on (by rfl) 36 (.tmp 4) rfl w1.heap.size rfl M2.out Tryd.underlying36 evSize ?_)
        | (go_at_call 23; refine (LN.out _ V2.out.1 (powTab_below HT.out B2.out)).mono ?_; rintro x w3 ⟨rfl, hb⟩; have M3 := Lib.hid (evAt_kept M2.out hb); have V3 := Lib.hid (typ_below V2.out hb); have E3 := Lib.hid (evAt_kept E2.out hb); have B3 := Lib.hid (below_next B2.out hb); clear hb)
        | (refine load_ev_on (by rfl) 36 (.tmp 4) rfl w1.heap.size rfl M3.out Tryd.underlying36 evSize ?_)
        | (refine store_ev rfl 36 (.tmp 2) (.tmp 22) rfl rfl w.heap.size (meantE s) noEv (.slice ao (meantE s).deps.length cap) (.slice none 0 0) rfl rfl 36 E3.out evSize rfl ?_; rintro W4 hg hs; have E4 := Lib.hid hg; have V4 := Lib.hid (typ_solo V3.out hs E3.out (by decide)); have B4 := Lib.hid (solo_below B3.out hs (Nat.le_refl _)); clear hg hs))
      exact bodyPost_ret (results_cell2 Tryd.results22 _ _ w.heap.size 36 _ (0, 0) _ _ rfl rfl E4.out Tryd.underlying36 rfl (by rw [evSize, evC_size])) rfl ⟨_, by rw [HR.out.1, HR.out.2, ← evC_same HS.out]; rfl, by rw [HR.out.1, ← HS.out.2.2.1]; exact V4.out, B4.out⟩
    · have HL := Lib.hid (show lineT (meantE s) = lineE (meantE s) ∧ lineErr (meantE s) = 0 by simp [lineT, lineErr, hm])
      have h : isE s = false := by rw [← IS, hm]; simp [he]
      have HR := Lib.hid (show parE s = noEv ∧ parEErr s = 2 by simp [parE, parEErr, h])
      obtain ⟨l, hl⟩ : ∃ l, l = lineE (meantE s) := ⟨_, rfl⟩
      rw [← hl] at he HL
      have s3 : (str l).toList = l := str_toList l
      have q1 : (l == s) = false := beq_eq_false_iff_ne.2 he
      have q2 : (l != s) = true := bne_iff_ne.2 he
      clear IS hm h hl he
      go_enter Tryd.func22, Tryd.ntmps22
      go_upto_region 1 with fail
      rw [← noEv_cells]
      have E0 := Lib.hid (box_ev w 36 noEv (.slice none 0 0))
      have B0 := Lib.hid ((Below.refl w.heap.size w).alloc (Nat.le_refl _) (.cells (evC noEv (.slice none 0 0)) 36 (0, 0)))
      generalize w.alloc (.cells (evC noEv (.slice none 0 0)) 36 (0, 0)) = W0 at *
      go_upto_region 2 with (first
        | (go_at_call 43; refine (MN.out _).mono ?_; rintro x w1 ⟨v, rfl, hv, hb⟩; have V1 := Lib.hid hv; have E1 := Lib.hid (evAt_kept E0.out hb); have B1 := Lib.hid (below_next B0.out hb); obtain ⟨ao, cap, rfl⟩ := dots_shape hv.1 _ rfl; clear hv hb)
        | (refine store_new rfl 36 (.tmp 4) (.tmp 8) rfl rfl w1 _ (evC (meantE s) (.slice ao (meantE s).deps.length cap)) 36 rfl rfl rfl (by rw [evSize, evC_size]) (by rw [evC_size]; rfl) (evC_one _ _ rfl) ?_; rintro W2 hg hb hlt; have M2 := Lib.hid (show EvAt W2 w1.heap.size 36 (meantE s) (.slice ao (meantE s).deps.length cap) from hg); have V2 := Lib.hid (typ_below V1.out hb); have E2 := Lib.hid (evAt_kept E1.out hb); have B2 := Lib.hid (below_next B1.out hb); clear hg hb hlt))
      have LN := Lib.hid (line_any12 OWN (meantE s) (parV_len _) (by have := sd_len s 3; show (sd s 3).length < _; omega) (meant_lt s) (.slice ao (meantE s).deps.length cap))
      have HW := Lib.hid (show w.heap.size < w1.heap.size from (Array.getElem?_eq_some_iff.1 E1.out).1)
      rw [HL.out.1, HL.out.2] at LN
      go_wp2_with (first
        | (refine load_ev_on (by rfl) 36 (.tmp 4) rfl w1.heap.size rfl M2.out Tryd.underlying36 evSize ?_)
        | (go_at_call 23; refine (LN.out _ V2.out.1 (powTab_below HT.out B2.out)).mono ?_; rintro x w3 ⟨rfl, hb⟩; have M3 := Lib.hid (evAt_kept M2.out hb); have V3 := Lib.hid (typ_below V2.out hb); have E3 := Lib.hid (evAt_kept E2.out hb); have B3 := Lib.hid (below_next B2.out hb); clear hb)
        | (refine store_ev rfl 36 (.tmp 2) (.tmp 21) rfl rfl w.heap.size noEv noEv (.slice none 0 0) (.slice none 0 0) rfl (by rw [noEv_cells]; rfl) 36 E3.out evSize rfl ?_; rintro W4 hg hs; have E4 := Lib.hid hg; have B4 := Lib.hid (solo_below B3.out hs (Nat.le_refl _)); clear hg hs))
      exact bodyPost_ret (results_cell2 Tryd.results22 _ _ w.heap.size 36 _ (0, 0) _ _ rfl rfl E4.out Tryd.underlying36 rfl (by rw [evSize, evC_size])) rfl ⟨_, by rw [HR.out.1, HR.out.2]; rfl, by rw [HR.out.1]; exact typ_nil _, B4.out⟩
end Go.Proofs.YthkojphgjlojgaaDoor
namespace Go.Proofs.YthkojphgjlojgaaDoor
open Go.RowKit
/-- Pieces, each with the place where it begins. -/
def marksAt (f : Nat) : List (List UInt8) → List (Nat × List UInt8)
  | [] => []
  | p :: ps => (f, p) :: marksAt (f + p.length + 1) ps
def marks (s : List UInt8) : List (Nat × List UInt8) := marksAt 0 (pieces s)
theorem marksAt_snd (f : Nat) (ps : List (List UInt8)) : (marksAt f ps).map (·.2) = ps := by
  induction ps generalizing f with
  | nil => rfl
  | cons p ps ih => rw [marksAt, List.map_cons, ih]
theorem marks_snd (s : List UInt8) : (marks s).map (·.2) = pieces s := marksAt_snd 0 _
/-- The places of the bytes /. -/
def slashes (f : Nat) : List UInt8 → List Nat
  | [] => []
  | c :: t => if c = 47 then f :: slashes (f + 1) t else slashes (f + 1) t
theorem marksAt_fst (f : Nat) (s : List UInt8) : (marksAt f (pieces s)).map (·.1) = f :: (slashes f s).map (· + 1) := by
  induction s generalizing f with
  | nil => rfl
  | cons c t ih =>
    rw [pieces, slashes]
    by_cases h : c = 47
    · rw [if_pos h, if_pos h, marksAt, List.map_cons, List.length_nil, Nat.add_zero, ih (f + 1), List.map_cons]
    · rw [if_neg h, if_neg h]
      have ih := ih (f + 1)
      cases hp : pieces t with
      | nil => exact absurd hp (pieces_ne t)
      | cons p ps =>
        rw [hp, marksAt, List.map_cons, List.cons.injEq] at ih
        simp only [marksAt, List.map_cons, List.length_cons, List.cons.injEq, true_and]
        rw [show f + (p.length + 1) + 1 = f + 1 + p.length + 1 from by omega, ih.2]
theorem marks_fst (s : List UInt8) : (marks s).map (·.1) = 0 :: (slashes 0 s).map (· + 1) := marksAt_fst 0 s
theorem slashes_ge (s : List UInt8) : ∀ f, ∀ j ∈ slashes f s, f ≤ j := by
  induction s with
  | nil => intro f j hj; cases hj
  | cons c t ih =>
    intro f j hj
    rw [slashes] at hj
    by_cases h : c = 47
    · rw [if_pos h] at hj
      rcases List.mem_cons.1 hj with rfl | hj
      · exact Nat.le_refl _
      · have := ih _ _ hj; omega
    · rw [if_neg h] at hj; have := ih _ _ hj; omega
theorem slashes_sorted (s : List UInt8) : ∀ f, (slashes f s).Pairwise (· < ·) := by
  induction s with
  | nil => intro f; exact List.Pairwise.nil
  | cons c t ih =>
    intro f
    rw [slashes]
    by_cases h : c = 47
    · rw [if_pos h]; exact List.Pairwise.cons (fun j hj => by have := slashes_ge t _ _ hj; omega) (ih _)
    · rw [if_neg h]; exact ih _
theorem slashes_mem (s : List UInt8) : ∀ f j, j < s.length → s.getD j 0 = 47 → f + j ∈ slashes f s := by
  induction s with
  | nil => intro f j hj; simp at hj
  | cons c t ih =>
    intro f j hj hs
    rw [slashes]
    cases j with
    | zero => rw [if_pos (by simpa using hs)]; simp
    | succ j =>
      have := ih (f + 1) j (by simpa using hj) (by simpa using hs)
      rw [show f + 1 + j = f + (j + 1) from by omega] at this
      by_cases h : c = 47
      · rw [if_pos h]; exact List.mem_cons.2 (.inr this)
      · rw [if_neg h]; exact this
/-- A place ahead of which all are too far from the end: the first that isn't. -/
theorem cut_at {s : List UInt8} {pre rest : List Nat} {x : Nat} (h : (marks s).map (·.1) = pre ++ x :: rest) (hx : 0 < x) (hxs : x ≤ s.length) (hsl : s.getD (x - 1) 0 = 47) (hall : ∀ y ∈ pre, 100 < s.length - y) (hn : s.length - x ≤ 100) : cutI s = some (x - 1) := by
  refine cut_of (by omega) hsl (by omega) fun j hj h47 => ?_
  have hm : j + 1 ∈ pre ++ x :: rest := by
    rw [← h, marks_fst]
    exact List.mem_cons.2 (.inr (List.mem_map.2 ⟨j, by have := slashes_mem s 0 j (by omega) h47; rwa [Nat.zero_add] at this, rfl⟩))
  have hp : (pre ++ x :: rest).Pairwise (· < ·) := by
    rw [← h, marks_fst]
    refine List.Pairwise.cons (fun j hj => ?_) ?_
    · obtain ⟨i, _, rfl⟩ := List.mem_map.1 hj; omega
    · exact List.pairwise_map.2 ((slashes_sorted s 0).imp fun h => by omega)
  rcases List.mem_append.1 hm with h1 | h1
  · have := hall _ h1; omega
  · rcases List.mem_cons.1 h1 with h1 | h1
    · omega
    · have := (List.pairwise_cons.1 (List.pairwise_append.1 hp).2.1).1 _ h1
      omega
theorem cut_nowhere {s : List UInt8} (hall : ∀ y ∈ (marks s).map (·.1), 100 < s.length - y) : cutI s = none := cut_no fun j hj h47 => by
  have := hall (j + 1) (by
    rw [marks_fst]
    exact List.mem_cons.2 (.inr (List.mem_map.2 ⟨j, by have := slashes_mem s 0 j hj h47; rwa [Nat.zero_add] at this, rfl⟩)))
  omega
/-- A piece with its place, as a function that goes through them hands it on. -/
abbrev Pm (s : List UInt8) := { x : Nat × List UInt8 // x.1 ≤ s.length ∧ (0 < x.1 → s.getD (x.1 - 1) 0 = 47) ∧ x.2.length ≤ s.length }
/-- What a search for / in the rest of a text finds. -/
theorem index_cut (s : List UInt8) (f : Nat) (hf : f ≤ s.length) :
    (Lib.indexByte (str (s.drop f)).data.toList ((47 : Int).toNat.toUInt8) = -1 ∧ marksAt f (pieces (s.drop f)) = [(f, s.drop f)]) ∨
    ∃ o : Nat, Lib.indexByte (str (s.drop f)).data.toList ((47 : Int).toNat.toUInt8) = (o : Int) ∧ f + o < s.length ∧ s.getD (f + o) 0 = 47 ∧
      marksAt f (pieces (s.drop f)) = (f, (s.take (f + o)).drop f) :: marksAt (f + o + 1) (pieces (s.drop (f + o + 1))) := by
  rw [show (str (s.drop f)).data.toList = s.drop f from by simp [str], show (47 : Int).toNat.toUInt8 = 47 from rfl]
  have hge := Lib.indexByte_ge (s.drop f) 47
  by_cases h : Lib.indexByte (s.drop f) 47 = -1
  · refine .inl ⟨h, ?_⟩
    rw [pieces_end _ fun c hc e => ?_]
    · rfl
    · subst e
      obtain ⟨k, hk, e⟩ := List.mem_iff_getElem.1 hc
      exact absurd (by rw [List.getElem?_eq_getElem hk, e]) (Lib.indexByte_none h k)
  · obtain ⟨o, ho⟩ : ∃ o : Nat, Lib.indexByte (s.drop f) 47 = (o : Int) := ⟨(Lib.indexByte (s.drop f) 47).toNat, by omega⟩
    obtain ⟨h1, h2⟩ := Lib.indexByte_some ho
    have hol : o < (s.drop f).length := (List.getElem?_eq_some_iff.1 h1).1
    have hd : (s.drop f).getD o 0 = 47 := by rw [List.getD_eq_getElem?_getD, h1]; rfl
    refine .inr ⟨o, ho, by rw [List.length_drop] at hol; omega, ?_, ?_⟩
    · rw [List.getElem?_drop] at h1
      rw [List.getD_eq_getElem?_getD, h1]; rfl
    · have e : s.drop f = (s.drop f).take o ++ 47 :: (s.drop f).drop (o + 1) := take_slash hol hd
      have e2 : (s.drop f).take o = (s.take (f + o)).drop f := by rw [List.drop_take]; congr 1; omega
      have e3 : (s.drop f).drop (o + 1) = s.drop (f + o + 1) := by rw [List.drop_drop]; congr 1
      have hno : ∀ c ∈ (s.drop f).take o, c ≠ 47 := fun c hc e => by
        subst e
        obtain ⟨k, hk, e⟩ := List.mem_iff_getElem.1 hc
        have hko : k < o := by rw [List.length_take] at hk; omega
        refine h2 k hko ?_
        have := List.getElem?_eq_getElem hk
        rw [e, List.getElem?_take, if_pos hko] at this
        exact this
      have hlen : ((s.take (f + o)).drop f).length = o := by rw [← e2, List.length_take]; omega
      rw [e2] at hno
      conv => lhs; rw [e, e2, e3, pieces_slash _ _ hno, marksAt, hlen]
end Go.Proofs.YthkojphgjlojgaaDoor
namespace Go.Proofs.YthkojphgjlojgaaDoor
open Go.RowKit Go.Shelf
attribute [local go_sem] Oper.semAt_some
theorem seq_wraps (f o m K O G : Nat) (h : f + o < m) (hm : m < 4611686018427387904) (hK : K = f + o) (hO : O = o + 1) (hG : G = f + o + 1) : wrap64 ((f : Int) + (o : Int)) = (K : Int) ∧ wrap64 ((o : Int) + 1) = (O : Int) ∧ wrap64 ((f : Int) + (O : Int)) = (G : Int) ∧ decide ((o : Int) < 0) = false := by
  refine ⟨?_, ?_, ?_, decide_eq_false (by omega)⟩ <;> rw [wrap64] <;> omega
/-- The rest of a text from a place on. -/
theorem slice_from {P : Program} (w : World) (t : TypeId) (s : List UInt8) (f : Nat) (hf : f ≤ s.length) (ht : P.underlying t = some .string) :
    (Instr.slice t (.string (str s)) (some (.int .i64 (f : Int))) none none).run P w = .ok (.string (str (s.drop f))) w := by
  have h := run_slice_string_l w t (str s) ht .i64 f (by omega) (by rw [str_size]; omega)
  have e : (str s).extract (f : Int).toNat (str s).size = str (s.drop f) := by
    rw [str_size]; unfold str; rw [ByteArray.extract_mk, List.take_of_length_le (by simp)]; simp
  rw [e] at h; exact h
theorem mid_le (s : List UInt8) (a b : Nat) : ((s.take a).drop b).length ≤ s.length := by rw [List.length_drop, List.length_take]; omega
theorem slash_ahead {s : List UInt8} {x : Nat} (h : s.getD x 0 = 47) : 0 < x + 1 → s.getD (x + 1 - 1) 0 = 47 := fun _ => h
theorem measure_up7 (m f g : Nat) (h : f < g) (h' : g ≤ m) : m - (intOf (.int .i64 (g : Int))).toNat < m - (intOf (.int .i64 (f : Int))).toNat := by
  simp only [intOf, Int.toNat_natCast]; omega
/-- What a round must leave to the function that is ranged over: the cell of its text. -/
def KeepBox (B : Nat) (W W' : World) : Prop := W'.cell? ⟨B, 0, none⟩ = W.cell? ⟨B, 0, none⟩
theorem keepBox_t {B : Nat} {X Y Z : World} (h : KeepBox B X Y) (k : KeepBox B Y Z) : KeepBox B X Z := Eq.trans k h
theorem keepBox_b {B n : Nat} (hB : B < n) (W : World) (l : Nat) (o o' : Obj) (hl : n ≤ l) (h : W.heap[l]? = some o) (_ : o.isCells = false) (_ : o.isWalk = false) : KeepBox B W (W.putObj l o') :=
  ((Below.refl (B + 1) W).grown (grownBy_putObj' W l o') (by have := (Array.getElem?_eq_some_iff.1 h).1; omega) (fun k e => by cases e; omega)).cell (p := ⟨B, 0, none⟩) (by show B < B + 1; omega)
set_option maxRecDepth 100000 in
set_option maxHeartbeats 4000000 in
theorem seq_in (n : Nat) (hn : 1 ≤ n) (l Bn : Nat) (s : List UInt8) (hs : s.length < 4611686018427387904) (J Jx : List (Pm s) → World → Prop)
    (hY : ∀ pre x W, J pre W → pre.length < s.length + 1 → YieldAt Fence.wide (n - 1) Tryd.prog l #[.int .i64 (x.1.1 : Int), .string (str x.1.2)] W fun e W' =>
      (e = .returned (.bool true) ∧ J (pre ++ [x]) W' ∧ KeepBox Bn W W') ∨ (e = .returned (.bool false) ∧ Jx (pre ++ [x]) W'))
    (W : World) (hBn : W.cell? ⟨Bn, 0, none⟩ = some (.string (str s))) (h0 : J [] W) :
    CallsIn Fence.wide n Tryd.prog 116 #[.func (.yield l) #[] #[], .pointer (some ⟨Bn, 0, none⟩)] W fun e W' => (∃ v, e = .returned v) ∧
      ((∃ ys : List (Pm s), ys.map (·.1) = marks s ∧ J ys W') ∨ (∃ pre : List (Pm s), pre.map (·.1) <+: marks s ∧ Jx pre W')) := by
  obtain ⟨m, hm⟩ : ∃ m, m = s.length := ⟨_, rfl⟩
  have HM := Lib.hid hm
  rw [← hm] at hs
  have HMS := Lib.hid hs
  clear hm hs
  refine callsIn_of_wp Tryd.func116 rfl trivial ?_ rfl
  simp only [Tryd.ntmps116, List.size_toArray, List.length_cons, List.length_nil, Nat.reduceAdd, Nat.reduceSub, Array.replicate_succ, Array.replicate_zero, List.push_toArray, List.append_toArray, List.nil_append, List.cons_append]
  gi_wp2
  gi_loopw [3] (fun x wr => ∃ (f : Nat) (pre : List (Pm s)), f ≤ m ∧ x = .int .i64 f ∧ (0 < f → s.getD (f - 1) 0 = 47) ∧ pre.map (·.1) ++ marksAt f (pieces (s.drop f)) = marks s ∧ pre.length ≤ f ∧ J pre wr ∧ wr.cell? ⟨Bn, 0, none⟩ = some (.string (str s)))
    (fun x _ => m - (intOf x).toNat)
  case atStart => exact ⟨0, [], by omega, rfl, fun h => absurd h (by omega), rfl, Nat.le_refl _, h0, hBn⟩
  case round =>
    obtain ⟨f, pre, hfm, rfl, hsl, hpc, hpl, hJ, hc⟩ := hrel
    have HPC := Lib.hid (And.intro hpc (And.intro hpl hsl))
    clear hpc hsl
    have sl : ∀ w, (Instr.slice 9 (.string (str s)) (some (.int .i64 (f : Int))) none none).run Tryd.prog w = .ok (.string (str (s.drop f))) w := fun w => slice_from w 9 s f (by rw [← HM.out]; exact hfm) Tryd.underlying9
    rcases index_cut s f (by rw [← HM.out]; exact hfm) with ⟨hix, hmk⟩ | ⟨o, hix, hlt, h47, hmk⟩
    · have IX := Lib.hid (show ∀ w, Calls Tryd.prog 117 #[.string (str (s.drop f)), .int .u8 47] w fun e w' => e = .returned (.int .i64 (-1)) ∧ w = w' from fun w => by
        refine (Tryd.strings_IndexByte (str (s.drop f)) 47 w).mono fun e w' h => ?_
        rw [hix] at h; exact ⟨h.1, h.2.symm⟩)
      obtain ⟨p, hp⟩ : ∃ p : Pm s, p.1 = (f, s.drop f) := ⟨⟨(f, s.drop f), by rw [← HM.out]; exact hfm, HPC.out.2.2, by simp⟩, rfl⟩
      have HE := Lib.hid (show (pre ++ [p]).map (·.1) = marks s by
        rw [← HPC.out.1, List.map_append, List.map_cons, List.map_nil, hp, hmk])
      obtain ⟨fn, tmps, assign, body, hy, hR⟩ := hY pre p wr hJ (by have := HM.out; omega)
      rw [hp] at hy
      dsimp only at hy
      clear hp hpl hix hmk
      gi_wp2_with (refine ⟨trivial, ?_⟩; gi_at_call 117; refine (callsIn_wide.2 (IX.out _)).mono ?_; rintro e w' ⟨rfl, rfl⟩)
      refine hR.mono ?_
      rintro e W3 (⟨rfl, hJ3, hk3⟩ | ⟨rfl, hJx3⟩)
      · gi_wp2
        refine bodyPost_ret (results_none rfl _ _ _) rfl ?_
        exact ⟨⟨_, rfl⟩, .inl ⟨pre ++ [p], HE.out, hJ3⟩⟩
      · gi_wp2
        refine bodyPost_ret (results_none rfl _ _ _) rfl ?_
        exact ⟨⟨_, rfl⟩, .inr ⟨pre ++ [p], by rw [HE.out]; exact List.prefix_refl _, hJx3⟩⟩
    · have IX := Lib.hid (show ∀ w, Calls Tryd.prog 117 #[.string (str (s.drop f)), .int .u8 47] w fun e w' => e = .returned (.int .i64 (o : Int)) ∧ w = w' from fun w => by
        refine (Tryd.strings_IndexByte (str (s.drop f)) 47 w).mono fun e w' h => ?_
        rw [hix] at h; exact ⟨h.1, h.2.symm⟩)
      obtain ⟨p, hp⟩ : ∃ p : Pm s, p.1 = (f, (s.take (f + o)).drop f) := ⟨⟨(f, (s.take (f + o)).drop f), by rw [← HM.out]; exact hfm, HPC.out.2.2, mid_le s _ _⟩, rfl⟩
      rw [← HM.out] at hlt
      have sm : ∀ w, (Instr.slice 9 (.string (str s)) (some (.int .i64 (f : Int))) (some (.int .i64 ((f + o : Nat) : Int))) none).run Tryd.prog w = .ok (.string (str ((s.take (f + o)).drop f))) w := fun w => slice_mid w 9 s f (f + o) (Nat.le_add_right _ _) (by rw [← HM.out]; omega) Tryd.underlying9
      have HE := Lib.hid (show (pre ++ [p]).map (·.1) ++ marksAt (f + o + 1) (pieces (s.drop (f + o + 1))) = marks s by
        rw [← HPC.out.1, List.map_append, List.map_cons, List.map_nil, hp, hmk, List.append_assoc]; rfl)
      have H47 := Lib.hid (And.intro h47 hlt)
      obtain ⟨fn, tmps, assign, body, hy, hR⟩ := hY pre p wr hJ (by have := HM.out; omega)
      rw [hp] at hy
      dsimp only at hy
      obtain ⟨K, hK⟩ : ∃ K : Nat, K = f + o := ⟨_, rfl⟩
      obtain ⟨O, hO⟩ : ∃ O : Nat, O = o + 1 := ⟨_, rfl⟩
      obtain ⟨G, hG⟩ : ∃ G : Nat, G = f + o + 1 := ⟨_, rfl⟩
      rw [← hK] at sm hy
      rw [← hG] at HE
      obtain ⟨Q, hQ⟩ : ∃ Q, Q = (s.take K).drop f := ⟨_, rfl⟩
      rw [← hQ] at sm hy
      have HG := Lib.hid (And.intro hG hK)
      obtain ⟨w1, w2, w3, d0⟩ := seq_wraps f o m K O G hlt HMS.out hK hO hG
      clear hp hpl hix hmk hlt h47 hK hO hG hQ
      gi_wp2_with (refine ⟨trivial, ?_⟩; gi_at_call 117; refine (callsIn_wide.2 (IX.out _)).mono ?_; rintro e w' ⟨rfl, rfl⟩)
      refine hR.mono ?_
      rintro e W3 (⟨rfl, hJ3, hk3⟩ | ⟨rfl, hJx3⟩)
      · have hc3 : W3.cell? ⟨Bn, 0, none⟩ = some (.string (str s)) := hk3.trans hc
        gi_wp2
        go_roundw
        case rel => have HW := Lib.hid w3; clear w1 w2 w3; exact ⟨G, pre ++ [p], by have := HG.out; have := H47.out.2; omega, by rw [HW.out], by have := H47.out.1; rw [HG.out.1]; exact slash_ahead this, HE.out, by rw [List.length_append, List.length_singleton]; have := HPC.out.2.1; have := HG.out; omega, hJ3, hc3⟩
        case measure => rw [w3]; clear w1 w2 w3; exact measure_up7 m f G (by have := HG.out; omega) (by have := HG.out; have := H47.out.2; omega)
      · gi_wp2
        refine bodyPost_ret (results_none rfl _ _ _) rfl ?_
        exact ⟨⟨_, rfl⟩, .inr ⟨pre ++ [p], ⟨_, HE.out⟩, hJx3⟩⟩
theorem seq_stops (n : Nat) (hn : 1 ≤ n) (Bn : Nat) (s : List UInt8) (hs : s.length < 4611686018427387904) (w : World) (hw : Bn < w.heap.size) (hc : w.cell? ⟨Bn, 0, none⟩ = some (.string (str s))) :
    SeqStopsK Fence.wide n Tryd.prog 116 #[.pointer (some ⟨Bn, 0, none⟩)] (fun x : Pm s => #[.int .i64 (x.1.1 : Int), .string (str x.1.2)]) (KeepBox Bn) (fun xs => xs.map (·.1) = marks s) (fun pre => pre.map (·.1) <+: marks s) (s.length + 1) w := fun l J Jx W hW _ _ hY h0 =>
  seq_in n hn l Bn s hs J Jx hY W ((hW.cell (p := ⟨Bn, 0, none⟩) hw).trans hc) h0
/-- The function that goes through the parts: it has laid its text into a cell of its own. -/
theorem parts_any (s : List UInt8) (w : World) : Calls Tryd.prog 96 #[.string (str s)] w fun e w' => e = .returned (.func (.func 116) #[] #[.pointer (some ⟨w.heap.size, 0, none⟩)]) ∧ w' = w.alloc (.cells #[.string (str s)] 9) := by
  go_enter Tryd.func96, Tryd.ntmps96
  go_wp2
  go_ret
  exact ⟨rfl, rfl⟩
end Go.Proofs.YthkojphgjlojgaaDoor
namespace Go.Proofs.YthkojphgjlojgaaDoor
open Go.RowKit
theorem mark_at : ∀ x : Fin 256, decide (Lib.indexByte [45, 46, 95, 43, 126] (UInt8.ofNat x.1) ≥ 0) = (decide (x.1 = 45) || (decide (x.1 = 46) || (decide (x.1 = 95) || (decide (x.1 = 43) || decide (x.1 = 126))))) := by decide +kernel
theorem mark_ix (x : Nat) (hx : x < 256) : ∃ z, Lib.indexByte (ByteArray.mk #[45, 46, 95, 43, 126]).data.toList ((x : Int).toNat.toUInt8) = z ∧ decide (z ≥ 0) = (decide (x = 45) || (decide (x = 46) || (decide (x = 95) || (decide (x = 43) || decide (x = 126))))) := ⟨_, rfl, by
  have h := mark_at ⟨x, hx⟩
  rw [Int.toNat_natCast]; exact h⟩
set_option maxHeartbeats 4000000 in
theorem mayStand_any (c : UInt8) (w : World) : Calls Tryd.prog 133 #[.int .u8 (c.toNat : Int)] w fun e w' => e = .returned (.bool (isLet c)) ∧ w = w' := by
  obtain ⟨x, hx⟩ : ∃ x : Nat, x = c.toNat := ⟨_, rfl⟩
  have HX := Lib.hid (isLet_of c x hx)
  obtain ⟨z, hz, hzc⟩ := mark_ix x (by rw [hx]; exact UInt8.toNat_lt c)
  rw [← hx]
  have I1 := Lib.hid (show ∀ w, Calls Tryd.prog 117 #[.string ⟨#[45, 46, 95, 43, 126]⟩, .int .u8 (x : Int)] w fun e w' => e = .returned (.int .i64 z) ∧ w = w' from fun w => by
    refine (Tryd.strings_IndexByte ⟨#[45, 46, 95, 43, 126]⟩ (x : Int) w).mono fun e w' h => ?_
    rw [hz] at h; exact ⟨h.1, h.2.symm⟩)
  obtain ⟨q, hq⟩ : ∃ q, q = (decide (x = 45) || (decide (x = 46) || (decide (x = 95) || (decide (x = 43) || decide (x = 126))))) := ⟨_, rfl⟩
  rw [← hq] at hzc
  have HQ := Lib.hid hq
  clear hz hx hq
  go_enter Tryd.func133, Tryd.ntmps133
  go_wp2_with (first | (go_at_call 117; refine (I1.out _).mono ?_; rintro e w' ⟨rfl, rfl⟩))
  all_goals
    go_ret
    refine ⟨congrArg Ending.returned (show Value.bool _ = Value.bool _ from congrArg Value.bool ?_), rfl⟩
    rw [HX.out]
    try rw [HQ.out]
    rw [Bool.eq_iff_iff]
    simp
    try omega
set_option maxHeartbeats 4000000 in
theorem isPart_any (s : List UInt8) (hs : s.length < 4611686018427387904) (w : World) : Calls Tryd.prog 115 #[.string (str s)] w fun e w' => e = .returned (.bool (isPart s)) ∧ w = w' := by
  obtain ⟨n, hn⟩ : ∃ n, n = s.length := ⟨_, rfl⟩
  have HN := Lib.hid hn
  have hsz : (str s).size = n := by rw [str_size, hn]
  have hl : (str s).toList = s := str_toList s
  rw [← hn] at hs
  clear hn
  by_cases h0 : s = []
  · subst h0
    go_enter Tryd.func115, Tryd.ntmps115
    go_wp2
    go_ret
    exact ⟨rfl, rfl⟩
  by_cases h100 : 100 < n
  · have q0 : (n : Int) > 100 := by omega
    have HP := Lib.hid (show isPart s = false by
      cases h : isPart s with
      | false => rfl
      | true => have := isPart_len h; have := HN.out; omega)
    go_enter Tryd.func115, Tryd.ntmps115
    go_wp2
    go_ret
    exact ⟨by rw [HP.out]; rfl, rfl⟩
  by_cases h1 : s = [46]
  · subst h1
    obtain rfl : n = 1 := HN.out
    go_enter Tryd.func115, Tryd.ntmps115
    go_wp2
    go_ret
    exact ⟨rfl, rfl⟩
  by_cases h2 : s = [46, 46]
  · subst h2
    obtain rfl : n = 2 := HN.out
    go_enter Tryd.func115, Tryd.ntmps115
    go_wp2
    go_ret
    exact ⟨rfl, rfl⟩
  have q0 : ¬ (n : Int) > 100 := by omega
  have e0 : s.isEmpty = false := by cases s with | nil => exact absurd rfl h0 | cons c t => rfl
  have HH := Lib.hid (And.intro h0 (And.intro h100 (And.intro h1 h2)))
  have e1 : (s == [46]) = false := beq_eq_false_iff_ne.2 h1
  have e2 : (s == [46, 46]) = false := beq_eq_false_iff_ne.2 h2
  clear h100 h0 h1 h2
  go_enter Tryd.func115, Tryd.ntmps115
  go_wp2
  go_loopw [21] (fun i wr => wr = w ∧ ∃ k : Nat, k ≤ n ∧ i = .int .i64 k ∧ ∀ j, j < k → ∀ c, s[j]? = some c → isLet c = true) (fun i _ => n - (intOf i).toNat)
  case atStart => exact ⟨rfl, 0, by omega, rfl, fun j hj => by omega⟩
  case round =>
    obtain ⟨rfl, k, hk, rfl, hall⟩ := hrel
    have HA := Lib.hid hall
    clear hall
    by_cases hlt : k < n
    · obtain ⟨c, hc⟩ : ∃ c, s[k]? = some c := ⟨s[k]'(by have := HN.out; omega), List.getElem?_eq_getElem _⟩
      have i1 := fun w => index_str (P := Tryd.prog) w s .i64 k c hc Tryd.underlying9
      have HC := Lib.hid hc
      have q0 : (k : Int) < (n : Int) := by omega
      clear hc
      cases hlet : isLet c with
      | true =>
        have HL := Lib.hid hlet
        have HW := Lib.hid (show ∀ w, Calls Tryd.prog 133 #[.int .u8 (c.toNat : Int)] w fun e w' => e = .returned (.bool true) ∧ w = w' from fun w => by have := mayStand_any c w; rwa [hlet] at this)
        clear hlet
        go_wp2_with (first | (go_at_call 133; refine (HW.out _).mono ?_; rintro e w' ⟨rfl, rfl⟩))
        go_roundw
        case rel => exact ⟨trivial, k + 1, by omega, by go_num, fun j hj c' hc' => by
          rcases Nat.lt_or_ge j k with h | h
          · exact HA.out j h c' hc'
          · obtain rfl : j = k := by omega
            rw [HC.out] at hc'; cases hc'; exact HL.out⟩
        case measure => simp [intOf]; omega
      | false =>
        have HP := Lib.hid (show isPart s = false by
          rw [isPart, Bool.and_eq_false_iff]; left
          rw [Bool.eq_false_iff, ne_eq, List.all_eq_true]
          intro h; have := h c (List.mem_of_getElem? HC.out); rw [hlet] at this; cases this)
        have HW := Lib.hid (show ∀ w, Calls Tryd.prog 133 #[.int .u8 (c.toNat : Int)] w fun e w' => e = .returned (.bool false) ∧ w = w' from fun w => by have := mayStand_any c w; rwa [hlet] at this)
        clear hlet
        go_wp2_with (first | (go_at_call 133; refine (HW.out _).mono ?_; rintro e w' ⟨rfl, rfl⟩))
        go_ret
        exact ⟨by rw [HP.out]; rfl, rfl⟩
    · obtain rfl : k = n := by omega
      have HP := Lib.hid (show isPart s = true by
        have hl : 1 ≤ k := by
          rcases Nat.eq_zero_or_pos k with h | h
          · exact absurd (List.eq_nil_of_length_eq_zero (by rw [← HN.out]; exact h)) HH.out.1
          · exact h
        rw [isPart, ← HN.out, show s.all isLet = true from List.all_eq_true.2 fun c hc => by
          obtain ⟨j, hj, rfl⟩ := List.mem_iff_getElem.1 hc
          exact HA.out j (by rw [HN.out]; exact hj) _ (List.getElem?_eq_getElem hj), decide_eq_true hl, decide_eq_true (show k ≤ 100 by have := HH.out.2.1; omega), bne_iff_ne.2 HH.out.2.2.1, bne_iff_ne.2 HH.out.2.2.2]
        rfl)
      go_wp2
      go_ret
      exact ⟨by rw [HP.out]; rfl, rfl⟩
end Go.Proofs.YthkojphgjlojgaaDoor
namespace Go.Proofs.YthkojphgjlojgaaDoor
open Go.RowKit Go.Shelf
attribute [local go_sem] Oper.semAt_some
theorem cell_new (W : World) (v : Value) (t : TypeId) : (W.alloc (.cells #[v] t)).cell? ⟨W.heap.size, 0, none⟩ = some v ∧ (W.alloc (.cells #[v] t)).frozen? ⟨W.heap.size, 0, none⟩ = false := by
  have h := heap_last W (.cells #[v] t)
  constructor <;> simp only [World.cell?, World.frozen?, h] <;> rfl
/-- One cell, and that it may be written. -/
def Cell1 (g : Nat) (W : World) (x : Value) : Prop := W.cell? ⟨g, 0, none⟩ = some x ∧ W.frozen? ⟨g, 0, none⟩ = false
theorem cell1_own {g : Nat} {A B : World} {x : Value} {row : Option Nat} (hs : Cell1 g A x) (hg : A.grownBy B row) (hr : ∀ r, row = some r → ∃ o : Obj, A.heap[r]? = some o ∧ o.isCells = false) : Cell1 g B x := ⟨cell_kept hs.1 hg hr, (frozen_kept hs.1 hg hr).trans hs.2⟩
theorem cell1_alloc {g : Nat} {A : World} {x : Value} (hs : Cell1 g A x) (o : Obj) : Cell1 g (A.alloc o) x := cell1_own hs (World.grownBy_alloc A o none) (fun r e => by cases e)
theorem cell1_set {g : Nat} {A : World} {x : Value} (hs : Cell1 g A x) (y : Value) : Cell1 g (A.setCell ⟨g, 0, none⟩ y) y := ⟨World.cell?_setCell_same' A ⟨g, 0, none⟩ y (by rw [hs.1]; rfl), by rw [World.frozen?_setCell]; exact hs.2⟩
theorem parts_all {s : List UInt8} {ys : List (Pm s)} (h : ys.map (·.1) = marks s) (hall : ∀ x ∈ ys, isPart x.1.2 = true) : isParts s = true := by
  rw [isParts, List.all_eq_true, ← marks_snd, ← h]
  intro p hp
  obtain ⟨y, hy, rfl⟩ := List.mem_map.1 hp
  obtain ⟨x, hx, rfl⟩ := List.mem_map.1 hy
  exact hall x hx
theorem parts_not {s : List UInt8} {pre : List (Pm s)} (h : pre.map (·.1) <+: marks s) (hex : ∃ x ∈ pre, isPart x.1.2 = false) : isParts s = false := by
  obtain ⟨x, hx, hp⟩ := hex
  rw [isParts, Bool.eq_false_iff, ne_eq, List.all_eq_true]
  intro hall
  have := hall x.1.2 (by
    rw [← marks_snd]
    exact List.mem_map.2 ⟨x.1, h.subset (List.mem_map.2 ⟨x, hx, rfl⟩), rfl⟩)
  rw [hp] at this; cases this
set_option maxRecDepth 100000 in
set_option maxHeartbeats 4000000 in
theorem areParts_any (s : List UInt8) (hs : s.length < 4611686018427387904) (w : World) : Calls Tryd.prog 95 #[.string (str s)] w fun e w' => e = .returned (.bool (isParts s)) ∧ Below w.heap.size w w' := by
  have HS := Lib.hid hs
  clear hs
  refine (callsIn_wide (n := 6)).1 ?_
  refine callsIn_of_wp_marks Tryd.func95 rfl trivial ?_ rfl
  simp only [Tryd.ntmps95, List.size_toArray, List.length_cons, List.length_nil, Nat.reduceAdd, Nat.reduceSub, Array.replicate_succ, Array.replicate_zero, List.push_toArray, List.append_toArray, List.nil_append, List.cons_append]
  refine wpIn_wide.2 ?_
  have HP0 := Lib.hid (parts_any s)
  go_wp2_with (first | (go_at_call 96; have A0 := Lib.hid (cell_new w (.bool false) 4); have B0 := Lib.hid ((Below.refl w.heap.size w).alloc (Nat.le_refl _) (.cells #[.bool false] 4)); have Z0 := Lib.hid (show (w.alloc (.cells #[.bool false] 4)).heap.size = w.heap.size + 1 by simp); generalize w.alloc (.cells #[.bool false] 4) = W0 at *; refine (HP0.out _).mono ?_; rintro e w1 ⟨rfl, rfl⟩))
  have hc := cell_new W0 (.string (str s)) 9
  have C0 := Lib.hid (cell1_alloc (show Cell1 w.heap.size W0 (.bool false) from A0.out) (.cells #[.string (str s)] 9))
  have B1 := Lib.hid (B0.out.alloc B0.out.size (.cells #[.string (str s)] 9))
  refine (wpIn_wide (n := 6)).1 ?_
  refine wpIn_rangeFunc_ownF (F := Fence.wide) rfl (by decide) (gf := 116) (lb := #[.pointer (some ⟨W0.heap.size, 0, none⟩)]) rfl trivial (enters_of Tryd.func116 (by kernel_rfl) rfl)
    (seq_stops 5 (by decide) W0.heap.size s HS.out _ (by simp) hc.1) keepBox_t (keepBox_b (by simp)) (Below.refl _ _) (fun _ => rfl)
    (fun pre W => (Cell1 w.heap.size W (.bool false) ∧ ∀ x ∈ pre, isPart x.1.2 = true) ∧ Below w.heap.size w W)
    (fun c pre W => (Cell1 w.heap.size W (.bool false) ∧ c = .ret ∧ ∃ x ∈ pre, isPart x.1.2 = false) ∧ Below w.heap.size w W)
    (OwnFrom.and (OwnFrom.and (Own.from (fun s A B row hs hg hr => cell1_own hs hg hr) _) (ownFrom_pure _ _)) (ownFrom_below (Nat.le_refl _) (by have := Z0.out; simp; omega)))
    (fun c => OwnFrom.and (OwnFrom.and (Own.from (fun s A B row hs hg hr => cell1_own hs hg hr) _) (ownFrom_pure _ _)) (ownFrom_below (Nat.le_refl _) (by have := Z0.out; simp; omega)))
    ⟨⟨C0.out, fun x hx => by cases hx⟩, B1.out⟩
    (fun x => { tmps := #[.string (str s), undef, .pointer (some ⟨w.heap.size, 0, none⟩), undef, .string (str x.1.2), .string (str s), .func (.func 116) #[] #[.pointer (some ⟨W0.heap.size, 0, none⟩)], .int .i64 (x.1.1 : Int), .string (str x.1.2), undef, undef, undef], defers := [] }) ?assign ?body ?done ?stop
  case assign =>
    intro l x W K hK
    gi_wp2
    exact hK
  case body =>
    rintro l pre x W ⟨⟨hC, hall⟩, hB⟩ _
    have HC := Lib.hid hC
    have HA := Lib.hid (And.intro hall hB)
    clear hall hB
    obtain ⟨c0, f0⟩ := hC
    cases hip : isPart x.1.2 with
    | true =>
      have HI := Lib.hid hip
      have PI := Lib.hid (show ∀ w, Calls Tryd.prog 115 #[.string (str x.1.2)] w fun e w' => e = .returned (.bool true) ∧ w = w' from fun w => by have h := isPart_any x.1.2 (Nat.lt_of_le_of_lt x.2.2.2 HS.out) w; rwa [hip] at h)
      clear hip
      gi_wp2_with (refine ⟨trivial, ?_⟩; gi_at_call 115; refine (CallsIn.inRound l (callsIn_wide.2 (PI.out _))).mono ?_; rintro e w' ⟨rfl, rfl⟩)
      exact ⟨KeepsOthers.refl _, rfl, ⟨HC.out, fun y hy => (List.mem_append.1 hy).elim (HA.out.1 y) (fun e => by rw [List.mem_singleton] at e; subst e; exact HI.out)⟩, HA.out.2⟩
    | false =>
      have HI := Lib.hid hip
      have PI := Lib.hid (show ∀ w, Calls Tryd.prog 115 #[.string (str x.1.2)] w fun e w' => e = .returned (.bool false) ∧ w = w' from fun w => by have h := isPart_any x.1.2 (Nat.lt_of_le_of_lt x.2.2.2 HS.out) w; rwa [hip] at h)
      clear hip
      gi_wp2_with (refine ⟨trivial, ?_⟩; gi_at_call 115; refine (CallsIn.inRound l (callsIn_wide.2 (PI.out _))).mono ?_; rintro e w' ⟨rfl, rfl⟩)
      exact ⟨KeepsOthers.setCell W _ _, ⟨cell1_set HC.out _, rfl, x, List.mem_append.2 (.inr (List.mem_singleton.2 rfl)), HI.out⟩, HA.out.2.setCell (p := ⟨w.heap.size, 0, none⟩) (Nat.le_refl _) _⟩
  case done =>
    rintro D ys W hD hys ⟨⟨hC, hall⟩, hB⟩ hK
    have HC := Lib.hid hC
    have HB := Lib.hid hB
    have HP := Lib.hid (parts_all hys hall)
    have HD := Lib.hid (show W0.heap.size + 1 ≤ D by simpa using hD)
    clear hD hB hall hys
    obtain ⟨c0, f0⟩ := hC
    have HK := Lib.hid hK
    clear hK
    go_wp2
    have hK' := (KeepsOthers.setCell W ⟨w.heap.size, 0, none⟩ (.bool true)).same D _ HK.out rfl
    have hC' := cell1_own (cell1_set HC.out (.bool true)) (grownBy_putObj' _ D (.deferred none)) (fun r e => by cases e; exact ⟨_, hK', rfl⟩)
    refine ⟨by simp, .inl ⟨_, _, rfl, run_takeDeferred hK', ?_⟩⟩
    obtain ⟨r0, -⟩ := hC'
    refine ⟨.bool true, by simp [results, Tryd.f95, go_sem, r0], by rw [HP.out], ?_⟩
    exact (HB.out.setCell (p := ⟨w.heap.size, 0, none⟩) (Nat.le_refl _) _).trans (belowK_b (w := w) (Nat.le_refl _) _ D _ _ (by have := Z0.out; have := HD.out; omega) hK' rfl rfl)
  case stop =>
    rintro D c pre W hD hpre ⟨⟨hC, rfl, hex⟩, hB⟩ hK
    have HC := Lib.hid hC
    have HB := Lib.hid hB
    have HP := Lib.hid (parts_not hpre hex)
    have HD := Lib.hid (show W0.heap.size + 1 ≤ D by simpa using hD)
    clear hD hB hex hpre
    obtain ⟨c0, f0⟩ := hC
    have HK := Lib.hid hK
    clear hK
    gi_wp2
    have hC' := cell1_own HC.out (grownBy_putObj' _ D (.deferred none)) (fun r e => by cases e; exact ⟨_, HK.out, rfl⟩)
    refine ⟨by simp, .inl ⟨_, _, rfl, run_takeDeferred HK.out, ?_⟩⟩
    obtain ⟨r0, -⟩ := hC'
    refine ⟨.bool false, by simp [results, Tryd.f95, go_sem, r0], by rw [HP.out], ?_⟩
    exact HB.out.trans (belowK_b (w := w) (Nat.le_refl _) _ D _ _ (by have := Z0.out; have := HD.out; omega) HK.out rfl rfl)
end Go.Proofs.YthkojphgjlojgaaDoor
