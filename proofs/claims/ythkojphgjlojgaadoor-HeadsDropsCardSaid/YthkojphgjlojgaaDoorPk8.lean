/-
Texts that all claims of this seat share, part 8: Insert, HeadsAdd, Deeds, Ref10With, Ref10Leq.
-/
import Derived.Shelf.Spec.SlicesInsert
import Derived.Lib.AppendZerosOnto
import Derived.Deep.QuietTactic
import Derived.BigQuiet
import Derived.Test.YthkojphgjlojgaaDoorPk7
namespace Go.Proofs.YthkojphgjlojgaaDoor
open Go.RowKit
theorem splice_getI {cur cs : List Value} {off : Nat} (hfit : off + cs.length ≤ cur.length) (j : Nat) : (splice cur off cs)[j]? = if j < off then cur[j]? else if j < off + cs.length then cs[j - off]? else cur[j]? := by
  unfold splice
  have h1 : (cur.take off).length = off := by rw [List.length_take]; omega
  split
  · rename_i h
    rw [List.getElem?_append_left (by omega), List.getElem?_take_of_lt h]
  · rename_i h
    rw [List.getElem?_append_right (by omega), h1]
    split
    · rename_i h2
      rw [List.getElem?_append_left (by omega)]
    · rename_i h2
      rw [List.getElem?_append_right (by omega), List.getElem?_drop]
      congr 1; omega
theorem splice_len {cur cs : List Value} {off : Nat} (hfit : off + cs.length ≤ cur.length) : (splice cur off cs).length = cur.length := by
  unfold splice
  simp only [List.length_append, List.length_take, List.length_drop]; omega
theorem splice_two {cur E D : List Value} {a b : Nat} (hb : b = a + E.length) (hfit : b + D.length ≤ cur.length) : splice (splice cur a E) b D = cur.take a ++ (E ++ D) ++ cur.drop (b + D.length) := by
  apply List.ext_getElem?
  intro j
  rw [splice_getI (by rw [splice_len (by omega)]; exact hfit), splice_getI (by omega)]
  have h1 : (cur.take a).length = a := by rw [List.length_take]; omega
  by_cases c1 : j < a
  · rw [if_pos (by omega), if_pos c1, List.append_assoc, List.getElem?_append_left (by omega), List.getElem?_take_of_lt c1]
  · by_cases c2 : j < b
    · rw [if_pos c2, if_neg c1, if_pos (by omega), List.append_assoc, List.getElem?_append_right (by omega), h1, List.append_assoc, List.getElem?_append_left (by omega)]
    · by_cases c3 : j < b + D.length
      · rw [if_neg c2, if_pos c3, List.append_assoc, List.getElem?_append_right (by omega), h1, List.append_assoc, List.getElem?_append_right (by omega), List.getElem?_append_left (by omega)]
        congr 1; omega
      · rw [if_neg c2, if_neg c3, if_neg c1, if_neg (by omega), List.getElem?_append_right (by simp only [List.length_append, h1]; omega), List.getElem?_drop]
        congr 1; simp only [List.length_append, h1]; omega
theorem splice_two' {cur E D : List Value} {a b : Nat} (hb : b = a + E.length) (hfit : b + D.length ≤ cur.length) : splice (splice cur b D) a E = cur.take a ++ (E ++ D) ++ cur.drop (b + D.length) := by
  rw [← splice_two hb hfit]
  apply List.ext_getElem?
  intro j
  rw [splice_getI (by rw [splice_len hfit]; omega), splice_getI hfit, splice_getI (by rw [splice_len (by omega)]; exact hfit), splice_getI (by omega)]
  by_cases c1 : j < a
  · rw [if_pos c1, if_pos (by omega), if_pos (by omega), if_pos c1]
  · by_cases c2 : j < b
    · rw [if_neg c1, if_pos (by omega), if_pos c2, if_neg c1, if_pos (by omega)]
    · rw [if_neg c1, if_neg (by omega), if_neg c2, if_neg c2]
      split
      · rfl
      · rw [if_neg (by omega)]
theorem evsC_split (us : List (Ev × Value)) (i : Nat) : evsC us = evsC (us.take i) ++ evsC (us.drop i) := by rw [← evsC_append, List.take_append_drop]
theorem run_copy_rowK {P : Program} (w : World) (dT sT ty elem : TypeId) (size g o dLen dCap : Nat) (a : Addr) (sLen sCap : Nat) (cur : Array Value) (t : TypeId) (cs : List Value) (m : Nat)
    (hu : P.underlying dT = some (.slice elem)) (hs : (P.info? elem).map (·.size) = some size)
    (hg : w.heap[g]? = some (.cells cur t (0, 0))) (hm : m = Nat.min sLen dLen) (hn : cs.length = m * size)
    (hsrc : ∀ j v, cs[j]? = some v → w.cell? (a.add j) = some v) (hfit : o + cs.length ≤ cur.size) (h1 : ∀ v ∈ cs, v.oneCell' = true) :
    (Builtin.copy_ #[dT, sT] ty #[.slice (some ⟨g, o, none⟩) dLen dCap, .slice (some a) sLen sCap]).run P w = .ok (goInt m) (w.setRow g (splice cur.toList o cs).toArray) := by
  have hl := run_loadCells_list (P := P) w a cs hsrc
  have hst := run_storeCells_at P g o t cs 0 cur w hg (by simpa using hfit) h1
  rw [Nat.add_zero] at hst
  rw [hn] at hl
  cases hq : P.info? elem with
  | none => simp [hq] at hs
  | some i =>
    have hi : i.size = size := by simpa [hq] using hs
    simp [Builtin.copy_, run_underlying hu, Builtin.lenOf, Builtin.firstCells, sizeOf, typeInfo, hq, hi, ← hm, hl, hst, splice]
/-- What an insertion makes. -/
theorem inserted_row {w : World} {B g cap n i : Nat} {T : TypeId} {us : List (Ev × Value)} {x : Ev × Value} {c : List Value} (hn : n = us.length) (hi : i ≤ n) (hB : B ≤ g) (hcap : n + 1 ≤ cap) (hm : cap ≤ maxLen) (hlen : c.length = cap * 38)
    (hc : c.take ((n + 1) * 38) = evsC (us.take i ++ x :: us.drop i)) (hg : w.heap[g]? = some (.cells c.toArray T (0, 0))) : w.ownsRow B T 38 (.slice (some ⟨g, 0, none⟩) (n + 1) cap) (us.take i ++ x :: us.drop i).length (evsC (us.take i ++ x :: us.drop i)) := by
  have hl : (us.take i ++ x :: us.drop i).length = n + 1 := by
    simp only [List.length_append, List.length_take, List.length_cons, List.length_drop]; omega
  refine ⟨evsC_length _, .inr ⟨g, cap, c.toArray, by rw [hl], hB, hg, by rw [hl]; exact hcap, hm, by simpa using hlen, by rw [hl]; simpa using hc⟩⟩
theorem take_mid {c A M R : List Value} {k : Nat} (hc : c = A ++ M ++ R) (hk : k = A.length + M.length) : c.take k = A ++ M := by
  rw [hc, List.take_append_of_le_length (by rw [List.length_append]; omega), List.take_of_length_le (by rw [List.length_append]; omega)]
theorem ins_cells (us : List (Ev × Value)) (x : Ev × Value) (i : Nat) : evsC (us.take i ++ x :: us.drop i) = evsC (us.take i) ++ ((evC x.1 x.2).toList ++ evsC (us.drop i)) := by
  rw [evsC_append, evsC]
set_option maxRecDepth 100000 in
theorem evInfoZ : ∃ i z, Tryd.prog.info? 36 = some i ∧ i.zero = some z ∧ i.size = 38 ∧ i.bytes = 104 ∧ z.cells.size = 38 := by
  obtain ⟨i, hi, hz⟩ := infoEv
  simp only [Prod.mk.injEq] at hz
  cases hq : i.zero with
  | none => rw [hq] at hz; cases hz.1
  | some z => rw [hq] at hz; simp at hz; exact ⟨i, z, hi, hq, hz.2.1, hz.2.2, hz.1⟩
set_option maxRecDepth 100000 in
set_option maxHeartbeats 16000000 in
theorem insert_end (B : Nat) (us : List (Ev × Value)) (hl : us.length ≤ 50000) (v : Value) (n : Nat) (hn : n = us.length) (N : Nat) (e : Ev) (u : Value) (hu1 : u.oneCell' = true) (w : World) (hown : w.ownsRow B 36 38 v us.length (evsC us))
    (hN : EvAt w N 36 e u) (hB : B ≤ w.heap.size) : Calls Tryd.prog 66 #[v, .int .i64 (n : Int), .slice (some ⟨N, 0, none⟩) 1 1] w fun x w' => ∃ y, x = .returned y ∧ w'.ownsRow B 36 38 y (us ++ [(e, u)]).length (evsC (us ++ [(e, u)])) ∧ Below B w w' := by
  obtain ⟨ie, hie, hiz⟩ := infoEv
  have HIZ := Lib.hid hiz
  have HO := Lib.hid hown
  have HE := Lib.hid hN
  have HL := Lib.hid hl
  have HB := Lib.hid hB
  have HU := Lib.hid hu1
  have hn5 : (n : Int) ≤ 50000 := by omega
  have HN := Lib.hid hn
  have hbl := own_blockM hown
  have HBL := Lib.hid hbl
  rw [← hn] at hown
  rcases hown.2 with ⟨rfl, h0⟩ | ⟨g, cap, cur, rfl, hg1, hg2, hg3, hg4, -⟩
  · subst h0
    clear hiz hown hN hl hB hu1 hbl hn
    go_enter Tryd.func66, Tryd.ntmps66
    go_wp2_with (first
      | (at_builtin; refine append_evs rfl (.tmp 23) (.tmp 24) 24 rfl B 36 ie Tryd.underlying24 hie HIZ.out _ us [(e, u)] rfl HO.out (fun q hq => by rw [List.mem_singleton.1 hq]; exact HU.out) ⟨N, 0, none⟩ 1 1 rfl rfl (evAt_one HE.out) (by have := HL.out; simp only [List.length_cons, List.length_nil]; omega) HB.out ?_; rintro v' w5 hown hgr; have B5 := Lib.hid (below_grown (Below.refl B w) hgr HB.out (fun b hb => (HBL.out b hb).1)); have O5 := Lib.hid hown; clear hown hgr))
    go_ret
    exact ⟨_, rfl, O5.out, B5.out⟩
  · have HCM := Lib.hid (show cap ≤ 9223372036854775807 from hg4)
    have hnc : (n : Int) ≤ (cap : Int) := by omega
    clear hiz hown hN hl hB hu1 hbl hn hg1 hg2 hg4
    by_cases hcn : cap = n
    · subst hcn
      clear hg3 hnc
      go_enter Tryd.func66, Tryd.ntmps66
      go_wp2_with (first
        | (at_builtin; refine append_evs rfl (.tmp 23) (.tmp 24) 24 rfl B 36 ie Tryd.underlying24 hie HIZ.out _ us [(e, u)] rfl HO.out (fun q hq => by rw [List.mem_singleton.1 hq]; exact HU.out) ⟨N, 0, none⟩ 1 1 rfl rfl (evAt_one HE.out) (by have := HL.out; simp only [List.length_cons, List.length_nil]; omega) HB.out ?_; rintro v' w5 hown hgr; have B5 := Lib.hid (below_grown (Below.refl B w) hgr HB.out (fun b hb => (HBL.out b hb).1)); have O5 := Lib.hid hown; clear hown hgr))
      go_ret
      exact ⟨_, rfl, O5.out, B5.out⟩
    · have hc2 : ¬ (cap = n) := hcn
      clear hcn
      go_enter Tryd.func66, Tryd.ntmps66
      go_wp2_with (first
        | (at_builtin; refine append_evs rfl (.tmp 23) (.tmp 24) 24 rfl B 36 ie Tryd.underlying24 hie HIZ.out _ us [(e, u)] rfl HO.out (fun q hq => by rw [List.mem_singleton.1 hq]; exact HU.out) ⟨N, 0, none⟩ 1 1 rfl rfl (evAt_one HE.out) (by have := HL.out; simp only [List.length_cons, List.length_nil]; omega) HB.out ?_; rintro v' w5 hown hgr; have B5 := Lib.hid (below_grown (Below.refl B w) hgr HB.out (fun b hb => (HBL.out b hb).1)); have O5 := Lib.hid hown; clear hown hgr))
      go_ret
      exact ⟨_, rfl, O5.out, B5.out⟩
set_option maxRecDepth 100000 in
set_option maxHeartbeats 16000000 in
theorem insert_room (B : Nat) (us : List (Ev × Value)) (hl : us.length ≤ 50000) (n i g cap : Nat) (hn : n = us.length) (hi : i < n) (N : Nat) (e : Ev) (u : Value) (hu1 : u.oneCell' = true) (w : World) (hown : w.ownsRow B 36 38 (.slice (some ⟨g, 0, none⟩) n cap) n (evsC us)) (hone : ∀ x ∈ us, x.2.oneCell' = true)
    (hN : EvAt w N 36 e u) (hNB : g ≠ N) (hroom : n + 1 ≤ cap) : Calls Tryd.prog 66 #[.slice (some ⟨g, 0, none⟩) n cap, .int .i64 (i : Int), .slice (some ⟨N, 0, none⟩) 1 1] w fun x w' => ∃ y, x = .returned y ∧ w'.ownsRow B 36 38 y (us.take i ++ (e, u) :: us.drop i).length (evsC (us.take i ++ (e, u) :: us.drop i)) ∧ Below B w w' := by
  obtain ⟨g', cap', cur, hv, hg1, hg2, hg3, hg4, hg5, hg6⟩ := hown.2.resolve_left (fun h => by have := h.1; cases this)
  simp only [Value.slice.injEq, Option.some.injEq, Addr.mk.injEq, and_true, true_and] at hv
  obtain ⟨rfl, rfl⟩ := hv
  have t24 : Tryd.prog.underlying 24 = some (.slice 36) := Tryd.underlying24
  have hsz : ∀ w, (Go.sizeOf 36).run Tryd.prog w = .ok 38 w := fun w => by
    obtain ⟨ie, z, h1, -, h3, -⟩ := evInfoZ
    simp [sizeOf, typeInfo, h1, h3]
  have hov : ∀ lb cb, (callFunc 84 #[.slice (some ⟨N, 0, none⟩) 1 1, .slice (some ⟨g, (i + 1) * 38, none⟩) lb cb]).run Tryd.prog w = .ok (.value (.bool false)) w := fun lb cb => by
    rw [run_callFunc_extern Tryd.func84 (by kernel_rfl) (by kernel_rfl) (by kernel_rfl) (e := Extern.SlicesOverlaps.overlaps #[24, 24] #[4]) (by kernel_rfl),
      Lib.run_overlaps_apart w 24 4 36 t24 38 hsz ⟨N, 0, none⟩ ⟨g, (i + 1) * 38, none⟩ 1 1 lb cb (fun h => hNB h.symm) 36 36 38 (cap * 38) (by
        have h := hN; unfold EvAt at h; simp [World.shape?, h, evC_size]) (by simp [World.shape?, hg2, hg5]) (by omega) (by
        have h := hN; unfold EvAt at h; simp [World.frozen?, h]) (by
        have h := hN; unfold EvAt at h; simp [World.frozen?, h])]
    rfl
  have hdl : (evsC (us.drop i)).length = (n - i) * 38 := by rw [evsC_length, List.length_drop, hn]
  have htl : (evsC (us.take i)).length = i * 38 := by rw [evsC_length, List.length_take]; congr 1; omega
  have hel : (evC e u).toList.length = 38 := evC_len e u
  have hcl : cur.toList.length = cap * 38 := by simpa using hg5
  have hfit : (i + 1) * 38 + (evsC (us.drop i)).length ≤ cur.toList.length := by rw [hdl, hcl]; omega
  have hcur : cur.toList.take (n * 38) = evsC (us.take i) ++ evsC (us.drop i) := by rw [hg6, evsC_split us i]
  have hsrc1 : ∀ j x, (evsC (us.drop i))[j]? = some x → w.drew.cell? ((⟨g, i * 38, none⟩ : Addr).add j) = some x := fun j x hj => by
    have hjl : j < (n - i) * 38 := by have := (List.getElem?_eq_some_iff.1 hj).1; omega
    have h1 : w.cell? ⟨g, i * 38 + j, none⟩ = (evsC us)[i * 38 + j]? := hown.cellAt _ (by omega)
    rw [Addr.add_lit]
    refine h1.trans ?_
    rw [evsC_split us i, List.getElem?_append_right (by omega), htl, show i * 38 + j - i * 38 = j by omega]; exact hj
  obtain ⟨C1, hC1⟩ : ∃ C, C = (splice cur.toList ((i + 1) * 38) (evsC (us.drop i))).toArray := ⟨_, rfl⟩
  have hcp1 : ∀ ty dl sl dc sc, Nat.min sl dl = n - i → (Builtin.copy_ #[24, 24] ty #[.slice (some ⟨g, (i + 1) * 38, none⟩) dl dc, .slice (some ⟨g, i * 38, none⟩) sl sc]).run Tryd.prog w.drew = .ok (goInt ((n - i : Nat) : Int)) (w.drew.setRow g C1) := fun ty dl sl dc sc hm => by
    rw [hC1]
    exact run_copy_rowK w.drew _ _ ty 36 38 g ((i + 1) * 38) dl dc ⟨g, i * 38, none⟩ sl sc cur 36 (evsC (us.drop i)) (n - i) t24 evSize hg2 hm.symm hdl hsrc1 (by simpa using hfit) (evsC_one _ (fun x hx => hone x (List.mem_of_mem_drop hx)))
  obtain ⟨W1, hW1⟩ : ∃ W, W = w.drew.setRow g C1 := ⟨_, rfl⟩
  have hgW1 : W1.heap[g]? = some (.cells C1 36 (0, 0)) := by rw [hW1]; exact setRow_heap w.drew g cur C1 36 (0, 0) hg2
  have hs1 : Solo g w.drew W1 := by rw [hW1]; exact solo_setRow _ _ _
  have hN1 : EvAt W1 N 36 e u := (hs1.block N (fun h => hNB h.symm)).trans hN
  have hc1l : C1.toList.length = cap * 38 := by rw [hC1]; simp only []; rw [splice_len hfit, hcl]
  have hfit2 : i * 38 + (evC e u).toList.length ≤ C1.size := by
    have h : C1.size = cap * 38 := by simpa using hc1l
    rw [hel, h]; omega
  obtain ⟨C2, hC2⟩ : ∃ C, C = (splice C1.toList (i * 38) (evC e u).toList).toArray := ⟨_, rfl⟩
  have hcp2 : ∀ ty dl dc, Nat.min 1 dl = 1 → (Builtin.copy_ #[24, 24] ty #[.slice (some ⟨g, i * 38, none⟩) dl dc, .slice (some ⟨N, 0, none⟩) 1 1]).run Tryd.prog W1 = .ok (goInt 1) (W1.setRow g C2) := fun ty dl dc hm => by
    rw [hC2]
    exact run_copy_rowK W1 _ _ ty 36 38 g (i * 38) dl dc ⟨N, 0, none⟩ 1 1 C1 36 (evC e u).toList 1 t24 evSize hgW1 hm.symm hel (fun j x hj => by
      rw [Addr.add_lit, Nat.zero_add]; exact evAt_cell hN1 j x (by rwa [Array.getElem?_toList] at hj)) hfit2 (fun x hx => (Array.all_eq_true_iff_forall_mem.1 (evC_one e u hu1)) x (by simpa using hx))
  have hfin : ∀ W, W = W1.setRow g C2 → W.ownsRow B 36 38 (.slice (some ⟨g, 0, none⟩) (n + 1) cap) (us.take i ++ (e, u) :: us.drop i).length (evsC (us.take i ++ (e, u) :: us.drop i)) ∧ Below B w W := fun W hW => by
    have e2 : C2.toList = cur.toList.take (i * 38) ++ ((evC e u).toList ++ evsC (us.drop i)) ++ cur.toList.drop ((i + 1) * 38 + (evsC (us.drop i)).length) := by
      rw [hC2, hC1]; exact splice_two' (by rw [hel]; omega) hfit
    have e3 : cur.toList.take (i * 38) = evsC (us.take i) := by
      have h1 := congrArg (List.take (i * 38)) hcur
      rw [List.take_take, Nat.min_eq_left (by omega), List.take_append_of_le_length (by omega), List.take_of_length_le (l := evsC (us.take i)) (by omega)] at h1
      exact h1
    rw [e3] at e2
    have hg9 : W.heap[g]? = some (.cells C2.toList.toArray 36 (0, 0)) := by rw [hW, Array.toArray_toList]; exact setRow_heap W1 g C1 C2 _ _ hgW1
    refine ⟨inserted_row hn (by omega) hg1 hroom hg4 ?_ ?_ hg9, ?_⟩
    · rw [hC2]; simp only []; rw [splice_len (by rw [hel, hc1l]; omega), hc1l]
    · rw [ins_cells]; exact take_mid e2 (by simp only [List.length_append, htl, hel, hdl]; omega)
    · rw [hW]
      exact solo_below (solo_below (show Below B w w.drew from (drawS (Below.refl _ _)).mono (by have := hg1; have := (Array.getElem?_eq_some_iff.1 hg2).1; exact Nat.le_of_lt (by omega))) hs1 hg1) (solo_setRow _ _ _) hg1
  have HCP1 := Lib.hid hcp1
  have HCP2 := Lib.hid hcp2
  have HFIN := Lib.hid hfin
  have HCM := Lib.hid (show cap ≤ 9223372036854775807 from hg4)
  have hn5 : n ≤ 50000 := by omega
  have hz2 : ((i : Int) == (n : Int)) = false := beq_eq_false_iff_ne.2 (by omega)
  have hw1 : IntKind.i64.wrap ((i : Int) + 1) = (i : Int) + 1 := by rw [IntKind.wrap_i64]; omega
  have hw2 : IntKind.i64.wrap ((n : Int) + 1) = (n : Int) + 1 := by rw [IntKind.wrap_i64]; omega
  have hb1 : (0 : Int) ≤ (i : Int) + 1 := by omega
  have hin : i ≤ n := by omega
  have htn : ((i : Int) + 1).toNat = i + 1 := by omega
  have htn2 : ((n : Int) + 1).toNat = n + 1 := by omega
  have hb2 : ¬ (cap = i + 1) := by omega
  have hb3 : (i : Int) ≤ (n : Int) + 1 := by omega
  have hb4 : ¬ (cap = i) := by omega
  have hr1 : ¬ ((cap : Int) < (n : Int) + 1) := by omega
  have hr5 : decide ((cap : Int) < (n : Int) + 1) = false := decide_eq_false hr1
  have hr2 : (n : Int) + 1 ≤ (cap : Int) := by omega
  have hr3 : (i : Int) + 1 ≤ (n : Int) + 1 := by omega
  have hr4 : n + 1 ≤ cap := hroom
  have HIN := Lib.hid hi
  have HW1 := Lib.hid hW1
  clear hl hone hown hN hu1 hg1 hg2 hg3 hg4 hg5 hg6 hdl htl hel hcl hfit hcur hsrc1 hcp1 hcp2 hfin hgW1 hs1 hN1 hc1l hC1 hC2 hn hsz hroom hi hfit2 hW1
  go_enter Tryd.func66, Tryd.ntmps66
  go_upto_region 15 with (simp only [hov])
  have hm1 : ∀ a b, a = n + 1 - i → b = n + 1 - (i + 1) → Nat.min a b = n - i := fun a b ha hb => by have := HIN.out; rw [ha, hb]; simp only [Nat.min_def]; split <;> omega
  have HM1 := Lib.hid hm1
  clear hm1
  refine wp_region_held_drew (S := fun _ => True) (by kernel_rfl) trivial (fun hHeld => ?_)
  refine take_at (i := 0) 69 rfl rfl (by kernel_rfl) (by kernel_rfl) (by kernel_rfl) (fun _ _ _ h => h) (sure_yes (by rfl) (fun w => by go_simp; try with_reducible rfl)) hHeld ?_
  simp only [List.setIfInBounds_toArray, List.set_cons_zero, List.set_cons_succ]
  refine take_at (i := 1) 70 rfl rfl (by kernel_rfl) (by kernel_rfl) (by kernel_rfl) (fun _ _ _ h => h) (sure_yes (by rfl) (fun w => by go_simp; try with_reducible rfl)) hHeld ?_
  simp only [List.setIfInBounds_toArray, List.set_cons_zero, List.set_cons_succ]
  refine take_at (i := 2) 71 rfl rfl (by kernel_rfl) (by kernel_rfl) (by kernel_rfl) (fun _ _ _ h => h) (sure_yes (by rfl) (fun w => by go_simp; try with_reducible rfl)) hHeld ?_
  simp only [List.setIfInBounds_toArray, List.set_cons_zero, List.set_cons_succ]
  refine take_at (i := 3) 72 rfl rfl (by kernel_rfl) (by kernel_rfl) (by kernel_rfl) (fun _ _ _ h => h) (sure_yes (by rfl) (fun w => by go_simp; try with_reducible rfl)) hHeld ?_
  simp only [List.setIfInBounds_toArray, List.set_cons_zero, List.set_cons_succ]
  refine take_at (i := 4) 73 rfl rfl (by kernel_rfl) (by kernel_rfl) (by kernel_rfl) (fun _ _ _ h => h) (sure_yes (by rfl) (fun w => by go_simp; try with_reducible rfl)) hHeld ?_
  simp only [List.setIfInBounds_toArray, List.set_cons_zero, List.set_cons_succ]
  refine take_at (i := 5) 74 rfl rfl (by kernel_rfl) (by kernel_rfl) (by kernel_rfl) (fun _ _ _ h => h) (sure_yes (by rfl) (fun w => by go_simp; try with_reducible rfl)) hHeld ?_
  simp only [List.setIfInBounds_toArray, List.set_cons_zero, List.set_cons_succ]
  refine take_at (i := 6) 75 rfl rfl (by kernel_rfl) (by kernel_rfl) (by kernel_rfl) (fun _ _ _ h => h) (sure_yes (by rfl) (fun w => by go_simp; try with_reducible rfl)) hHeld ?_
  simp only [List.setIfInBounds_toArray, List.set_cons_zero, List.set_cons_succ]
  refine take_at (i := 7) 76 rfl rfl (by kernel_rfl) (by kernel_rfl) (by kernel_rfl) (fun _ _ _ h => h) (sure_yes (by rfl) (fun w => by go_simp; try with_reducible rfl)) hHeld ?_
  simp only [List.setIfInBounds_toArray, List.set_cons_zero, List.set_cons_succ]
  refine wpAnyH_ready (rs := [8]) (by kernel_rfl) (by simp) ?_
  refine AllReadyH.cons rfl (fun CONT hCONT => ?_) AllReadyH.nil
  rw [if_pos (by rfl)]
  refine wp_copy_runI _ (.tmp 73) (.tmp 76) 24 24 rfl _ _ rfl rfl (HCP1.out _ _ _ _ _ (HM1.out _ _ (by first | rfl | omega) (by first | rfl | omega))) ?_
  refine hCONT.out _ _ trivial (fun hHeld => ?_)
  clear hCONT CONT
  refine wpAnyH_done (by kernel_rfl) ?_ _
  go_wp2_with (refine wpList_copy_runI _ rfl _ _ 24 24 rfl _ _ rfl rfl (by rw [← HW1.out]; exact HCP2.out _ _ _ (by have := HIN.out; simp only [Nat.min_def]; split <;> omega)) ?_)
  go_ret
  obtain ⟨h1, h2⟩ := HFIN.out _ rfl
  exact ⟨_, rfl, by simpa using h1, h2⟩
set_option maxRecDepth 100000 in
set_option maxHeartbeats 16000000 in
theorem insert_grow (B : Nat) (us : List (Ev × Value)) (hl : us.length ≤ 50000) (n i g cap : Nat) (hn : n = us.length) (hi : i < n) (N : Nat) (e : Ev) (u : Value) (hu1 : u.oneCell' = true) (w : World) (hown : w.ownsRow B 36 38 (.slice (some ⟨g, 0, none⟩) n cap) n (evsC us)) (hone : ∀ x ∈ us, x.2.oneCell' = true)
    (hN : EvAt w N 36 e u) (hB : B ≤ w.heap.size) (hroom : ¬ n + 1 ≤ cap) : Calls Tryd.prog 66 #[.slice (some ⟨g, 0, none⟩) n cap, .int .i64 (i : Int), .slice (some ⟨N, 0, none⟩) 1 1] w fun x w' => ∃ y, x = .returned y ∧ w'.ownsRow B 36 38 y (us.take i ++ (e, u) :: us.drop i).length (evsC (us.take i ++ (e, u) :: us.drop i)) ∧ Below B w w' := by
  obtain ⟨g', cap', cur, hv, hg1, hg2, hg3, hg4, hg5, hg6⟩ := hown.2.resolve_left (fun h => by have := h.1; cases this)
  simp only [Value.slice.injEq, Option.some.injEq, Addr.mk.injEq, and_true, true_and] at hv
  obtain ⟨rfl, rfl⟩ := hv
  obtain rfl : cap = n := by omega
  obtain ⟨ie, z, hi0, hz0, hzs, hzb, hzz⟩ := evInfoZ
  have t24 : Tryd.prog.underlying 24 = some (.slice 36) := Tryd.underlying24
  have hdl : (evsC (us.drop i)).length = (cap - i) * 38 := by rw [evsC_length, List.length_drop, hn]
  have htl : (evsC (us.take i)).length = i * 38 := by rw [evsC_length, List.length_take]; congr 1; omega
  have hel : (evC e u).toList.length = 38 := evC_len e u
  have hbw : g < w.heap.size := (Array.getElem?_eq_some_iff.1 hg2).1
  have hvw : N < w.heap.size := (Array.getElem?_eq_some_iff.1 hN).1
  have hcellT : ∀ j x, (evsC (us.take i))[j]? = some x → w.cell? ⟨g, j, none⟩ = some x := fun j x hj => by
    have hjl : j < i * 38 := by have := (List.getElem?_eq_some_iff.1 hj).1; omega
    rw [hown.cellAt j (by omega), evsC_split us i, List.getElem?_append_left (by omega)]; exact hj
  have hcellD : ∀ j x, (evsC (us.drop i))[j]? = some x → w.cell? ⟨g, i * 38 + j, none⟩ = some x := fun j x hj => by
    have hjl : j < (cap - i) * 38 := by have := (List.getElem?_eq_some_iff.1 hj).1; omega
    rw [hown.cellAt _ (by omega), evsC_split us i, List.getElem?_append_right (by omega), htl, show i * 38 + j - i * 38 = j by omega]; exact hj
  have hold : (Builtin.firstCells ie.size i (.slice (some ⟨g, 0, none⟩) i cap)).run Tryd.prog w.drew = .ok (evsC (us.take i)).toArray w.drew := by
    rw [hzs]
    exact run_firstCells_some w.drew 38 i ⟨g, 0, none⟩ i cap (evsC (us.take i)) htl (fun j x hj => by rw [Addr.add_lit, Nat.zero_add]; exact hcellT j x hj)
  have hik : i + (cap + 1 - i) = cap + 1 := by omega
  obtain ⟨G, hG⟩ : ∃ G, G = grownCap w (cap + 1) cap 36 := ⟨_, rfl⟩
  have hGn : cap + 1 ≤ G := by rw [hG]; exact grownCap_ge w _ _ _
  have hGm : G ≤ maxLen := by rw [hG]; exact grownCap_le_maxLen w _ _ _ (by unfold maxLen; omega)
  obtain ⟨C0, hC0⟩ : ∃ C, C = (evsC (us.take i)).toArray ++ Builtin.zeroCells z.cells (cap + 1 - i) ++ Builtin.zeroCells z.cells (G - (cap + 1)) := ⟨_, rfl⟩
  have hap : ∀ ty, (Builtin.append_ #[24, 3] ty #[.slice (some ⟨g, 0, none⟩) i cap, .int .i64 ((cap : Int) + 1 - (i : Int))]).run Tryd.prog w = .ok (.slice (some ⟨w.heap.size, 0, none⟩) (cap + 1) G) (w.drew.alloc (.cells C0 36)) := fun ty => by
    have h := Lib.run_append_grow_zeros w 24 3 ty 36 ie z .i64 .i64 t24 Tryd.underlying3 hi0 hz0 (some ⟨g, 0, none⟩) i cap (evsC (us.take i)) hold (cap + 1 - i) (by omega) (by omega) (by omega) (by omega) (by rw [hzb]; omega) (by rw [hzb, hik]; exact growslice_fits (by omega) (by omega))
    rw [hik, ← hG, ← hC0] at h
    rw [show (cap : Int) + 1 - (i : Int) = ((cap + 1 - i : Nat) : Int) by omega]
    exact h
  have hzl : ∀ k, (Builtin.zeroCells z.cells k).size = k * 38 := fun k => by simp [Builtin.zeroCells, hzz]
  have hc0l : C0.toList.length = G * 38 := by
    rw [hC0]; simp only [Array.toList_append, List.length_append, Array.length_toList, hzl, htl]; omega
  have htake0 : C0.toList.take (i * 38) = evsC (us.take i) := by
    have h0 : C0.toList = evsC (us.take i) ++ ((Builtin.zeroCells z.cells (cap + 1 - i)).toList ++ (Builtin.zeroCells z.cells (G - (cap + 1))).toList) := by rw [hC0]; simp
    rw [h0, List.take_append_of_le_length (by omega), List.take_of_length_le (by omega)]
  obtain ⟨W1, hW1⟩ : ∃ W, W = w.drew.alloc (.cells C0 36) := ⟨_, rfl⟩
  have hgW1 : W1.heap[w.heap.size]? = some (.cells C0 36 (0, 0)) := by rw [hW1]; exact heap_last w.drew _
  have hb1 : Below w.heap.size w W1 := by rw [hW1]; exact (drawS (Below.refl _ _)).alloc (Nat.le_refl _) _
  have hN1 : EvAt W1 N 36 e u := evAt_kept hN hb1
  obtain ⟨C1, hC1⟩ : ∃ C, C = (splice C0.toList (i * 38) (evC e u).toList).toArray := ⟨_, rfl⟩
  have hf1 : i * 38 + (evC e u).toList.length ≤ C0.size := by
    have h : C0.size = G * 38 := by simpa using hc0l
    rw [hel, h]; omega
  have hcpA : ∀ ty dl dc, Nat.min 1 dl = 1 → (Builtin.copy_ #[24, 24] ty #[.slice (some ⟨w.heap.size, i * 38, none⟩) dl dc, .slice (some ⟨N, 0, none⟩) 1 1]).run Tryd.prog W1 = .ok (goInt 1) (W1.setRow w.heap.size C1) := fun ty dl dc hm => by
    rw [hC1]
    exact run_copy_rowK W1 _ _ ty 36 38 w.heap.size (i * 38) dl dc ⟨N, 0, none⟩ 1 1 C0 36 (evC e u).toList 1 t24 evSize hgW1 hm.symm hel (fun j x hj => by
      rw [Addr.add_lit, Nat.zero_add]; exact evAt_cell hN1 j x (by rwa [Array.getElem?_toList] at hj)) hf1 (fun x hx => (Array.all_eq_true_iff_forall_mem.1 (evC_one e u hu1)) x (by simpa using hx))
  obtain ⟨W2, hW2⟩ : ∃ W, W = (W1.setRow w.heap.size C1).drew := ⟨_, rfl⟩
  have hgW2 : W2.heap[w.heap.size]? = some (.cells C1 36 (0, 0)) := by rw [hW2]; exact setRow_heap W1 w.heap.size C0 C1 36 (0, 0) hgW1
  have hs1 : Solo w.heap.size W1 (W1.setRow w.heap.size C1) := solo_setRow _ _ _
  have hb2 : Below w.heap.size w W2 := by
    rw [hW2]; exact drawS (solo_below hb1 hs1 (Nat.le_refl _))
  have hc1l : C1.toList.length = G * 38 := by
    have h : i * 38 + (evC e u).toList.length ≤ C0.toList.length := by simpa using hf1
    rw [hC1]; simp only []; rw [splice_len h, hc0l]
  have hf2 : (i + 1) * 38 + (evsC (us.drop i)).length ≤ C1.size := by
    have h : C1.size = G * 38 := by simpa using hc1l
    rw [hdl, h]; omega
  obtain ⟨C2, hC2⟩ : ∃ C, C = (splice C1.toList ((i + 1) * 38) (evsC (us.drop i))).toArray := ⟨_, rfl⟩
  have hcpB : ∀ ty dl sl dc sc, Nat.min sl dl = cap - i → (Builtin.copy_ #[24, 24] ty #[.slice (some ⟨w.heap.size, (i + 1) * 38, none⟩) dl dc, .slice (some ⟨g, i * 38, none⟩) sl sc]).run Tryd.prog W2 = .ok (goInt ((cap - i : Nat) : Int)) (W2.setRow w.heap.size C2) := fun ty dl sl dc sc hm => by
    rw [hC2]
    exact run_copy_rowK W2 _ _ ty 36 38 w.heap.size ((i + 1) * 38) dl dc ⟨g, i * 38, none⟩ sl sc C1 36 (evsC (us.drop i)) (cap - i) t24 evSize hgW2 hm.symm hdl (fun j x hj => by
      rw [Addr.add_lit]
      exact (World.cell?_of_block (hb2.block g hbw)).trans (hcellD j x hj)) hf2 (evsC_one _ (fun x hx => hone x (List.mem_of_mem_drop hx)))
  have hfin : (W2.setRow w.heap.size C2).ownsRow B 36 38 (.slice (some ⟨w.heap.size, 0, none⟩) (cap + 1) G) (us.take i ++ (e, u) :: us.drop i).length (evsC (us.take i ++ (e, u) :: us.drop i)) ∧ Below B w (W2.setRow w.heap.size C2) := by
    have e2 : C2.toList = C0.toList.take (i * 38) ++ ((evC e u).toList ++ evsC (us.drop i)) ++ C0.toList.drop ((i + 1) * 38 + (evsC (us.drop i)).length) := by
      rw [hC2, hC1]; exact splice_two (by rw [hel]; omega) (by rw [hc0l, hdl]; omega)
    rw [htake0] at e2
    refine ⟨inserted_row hn (by omega) hB hGn hGm ?_ ?_ (by rw [Array.toArray_toList]; exact setRow_heap W2 w.heap.size C1 C2 _ _ hgW2), ?_⟩
    · have h : (i + 1) * 38 + (evsC (us.drop i)).length ≤ C1.toList.length := by simpa using hf2
      rw [hC2]; simp only []; rw [splice_len h, hc1l]
    · rw [ins_cells]; exact take_mid e2 (by simp only [List.length_append, htl, hel, hdl]; omega)
    · exact (solo_below hb2 (solo_setRow W2 w.heap.size C2) (Nat.le_refl _)).mono hB
  have HAP := Lib.hid hap
  have HCPA := Lib.hid hcpA
  have HCPB := Lib.hid hcpB
  have HFIN := Lib.hid hfin
  have HW1 := Lib.hid hW1
  have HW2 := Lib.hid hW2
  have HCM := Lib.hid (show G ≤ 9223372036854775807 from hGm)
  have hn5 : cap ≤ 50000 := by omega
  have hz2 : ((i : Int) == (cap : Int)) = false := beq_eq_false_iff_ne.2 (by omega)
  have hw1 : IntKind.i64.wrap ((i : Int) + 1) = (i : Int) + 1 := by rw [IntKind.wrap_i64]; omega
  have hw2 : IntKind.i64.wrap ((cap : Int) + 1) = (cap : Int) + 1 := by rw [IntKind.wrap_i64]; omega
  have hw3 : IntKind.i64.wrap ((cap : Int) + 1 - (i : Int)) = (cap : Int) + 1 - (i : Int) := by rw [IntKind.wrap_i64]; omega
  have hb1' : (0 : Int) ≤ (i : Int) + 1 := by omega
  have hin : i ≤ cap := by omega
  have htn : ((i : Int) + 1).toNat = i + 1 := by omega
  have hq1 : ¬ (G = i + 1) := by omega
  have hq2 : ¬ (G = i) := by omega
  have hq3 : ¬ (cap = i) := by omega
  have hq4 : (i : Int) ≤ (cap : Int) + 1 := by omega
  have hq5 : (i : Int) + 1 ≤ (cap : Int) + 1 := by omega
  have hq6 : cap + 1 ≤ G := hGn
  have hr5 : decide ((cap : Int) < (cap : Int) + 1) = true := decide_eq_true (by omega)
  have HIN := Lib.hid hi
  clear hl hone hown hN hu1 hg1 hg2 hg3 hg4 hg5 hg6 hdl htl hel hbw hvw hcellT hcellD hold hik hG hGn hGm hC0 hap hzl hc0l htake0 hgW1 hb1 hN1 hC1 hf1 hcpA hgW2 hs1 hb2 hc1l hf2 hC2 hcpB hfin hn hi0 hz0 hzs hzb hzz hroom hi hB hW1 hW2
  go_enter Tryd.func66, Tryd.ntmps66
  go_upto_region 9 with fail
  go_upto_region 10 with (at_builtin; refine Lib.wpList_append_run _ rfl _ _ _ _ rfl _ _ rfl rfl _ _ (HAP.out _) ?_; rw [← HW1.out])
  go_upto_region 11 with (refine wpList_copy_runI _ rfl _ _ 24 24 rfl _ _ rfl rfl (HCPA.out _ _ _ (by have := HIN.out; simp only [Nat.min_def]; split <;> omega)) ?_)
  refine wp_region_held_drew (S := fun _ => True) (by kernel_rfl) trivial (fun hHeld => ?_)
  rw [← HW2.out]
  have hm1 : ∀ a b, a = cap - i → b = cap + 1 - (i + 1) → Nat.min a b = cap - i := fun a b ha hb => by have := HIN.out; rw [ha, hb]; simp only [Nat.min_def]; split <;> omega
  have HM1 := Lib.hid hm1
  clear hm1
  refine take_at (i := 0) 46 rfl rfl (by kernel_rfl) (by kernel_rfl) (by kernel_rfl) (fun _ _ _ h => h) (sure_yes (by rfl) (fun w => by go_simp; try with_reducible rfl)) hHeld ?_
  simp only [List.setIfInBounds_toArray, List.set_cons_zero, List.set_cons_succ]
  refine take_at (i := 1) 47 rfl rfl (by kernel_rfl) (by kernel_rfl) (by kernel_rfl) (fun _ _ _ h => h) (sure_yes (by rfl) (fun w => by go_simp; try with_reducible rfl)) hHeld ?_
  simp only [List.setIfInBounds_toArray, List.set_cons_zero, List.set_cons_succ]
  refine take_at (i := 2) 48 rfl rfl (by kernel_rfl) (by kernel_rfl) (by kernel_rfl) (fun _ _ _ h => h) (sure_yes (by rfl) (fun w => by go_simp; try with_reducible rfl)) hHeld ?_
  simp only [List.setIfInBounds_toArray, List.set_cons_zero, List.set_cons_succ]
  refine take_at (i := 3) 49 rfl rfl (by kernel_rfl) (by kernel_rfl) (by kernel_rfl) (fun _ _ _ h => h) (sure_yes (by rfl) (fun w => by go_simp; try with_reducible rfl)) hHeld ?_
  simp only [List.setIfInBounds_toArray, List.set_cons_zero, List.set_cons_succ]
  refine take_at (i := 4) 50 rfl rfl (by kernel_rfl) (by kernel_rfl) (by kernel_rfl) (fun _ _ _ h => h) (sure_yes (by rfl) (fun w => by go_simp; try with_reducible rfl)) hHeld ?_
  simp only [List.setIfInBounds_toArray, List.set_cons_zero, List.set_cons_succ]
  refine take_at (i := 5) 51 rfl rfl (by kernel_rfl) (by kernel_rfl) (by kernel_rfl) (fun _ _ _ h => h) (sure_yes (by rfl) (fun w => by go_simp; try with_reducible rfl)) hHeld ?_
  simp only [List.setIfInBounds_toArray, List.set_cons_zero, List.set_cons_succ]
  refine take_at (i := 6) 52 rfl rfl (by kernel_rfl) (by kernel_rfl) (by kernel_rfl) (fun _ _ _ h => h) (sure_yes (by rfl) (fun w => by go_simp; try with_reducible rfl)) hHeld ?_
  simp only [List.setIfInBounds_toArray, List.set_cons_zero, List.set_cons_succ]
  refine take_at (i := 7) 53 rfl rfl (by kernel_rfl) (by kernel_rfl) (by kernel_rfl) (fun _ _ _ h => h) (sure_yes (by rfl) (fun w => by go_simp; try with_reducible rfl)) hHeld ?_
  simp only [List.setIfInBounds_toArray, List.set_cons_zero, List.set_cons_succ]
  refine wpAnyH_ready (rs := [8]) (by kernel_rfl) (by simp) ?_
  refine AllReadyH.cons rfl (fun CONT hCONT => ?_) AllReadyH.nil
  rw [if_pos (by rfl)]
  refine wp_copy_runI _ (.tmp 50) (.tmp 53) 24 24 rfl _ _ rfl rfl (HCPB.out _ _ _ _ _ (HM1.out _ _ (by first | rfl | omega) (by first | rfl | omega))) ?_
  refine hCONT.out _ _ trivial (fun hHeld => ?_)
  clear hCONT CONT
  refine wpAnyH_done (by kernel_rfl) ?_ _
  go_wp2
  go_ret
  obtain ⟨h1, h2⟩ := HFIN.out
  exact ⟨_, rfl, by simpa using h1, h2⟩
theorem insert_any (B : Nat) (us : List (Ev × Value)) (hl : us.length ≤ 50000) (v : Value) (i : Nat) (hi : i ≤ us.length) (N : Nat) (e : Ev) (u : Value) (hu1 : u.oneCell' = true) (w : World) (hown : w.ownsRow B 36 38 v us.length (evsC us)) (hone : ∀ x ∈ us, x.2.oneCell' = true)
    (hN : EvAt w N 36 e u) (hNB : ∀ b, v.ownBlock = some b → b ≠ N) (hB : B ≤ w.heap.size) : Calls Tryd.prog 66 #[v, .int .i64 (i : Int), .slice (some ⟨N, 0, none⟩) 1 1] w fun x w' => ∃ y, x = .returned y ∧ w'.ownsRow B 36 38 y (us.take i ++ (e, u) :: us.drop i).length (evsC (us.take i ++ (e, u) :: us.drop i)) ∧ Below B w w' := by
  by_cases hin : i = us.length
  · have h := insert_end B us hl v us.length rfl N e u hu1 w hown hN hB
    rw [hin, List.take_length, List.drop_length]; exact h
  · obtain ⟨g, cap, rfl, h1, h2⟩ := hown.form (show 0 < us.length by omega)
    by_cases hroom : us.length + 1 ≤ cap
    · exact insert_room B us hl us.length i g cap rfl (by omega) N e u hu1 w hown hone hN (hNB g rfl) hroom
    · exact insert_grow B us hl us.length i g cap rfl (by omega) N e u hu1 w hown hone hN hB hroom
end Go.Proofs.YthkojphgjlojgaaDoor
namespace Go.Proofs.YthkojphgjlojgaaDoor
open Go.RowKit
theorem own_mono {w : World} {base base' : Nat} {e : TypeId} {size : Nat} {v : Value} {n : Nat} {xs : List Value} (h : w.ownsRow base e size v n xs) (hb : base' ≤ base) : w.ownsRow base' e size v n xs := by
  refine ⟨h.1, ?_⟩
  rcases h.2 with h0 | ⟨b, cap, cur, rfl, h1, rest⟩
  · exact .inl h0
  · exact .inr ⟨b, cap, cur, rfl, Nat.le_trans hb h1, rest⟩
theorem map_filter_fst (us : List (Ev × Value)) (p : Ev → Bool) : (us.filter fun z => p z.1).map (·.1) = (us.map (·.1)).filter p := by
  induction us with
  | nil => rfl
  | cons x t ih => rw [List.filter_cons, List.map_cons, List.filter_cons]; cases p x.1 <;> simp [ih]
theorem place_idx (l : List Ev) (e : Ev) : (idxP (aboveE e) l = (placeE l e : Int) ∧ 0 ≤ idxP (aboveE e) l) ∨ (idxP (aboveE e) l = -1 ∧ placeE l e = l.length) := by
  unfold idxP placeE
  cases h : l.any (aboveE e) with
  | true => exact .inl ⟨by rw [if_pos rfl], by rw [if_pos rfl]; omega⟩
  | false =>
    refine .inr ⟨by simp, ?_⟩
    rw [List.findIdx_eq_length]
    intro x hx
    have := List.any_eq_false.1 h x hx
    simpa using this
theorem place_le (l : List Ev) (e : Ev) : placeE l e ≤ l.length := List.findIdx_le_length
theorem ins_map (fs : List (Ev × Value)) (e : Ev) (u : Value) (p : Nat) (hp : p = placeE (fs.map (·.1)) e) : (fs.take p ++ (e, u) :: fs.drop p).map (·.1) = insE (fs.map (·.1)) e := by
  rw [insE_place, ← hp, List.map_append, List.map_cons, List.map_take, List.map_drop]
set_option maxRecDepth 100000 in
set_option maxHeartbeats 16000000 in
theorem added_any (us : List (Ev × Value)) (hl : us.length ≤ 40000) (hf : FitU us) (e : Ev) (hfe : FitE e) (v u : Value) (w : World) (hv : HoldsU w v us) (hd : DepsU w us) (hu : HasDots w u e.deps) : Calls Tryd.prog 35 #[v, .agg (evC e u)] w fun x w' => ∃ y us', x = .returned y ∧ us'.map (·.1) = addE (us.map (·.1)) e ∧ (∀ z ∈ us', z ∈ us ∨ z = (e, u)) ∧ (y = v ∧ us' = us ∨ w'.ownsRow w.heap.size 36 38 y us'.length (evsC us')) ∧ HoldsU w' y us' ∧ Below w.heap.size w w' := by
  have E0 := Lib.hid (box_ev w 36 e u)
  have B0 := Lib.hid ((Below.refl w.heap.size w).alloc (Nat.le_refl _) (.cells (evC e u) 36 (0, 0)))
  have HV := Lib.hid hv
  have HD := Lib.hid hd
  have HU := Lib.hid hu
  have HF := Lib.hid hf
  have HFE := Lib.hid hfe
  have HL := Lib.hid hl
  obtain ⟨n, hn⟩ : ∃ n, n = us.length := ⟨_, rfl⟩
  obtain ⟨vo, vc, hvs⟩ := holdsU_shape hv n hn
  obtain ⟨uo, uc, hus⟩ := dots_shape hu _ rfl
  obtain ⟨un, hun⟩ : ∃ m, m = e.deps.length := ⟨_, rfl⟩
  rw [← hun] at hus
  subst hvs
  subst hus
  have e1 : ∀ args w, (callFunc 62 args).run Tryd.prog w = .ok (.enter 62 args) w := (enters_of Tryd.func62 (by kernel_rfl) rfl)
  have e2 : ∀ args w, (callFunc 63 args).run Tryd.prog w = .ok (.enter 63 args) w := (enters_of Tryd.func63 (by kernel_rfl) rfl)
  have e3 : ∀ args w, (callFunc 65 args).run Tryd.prog w = .ok (.enter 65 args) w := (enters_of Tryd.func65 (by kernel_rfl) rfl)
  clear hv hd hu hf hfe hl hn hun
  go_enter Tryd.func35, Tryd.ntmps35
  go_upto_region 1 with fail
  generalize w.alloc (.cells (evC e (.slice uo un uc)) 36 (0, 0)) = W0 at *
  have T1 := Lib.hid (show Tells 62 #[.pointer (some ⟨w.heap.size, 0, none⟩)] (hitE e) us W0 from fun x hx W hW => by
    show Calls _ _ #[_, _] _ _
    exact hit_any e x.1 (HF.out x hx).2.2.1 _ x.2 w.heap.size W (evAt_kept E0.out hW) (dots_below (HD.out x hx) (below_next B0.out hW)))
  have T2 := Lib.hid (show Tells 63 #[.pointer (some ⟨w.heap.size, 0, none⟩)] (outE e) us W0 from fun x hx W hW => by
    show Calls _ _ #[_, _] _ _
    exact out_any e x.1 HFE.out.2.2.1 _ x.2 w.heap.size W (evAt_kept E0.out hW) (dots_below HU.out (below_next B0.out hW)))
  have T3 := Lib.hid (show ∀ fs : List (Ev × Value), (∀ x ∈ fs, x ∈ us) → Tells 65 #[.pointer (some ⟨w.heap.size, 0, none⟩)] (aboveE e) fs W0 from fun fs hfs x hx W hW => by
    show Calls _ _ #[_, _] _ _
    have h := HF.out x (hfs x hx)
    exact above_any e x.1 HFE.out.1 HFE.out.2.1 h.1 h.2.1 _ x.2 w.heap.size W (evAt_kept E0.out hW))
  have CF := Lib.hid (contains_any 62 #[.pointer (some ⟨w.heap.size, 0, none⟩)] e1 (hitE e) us (Nat.le_trans HL.out (by decide)) (.slice vo n vc) W0 (holdsU_below HV.out B0.out) T1.out)
  cases hh : (us.map (·.1)).any (hitE e) with
  | true =>
    have HR := Lib.hid (addE_hit hh)
    rw [hh] at CF
    clear hh
    go_wp2_with (first
      | (go_at_call 61; refine CF.out.mono ?_; rintro x w1 ⟨rfl, hb⟩; have B1 := Lib.hid (below_next B0.out hb); clear hb))
    go_ret
    exact ⟨_, us, rfl, HR.out.symm, fun z hz => .inl hz, .inl ⟨rfl, rfl⟩, holdsU_below HV.out B1.out, B1.out⟩
  | false =>
    have HR := Lib.hid (addE_no hh)
    rw [hh] at CF
    clear hh
    go_upto_region 3 with (first
      | (go_at_call 61; refine CF.out.mono ?_; rintro x w1 ⟨rfl, hb⟩; have B1 := Lib.hid (below_next B0.out hb); have C1 := Lib.hid hb; clear hb))
    have WO := Lib.hid (without_any 63 #[.pointer (some ⟨w.heap.size, 0, none⟩)] e2 (outE e) us (Nat.le_trans HL.out (by decide)) (.slice vo n vc) w1 (holdsU_below HV.out B1.out) (depsU_below HD.out B1.out) (tells_below T2.out C1.out))
    have HMF := Lib.hid (map_filter_fst us (fun z => !outE e z))
    have HSUB := Lib.hid (show ∀ x ∈ us.filter (fun z => !outE e z.1), x ∈ us from fun x hx => (List.mem_filter.1 hx).1)
    have HFL := Lib.hid (show (us.filter (fun z => !outE e z.1)).length ≤ 40000 from Nat.le_trans (List.length_filter_le _ _) HL.out)
    generalize us.filter (fun z => !outE e z.1) = fs at WO HMF HSUB HFL
    go_upto_region 4 with (first
      | (go_at_call 37; refine WO.out.mono ?_; rintro x w2 ⟨y, rfl, ho, hb⟩; have B2 := Lib.hid (below_next B1.out hb); have C2 := Lib.hid (below_next C1.out hb); have O2 := Lib.hid (own_mono ho B1.out.size); clear ho hb))
    have IXF := Lib.hid (fun v hv => index_any 65 #[.pointer (some ⟨w.heap.size, 0, none⟩)] e3 (aboveE e) fs (Nat.le_trans HFL.out (by decide)) v w2 hv (tells_below (T3.out fs HSUB.out) C2.out))
    obtain ⟨yo, yc, hys⟩ := own_slice O2.out
    subst hys
    have HPL := Lib.hid (place_idx (fs.map (·.1)) e)
    have HPE := Lib.hid (place_le (fs.map (·.1)) e)
    have HIM := Lib.hid (fun p hp => ins_map fs e (.slice uo un uc) p hp)
    have HONE := Lib.hid (show ∀ x ∈ fs, x.2.oneCell' = true from fun x hx => depsU_one HD.out x (HSUB.out x hx))
    have hfn5 : fs.length ≤ 40000 := HFL.out
    obtain ⟨p, hp⟩ : ∃ p, p = placeE (fs.map (·.1)) e := ⟨_, rfl⟩
    obtain ⟨r, hr⟩ : ∃ r, r = idxP (aboveE e) (fs.map (·.1)) := ⟨_, rfl⟩
    rw [← hp, ← hr] at HPL
    rw [← hp] at HPE
    rw [← hr] at IXF
    have HPP := Lib.hid hp
    have HFM := Lib.hid (show (fs.map (·.1)).length = fs.length by rw [List.length_map])
    clear hp hr
    have hcase : (r = (p : Int) ∧ 0 ≤ r) ∨ (r = -1 ∧ p = fs.length) := by rw [← HFM.out]; exact HPL.out
    have hple : p ≤ fs.length := by rw [← HFM.out]; exact HPE.out
    rcases hcase with ⟨rfl, h0⟩ | ⟨rfl, rfl⟩
    · have hd0 : decide ((p : Int) < 0) = false := decide_eq_false (by omega)
      clear h0
      go_upto_region 7 with (first
        | (go_at_call 64; refine (IXF.out _ (holdsU_own O2.out)).mono ?_; rintro x w3 ⟨rfl, hb⟩; have B3 := Lib.hid (below_next B2.out hb); have C3 := Lib.hid (below_next C2.out hb); have O3 := Lib.hid (own_belowM O2.out hb); clear hb))
      have E3 := Lib.hid (evAt_kept E0.out C3.out)
      obtain ⟨N9, hN9⟩ : ∃ N, w3.heap.size = N := ⟨_, rfl⟩
      have HN9 := Lib.hid hN9
      have HOB := Lib.hid (own_blockM O3.out)
      clear hN9
      go_wp2_with (first
        | (refine load_ev_on (by rfl) 36 (.tmp 3) rfl w.heap.size rfl E3.out Tryd.underlying36 evSize ?_)
        | (refine build_evM rfl 24 rfl (.tmp 23) rfl N9 HN9.out e uo un uc rfl ?_; rintro wA hEA hBA hNA; have EA := Lib.hid hEA; have BA := Lib.hid (below_next B3.out hBA); have OA := Lib.hid (own_belowM O3.out hBA); clear hEA hBA hNA)
        | (go_at_call 66; refine (insert_any w.heap.size fs (Nat.le_trans HFL.out (by decide)) _ p (by omega) N9 e (.slice uo un uc) rfl wA OA.out HONE.out EA.out (fun b hb => by have := (HOB.out b hb).2.1; have := HN9.out; omega) BA.out.size).mono ?_; rintro x w5 ⟨y5, rfl, hown, hb⟩; have O5 := Lib.hid hown; have B5 := Lib.hid (BA.out.trans hb); clear hown hb))
      go_ret
      refine ⟨_, fs.take p ++ (e, .slice uo un uc) :: fs.drop p, rfl, ?_, fun z hz => ?_, .inr O5.out, holdsU_own O5.out, B5.out⟩
      · rw [HIM.out p HPP.out, HMF.out]; exact HR.out.symm
      · rcases List.mem_append.1 hz with hz | hz
        · exact .inl (HSUB.out z (List.mem_of_mem_take hz))
        · rcases List.mem_cons.1 hz with hz | hz
          · exact .inr hz
          · exact .inl (HSUB.out z (List.mem_of_mem_drop hz))
    · go_upto_region 7 with (first
        | (go_at_call 64; refine (IXF.out _ (holdsU_own O2.out)).mono ?_; rintro x w3 ⟨rfl, hb⟩; have B3 := Lib.hid (below_next B2.out hb); have C3 := Lib.hid (below_next C2.out hb); have O3 := Lib.hid (own_belowM O2.out hb); clear hb))
      have E3 := Lib.hid (evAt_kept E0.out C3.out)
      obtain ⟨N9, hN9⟩ : ∃ N, w3.heap.size = N := ⟨_, rfl⟩
      have HN9 := Lib.hid hN9
      have HOB := Lib.hid (own_blockM O3.out)
      clear hN9
      go_wp2_with (first
        | (refine load_ev_on (by rfl) 36 (.tmp 3) rfl w.heap.size rfl E3.out Tryd.underlying36 evSize ?_)
        | (refine build_evM rfl 24 rfl (.tmp 23) rfl N9 HN9.out e uo un uc rfl ?_; rintro wA hEA hBA hNA; have EA := Lib.hid hEA; have BA := Lib.hid (below_next B3.out hBA); have OA := Lib.hid (own_belowM O3.out hBA); clear hEA hBA hNA)
        | (go_at_call 66; refine (insert_any w.heap.size fs (Nat.le_trans HFL.out (by decide)) _ fs.length (by omega) N9 e (.slice uo un uc) rfl wA OA.out HONE.out EA.out (fun b hb => by have := (HOB.out b hb).2.1; have := HN9.out; omega) BA.out.size).mono ?_; rintro x w5 ⟨y5, rfl, hown, hb⟩; have O5 := Lib.hid hown; have B5 := Lib.hid (BA.out.trans hb); clear hown hb))
      go_ret
      refine ⟨_, fs.take fs.length ++ (e, .slice uo un uc) :: fs.drop fs.length, rfl, ?_, fun z hz => ?_, .inr O5.out, holdsU_own O5.out, B5.out⟩
      · rw [HIM.out fs.length HPP.out, HMF.out]; exact HR.out.symm
      · rcases List.mem_append.1 hz with hz | hz
        · exact .inl (HSUB.out z (List.mem_of_mem_take hz))
        · rcases List.mem_cons.1 hz with hz | hz
          · exact .inr hz
          · exact .inl (HSUB.out z (List.mem_of_mem_drop hz))
set_option maxRecDepth 100000 in
set_option maxHeartbeats 16000000 in
theorem add_any (us : List (Ev × Value)) (hl : us.length ≤ 40000) (hf : FitU us) (e : Ev) (hfe : FitE e) (v u : Value) (w : World) (hv : HoldsU w v us) (hd : DepsU w us) (hu : HasDots w u e.deps) : Calls Tryd.prog 14 #[v, .agg (evC e u)] w fun x w' => ∃ y, x = .returned y ∧ HasEvs w' y (addE (us.map (·.1)) e) ∧ Below w.heap.size w w' := by
  have E0 := Lib.hid (box_ev w 36 e u)
  have h0 := (Below.refl w.heap.size w).alloc (Nat.le_refl _) (.cells (evC e u) 36 (0, 0))
  have B0 := Lib.hid h0
  have AD := Lib.hid (added_any us hl hf e hfe v u _ (holdsU_below hv h0) (depsU_below hd h0) (dots_below hu h0))
  have HD := Lib.hid hd
  have HU := Lib.hid hu
  have HL := Lib.hid (show ∀ us' : List (Ev × Value), us'.map (·.1) = addE (us.map (·.1)) e → us'.length ≤ 50000 from fun us' h => by
    have h1 := congrArg List.length h
    have h2 := addE_len (us.map (·.1)) e
    rw [List.length_map] at h1 h2; omega)
  have HF := Lib.hid (show ∀ us' : List (Ev × Value), (∀ z ∈ us', z ∈ us ∨ z = (e, u)) → ∀ x ∈ us', x.1.deps.length < 2000000 from fun us' h x hx => by
    rcases h x hx with h1 | h1
    · exact (hf x h1).2.2.1
    · rw [h1]; exact hfe.2.2.1)
  obtain ⟨vo, vc, hvs⟩ := holdsU_shape hv _ rfl
  subst hvs
  clear hl hf hfe hv hd hu h0
  go_enter Tryd.func14, Tryd.ntmps14
  go_upto_region 1 with fail
  generalize w.alloc (.cells (evC e u) 36 (0, 0)) = W0 at *
  go_wp2_with (first
    | (refine load_ev_on (by rfl) 36 (.tmp 3) rfl w.heap.size rfl E0.out Tryd.underlying36 evSize ?_)
    | (go_at_call 35; refine AD.out.mono ?_; rintro x w1 ⟨y, us', rfl, hm, hs, -, hh, hb⟩; have B1 := Lib.hid (below_next B0.out hb); have HM := Lib.hid hm; have HS := Lib.hid hs; have HH := Lib.hid hh; clear hm hs hh hb)
    | (go_at_call 34; refine (copied_any us' (HL.out us' HM.out) (HF.out us' HS.out) y w1 HH.out (fun x hx => by
        rcases HS.out x hx with h1 | h1
        · exact dots_below (HD.out x h1) B1.out
        · rw [h1]; exact dots_below HU.out B1.out)).mono ?_; rintro x w2 ⟨z, rfl, he, hb⟩; have B2 := Lib.hid (below_next B1.out hb); have HE := Lib.hid he; clear he hb))
  go_ret
  exact ⟨_, rfl, by rw [← HM.out]; exact HE.out, B2.out⟩
set_option maxRecDepth 100000 in
set_option maxHeartbeats 16000000 in
theorem drop_any (us : List (Ev × Value)) (hl : us.length ≤ 40000) (hf : ∀ x ∈ us, x.1.deps.length < 2000000) (k : List D2) (hk : k.length < 2000000) (v u : Value) (w : World) (hv : HoldsU w v us) (hd : DepsU w us) (hu : HasDots w u k) : Calls Tryd.prog 19 #[v, u] w fun x w' => ∃ y, x = .returned y ∧ HasEvs w' y ((us.map (·.1)).filter fun e => !(decide (e.kind = 2) && hasV k e.r e.q)) ∧ Below w.heap.size w w' := by
  have h0 := (Below.refl w.heap.size w).alloc (Nat.le_refl _) (.cells #[u] 26 (0, 0))
  have B0 := Lib.hid h0
  have E0 := Lib.hid (heap_last w (.cells #[u] 26 (0, 0)))
  have HV := Lib.hid (holdsU_below hv h0)
  have HD := Lib.hid hd
  have HU := Lib.hid hu
  have HL := Lib.hid hl
  have HF := Lib.hid hf
  have HK := Lib.hid hk
  obtain ⟨vo, vc, hvs⟩ := holdsU_shape hv _ rfl
  obtain ⟨uo, uc, hus⟩ := dots_shape hu _ rfl
  subst hvs
  subst hus
  have e1 : ∀ args w, (callFunc 42 args).run Tryd.prog w = .ok (.enter 42 args) w := (enters_of Tryd.func42 (by kernel_rfl) rfl)
  clear hl hf hk hv hd hu h0
  go_enter Tryd.func19, Tryd.ntmps19
  go_upto_region 1 with fail
  generalize w.alloc (.cells #[.slice uo k.length uc] 26 (0, 0)) = W0 at *
  have WO := Lib.hid (without_any 42 #[.pointer (some ⟨w.heap.size, 0, none⟩)] e1 (fun e => decide (e.kind = 2) && hasV k e.r e.q) us (Nat.le_trans HL.out (by decide)) (.slice vo us.length vc) W0 HV.out (depsU_below HD.out B0.out) (fun x hx W hW => by
    show Calls _ _ #[_, _] _ _
    exact gone_any k HK.out x.1 _ x.2 w.heap.size W (row_kept E0.out hW) (dots_below HU.out (below_next B0.out hW))))
  have HMF := Lib.hid (map_filter_fst us (fun e => !(decide (e.kind = 2) && hasV k e.r e.q)))
  have HSUB := Lib.hid (show ∀ x ∈ us.filter (fun z => !(decide (z.1.kind = 2) && hasV k z.1.r z.1.q)), x ∈ us from fun x hx => (List.mem_filter.1 hx).1)
  have HFL := Lib.hid (show (us.filter (fun z => !(decide (z.1.kind = 2) && hasV k z.1.r z.1.q))).length ≤ 40000 from Nat.le_trans (List.length_filter_le _ _) HL.out)
  generalize us.filter (fun z => !(decide (z.1.kind = 2) && hasV k z.1.r z.1.q)) = fs at WO HMF HSUB HFL
  go_wp2_with (first
    | (go_at_call 37; refine WO.out.mono ?_; rintro x w2 ⟨y, rfl, ho, hb⟩; have B2 := Lib.hid (below_next B0.out hb); have O2 := Lib.hid ho; clear ho hb)
    | (go_at_call 34; refine (copied_any fs (Nat.le_trans HFL.out (by decide)) (fun x hx => HF.out x (HSUB.out x hx)) y w2 (holdsU_own O2.out) (fun x hx => dots_below (HD.out x (HSUB.out x hx)) B2.out)).mono ?_; rintro x w3 ⟨z, rfl, he, hb⟩; have B3 := Lib.hid (below_next B2.out hb); have HE := Lib.hid he; clear he hb))
  go_ret
  exact ⟨_, rfl, by rw [← HMF.out]; exact HE.out, B3.out⟩
end Go.Proofs.YthkojphgjlojgaaDoor
namespace Go.Proofs.YthkojphgjlojgaaDoor
open Go.RowKit
/-- A deed's cells. -/
def deedC (d : DeedT) : List Value := [.int .u8 (d.who : Int), .int .u8 (d.other : Int), .int .u8 (d.path : Int), .bool d.learns, .bool d.gone, .int .u8 (d.size : Int)]
/-- A slice value whose elements are these deeds. -/
def HasDeeds (w : World) (v : Value) (l : List DeedT) : Prop :=
  ∃ ao cap, v = .slice ao l.length cap ∧ (ao = none → l = [] ∧ cap = 0) ∧ ∀ ad, ao = some ad → l.length ≤ cap ∧ ∀ i d, l[i]? = some d → ∀ j u, (deedC d)[j]? = some u → w.cell? (ad.add (i * 6 + j)) = some u
theorem deeds_nil (w : World) : HasDeeds w (.slice none 0 0) [] := ⟨none, 0, rfl, fun _ => ⟨rfl, rfl⟩, fun _ h => by cases h⟩
theorem deeds_below {w w' : World} {v : Value} {l : List DeedT} (h : HasDeeds w v l) (hb : Below w.heap.size w w') : HasDeeds w' v l := by
  obtain ⟨ao, cap, rfl, hnil, hc⟩ := h
  refine ⟨ao, cap, rfl, hnil, fun ad had => ⟨(hc ad had).1, fun i d hi j u hu => ?_⟩⟩
  have h1 := (hc ad had).2 i d hi j u hu
  exact (World.cell?_of_block (hb.block (ad.add (i * 6 + j)).block (World.block_lt_of_cell? w _ h1))).trans h1
theorem deeds_shape {w : World} {v : Value} {l : List DeedT} (h : HasDeeds w v l) (n : Nat) (hn : n = l.length) : ∃ ao cap, v = .slice ao n cap := by
  obtain ⟨ao, cap, rfl, -⟩ := h
  exact ⟨ao, cap, by rw [hn]⟩
end Go.Proofs.YthkojphgjlojgaaDoor
namespace Go.Proofs.YthkojphgjlojgaaDoor
open Go.RowKit
theorem refOf_VT (f : Nat → Int) (w : World) : Calls Tryd.prog 50 #[numsV 32 f] w fun e w' => ∃ v, e = .returned v ∧ TypDots w' v (ofV f) ∧ Below w.heap.size w w' := refOf_typ f w
set_option maxRecDepth 100000 in
set_option maxHeartbeats 16000000 in
theorem refWith_typ10 (l : List D2) (hl : l.length < 2000000) (r q : Int) (v : Value) (w : World) (hv : HasDots w v l) : Calls Tryd.prog 26 #[v, .agg #[.int .i64 r, .int .i64 q]] w fun e w' => ∃ u, e = .returned u ∧ TypDots w' u (withV l r q) ∧ Below w.heap.size w w' := by
  have HV := Lib.hid hv
  have MY := Lib.hid (fun w => refMay_any9 r q w)
  have A1 := Lib.hid (fun w v hv => refAll_V l hl v w hv)
  have O1 := Lib.hid (fun w => refOf_VT (withN l r q) w)
  have E0 := Lib.hid (show (w.alloc (.cells #[.int .i64 r, .int .i64 q] 32 (0, 0))).heap[w.heap.size]? = some (.cells #[.int .i64 r, .int .i64 q] 32 (0, 0)) from one_box w r q)
  have B0 := Lib.hid ((Below.refl w.heap.size w).alloc (Nat.le_refl _) (.cells #[.int .i64 r, .int .i64 q] 32 (0, 0)))
  have L0 := Lib.hid (show w.heap.size < (w.alloc (.cells #[.int .i64 r, .int .i64 q] 32 (0, 0))).heap.size by simp)
  obtain ⟨ao, cap, rfl⟩ := dots_shape hv l.length rfl
  obtain ⟨n, hn⟩ : ∃ n, n = l.length := ⟨_, rfl⟩
  rw [← hn] at HV ⊢
  clear hv hl hn
  go_enter Tryd.func26, Tryd.ntmps26
  go_upto_region 1 with fail
  generalize w.alloc (.cells #[.int .i64 r, .int .i64 q] 32 (0, 0)) = W0 at *
  go_upto_region 2 with (first
    | (go_at_call 49; refine (A1.out W0 _ (dots_below HV.out B0.out)).mono ?_; rintro e w1 ⟨rfl, hb⟩; have E1 := Lib.hid (row_kept E0.out hb); have B1 := Lib.hid (below_next B0.out hb); have L1 := Lib.hid (show w.heap.size < w1.heap.size from Nat.lt_of_lt_of_le L0.out hb.size); clear hb)
    | (refine alloc_as rfl 74 rfl _ zero32 ?_)
    | (refine store_new rfl 74 (.tmp 5) (.tmp 7) rfl rfl w1 _ (nums 32 (allV l)) 74 rfl rfl rfl (by rw [nums_size]; kernel_rfl) (by rw [nums_size, nums_size]) (nums_one _ _) ?_; intro w2 hg2 hb2 hs2; have HG := Lib.hid hg2; have E2 := Lib.hid (row_kept E1.out hb2); have B2 := Lib.hid (below_next B1.out hb2); have LG := Lib.hid (And.intro L1.out hs2); clear hg2 hb2 hs2))
  obtain ⟨c0, c1⟩ := dot_cells (show _ = some (dotO r q) from E2.out)
  have C0 := Lib.hid c0
  have C1 := Lib.hid c1
  clear c0 c1 E0 E1 B0 B1 L0 L1
  generalize w1.heap.size = G at *
  cases hm : mayD r q with
  | false =>
    rw [hm] at MY
    have HS := Lib.hid (show nums 32 (allV l) = nums 32 (withN l r q) from nums_congr _ _ _ fun i _ => by
      rw [withN, if_neg (fun h => by rw [hm] at h; exact absurd h.1 (by decide))])
    rw [HS.out] at HG
    clear hm HS
    refine wp_region_held_drew (S := fun w' => Below w2.heap.size w2 w') (by kernel_rfl) (drawS (Below.refl _ _)) (fun hHeld => ?_)
    generalize w2.drew = wd at hHeld ⊢
    refine take_at (i := 0) 8 rfl rfl (by kernel_rfl) (by kernel_rfl) (by kernel_rfl) (fun _ _ _ h => h) (row_yields (by rfl) 32 (.tmp 3) rfl w.heap.size rfl 32 _ (0, 0) _ Tryd.underlying32 rfl (by kernel_rfl) (fun _ h => row_kept E2.out h)) hHeld ?_
    simp only [List.setIfInBounds_toArray, List.set_cons_zero, List.set_cons_succ]
    refine wpAnyH_ready (rs := [1]) (by kernel_rfl) (by simp) ?_
    refine AllReadyH.cons rfl (fun K hK => ?_) AllReadyH.nil
    go_simp
    go_at_call 51
    refine (MY.out _).mono ?_
    rintro e w6 ⟨rfl, hb⟩
    dsimp only
    refine hK.out _ _ (below_next hHeld hb) (fun hHeld => ?_)
    clear hK K hb
    refine take_at (i := 2) 10 rfl rfl (by kernel_rfl) (by kernel_rfl) (by kernel_rfl) (fun _ _ _ h => h) (sure_yes (by rfl) (fun w => by go_simp; try with_reducible rfl)) hHeld ?_
    simp only [List.setIfInBounds_toArray, List.set_cons_zero, List.set_cons_succ]
    refine take_at (i := 3) 11 rfl rfl (by kernel_rfl) (by kernel_rfl) (by kernel_rfl) (fun _ _ _ h => h) (.inr ⟨by rfl, rfl⟩) hHeld ?_
    simp only [List.setIfInBounds_toArray, List.set_cons_zero, List.set_cons_succ]
    refine take_at (i := 4) 12 rfl rfl (by kernel_rfl) (by kernel_rfl) (by kernel_rfl) (fun _ _ _ h => h) (.inr ⟨by rfl, rfl⟩) hHeld ?_
    simp only [List.setIfInBounds_toArray, List.set_cons_zero, List.set_cons_succ]
    refine take_at (i := 5) 13 rfl rfl (by kernel_rfl) (by kernel_rfl) (by kernel_rfl) (fun _ _ _ h => h) (.inr ⟨by rfl, rfl⟩) hHeld ?_
    simp only [List.setIfInBounds_toArray, List.set_cons_zero, List.set_cons_succ]
    refine take_at (i := 6) 14 rfl rfl (by kernel_rfl) (by kernel_rfl) (by kernel_rfl) (fun _ _ _ h => h) (.inr ⟨by rfl, rfl⟩) hHeld ?_
    simp only [List.setIfInBounds_toArray, List.set_cons_zero, List.set_cons_succ]
    refine take_at (i := 7) 15 rfl rfl (by kernel_rfl) (by kernel_rfl) (by kernel_rfl) (fun _ _ _ h => h) (.inr ⟨by rfl, rfl⟩) hHeld ?_
    simp only [List.setIfInBounds_toArray, List.set_cons_zero, List.set_cons_succ]
    refine take_at (i := 8) 16 rfl rfl (by kernel_rfl) (by kernel_rfl) (by kernel_rfl) (fun _ _ _ h => h) (.inr ⟨by rfl, rfl⟩) hHeld ?_
    simp only [List.setIfInBounds_toArray, List.set_cons_zero, List.set_cons_succ]
    refine take_at (i := 9) 17 rfl rfl (by kernel_rfl) (by kernel_rfl) (by kernel_rfl) (fun _ _ _ h => h) (.inr ⟨by rfl, rfl⟩) hHeld ?_
    simp only [List.setIfInBounds_toArray, List.set_cons_zero, List.set_cons_succ]
    refine take_at (i := 10) 18 rfl rfl (by kernel_rfl) (by kernel_rfl) (by kernel_rfl) (fun _ _ _ h => h) (sure_yes (by rfl) (fun w => by go_simp; try with_reducible rfl)) hHeld ?_
    simp only [List.setIfInBounds_toArray, List.set_cons_zero, List.set_cons_succ]
    refine wpAnyH_done (by kernel_rfl) ?_ _
    have HG6 := Lib.hid (row_kept HG.out hHeld)
    have B6 := Lib.hid (below_next B2.out hHeld)
    go_wp2_with (first
      | (refine wpList_load_row rfl 74 (.tmp 5) rfl G rfl 74 _ (0, 0) _ HG6.out Tryd.underlying74 rfl (by rw [nums_size]; kernel_rfl) ?_)
      | (go_at_call 50; refine (O1.out _).mono ?_; rintro e w8 ⟨u, rfl, hu, hb⟩; have HU := Lib.hid hu; have B8 := Lib.hid (below_next B6.out hb); clear hu hb))
    go_ret
    exact ⟨_, rfl, HU.out, B8.out⟩
  | true =>
    rw [hm] at MY
    have hb := mayT_bd (d := (r, q)) hm
    simp only at hb
    obtain ⟨i, hi⟩ : ∃ i : Nat, r = (i : Int) := ⟨r.toNat, by omega⟩
    subst hi
    have hi32 : i < 32 := by omega
    have qi : (i : Int) < 32 := by omega
    obtain ⟨m, hme⟩ : ∃ m, m = allV l i := ⟨_, rfl⟩
    have CM := Lib.hid (show w2.cell? ⟨G, i, none⟩ = some (.int .i64 m) by rw [hme]; exact nums_cell HG.out i hi32)
    by_cases hgt : m < q
    · have d1 : decide (q > m) = true := decide_eq_true hgt
      have HS := Lib.hid (show (nums 32 (allV l)).setIfInBounds i (.int .i64 q) = nums 32 (withN l (i : Int) q) from nums_set _ _ _ _ _ fun j _ => by
        rw [withN]
        by_cases hj : j = i
        · subst hj; rw [if_pos rfl, if_pos ⟨hm, rfl, by rw [← hme]; exact hgt⟩]
        · rw [if_neg hj, if_neg (fun h => hj (by have := h.2.1; omega))])
      have HI := Lib.hid hi32
      clear hm hb hgt hme hi32
      refine wp_region_held_drew (S := fun w' => Below w2.heap.size w2 w') (by kernel_rfl) (drawS (Below.refl _ _)) (fun hHeld => ?_)
      generalize w2.drew = wd at hHeld ⊢
      refine take_at (i := 0) 8 rfl rfl (by kernel_rfl) (by kernel_rfl) (by kernel_rfl) (fun _ _ _ h => h) (row_yields (by rfl) 32 (.tmp 3) rfl w.heap.size rfl 32 _ (0, 0) _ Tryd.underlying32 rfl (by kernel_rfl) (fun _ h => row_kept E2.out h)) hHeld ?_
      simp only [List.setIfInBounds_toArray, List.set_cons_zero, List.set_cons_succ]
      refine wpAnyH_ready (rs := [1]) (by kernel_rfl) (by simp) ?_
      refine AllReadyH.cons rfl (fun K hK => ?_) AllReadyH.nil
      go_simp
      go_at_call 51
      refine (MY.out _).mono ?_
      rintro e w6 ⟨rfl, hb⟩
      dsimp only
      refine hK.out _ _ (below_next hHeld hb) (fun hHeld => ?_)
      clear hK K hb
      refine take_at (i := 2) 10 rfl rfl (by kernel_rfl) (by kernel_rfl) (by kernel_rfl) (fun _ _ _ h => h) (sure_yes (by rfl) (fun w => by go_simp; try with_reducible rfl)) hHeld ?_
      simp only [List.setIfInBounds_toArray, List.set_cons_zero, List.set_cons_succ]
      refine take_at (i := 3) 11 rfl rfl (by kernel_rfl) (by kernel_rfl) (by kernel_rfl) (fun _ _ _ h => h) (sure_yes (by rfl) (fun w => by go_simp; try with_reducible rfl)) hHeld ?_
      simp only [List.setIfInBounds_toArray, List.set_cons_zero, List.set_cons_succ]
      refine take_at (i := 5) 13 rfl rfl (by kernel_rfl) (by kernel_rfl) (by kernel_rfl) (fun _ _ _ h => h) (sure_yes (by rfl) (fun w => by go_simp; try with_reducible rfl)) hHeld ?_
      simp only [List.setIfInBounds_toArray, List.set_cons_zero, List.set_cons_succ]
      refine take_at (i := 4) 12 rfl rfl (by kernel_rfl) (by kernel_rfl) (by kernel_rfl) (fun _ _ _ h => h) (cell_yields (by rfl) 2 (.tmp 11) rfl w.heap.size 1 rfl .i64 q Tryd.underlying2 (fun w h => (World.cell?_of_block (h.block _ (World.block_lt_of_cell? _ _ C1.out))).trans C1.out)) hHeld ?_
      simp only [List.setIfInBounds_toArray, List.set_cons_zero, List.set_cons_succ]
      refine take_at (i := 6) 14 rfl rfl (by kernel_rfl) (by kernel_rfl) (by kernel_rfl) (fun _ _ _ h => h) (cell_yields (by rfl) 3 (.tmp 13) rfl w.heap.size 0 rfl .i64 (i : Int) Tryd.underlying3 (fun w h => (World.cell?_of_block (h.block _ (World.block_lt_of_cell? _ _ C0.out))).trans C0.out)) hHeld ?_
      simp only [List.setIfInBounds_toArray, List.set_cons_zero, List.set_cons_succ]
      refine take_at (i := 7) 15 rfl rfl (by kernel_rfl) (by kernel_rfl) (by kernel_rfl) (fun _ _ _ h => h) (sure_yes (by rfl) (fun w => by go_simp; try with_reducible rfl)) hHeld ?_
      simp only [List.setIfInBounds_toArray, List.set_cons_zero, List.set_cons_succ]
      refine take_at (i := 8) 16 rfl rfl (by kernel_rfl) (by kernel_rfl) (by kernel_rfl) (fun _ _ _ h => h) (cell_yields (by rfl) 2 (.tmp 15) rfl G i rfl .i64 m Tryd.underlying2 (fun w h => (World.cell?_of_block (h.block _ (World.block_lt_of_cell? _ _ CM.out))).trans CM.out)) hHeld ?_
      simp only [List.setIfInBounds_toArray, List.set_cons_zero, List.set_cons_succ]
      refine take_at (i := 9) 17 rfl rfl (by kernel_rfl) (by kernel_rfl) (by kernel_rfl) (fun _ _ _ h => h) (sure_yes (by rfl) (fun w => by go_simp; try with_reducible rfl)) hHeld ?_
      simp only [List.setIfInBounds_toArray, List.set_cons_zero, List.set_cons_succ]
      refine take_at (i := 10) 18 rfl rfl (by kernel_rfl) (by kernel_rfl) (by kernel_rfl) (fun _ _ _ h => h) (sure_yes (by rfl) (fun w => by go_simp; try with_reducible rfl)) hHeld ?_
      simp only [List.setIfInBounds_toArray, List.set_cons_zero, List.set_cons_succ]
      refine wpAnyH_done (by kernel_rfl) ?_ _
      have c0 := (World.cell?_of_block (hHeld.block _ (World.block_lt_of_cell? _ _ C0.out))).trans C0.out
      have c1 := (World.cell?_of_block (hHeld.block _ (World.block_lt_of_cell? _ _ C1.out))).trans C1.out
      have HG6 := Lib.hid (row_kept HG.out hHeld)
      have B6 := Lib.hid (below_next B2.out hHeld)
      clear hHeld C0 C1 CM HG
      go_wp2_with (first
        | (refine store_cell rfl 2 (.tmp 23) (.tmp 22) rfl rfl .i64 G i _ q 74 HG6.out rfl rfl (by rw [nums_size]; exact HI.out) (by kernel_rfl) ?_; intro w7 hg7 hs7; rw [HS.out] at hg7; have HG7 := Lib.hid hg7; have B7 := Lib.hid (solo_below B6.out hs7 (Nat.le_of_lt LG.out.1)); clear hg7 hs7)
        | (refine wpList_load_row rfl 74 (.tmp 5) rfl G rfl 74 _ (0, 0) _ HG7.out Tryd.underlying74 rfl (by rw [nums_size]; kernel_rfl) ?_)
        | (go_at_call 50; refine (O1.out _).mono ?_; rintro e w8 ⟨u, rfl, hu, hb⟩; have HU := Lib.hid hu; have B8 := Lib.hid (below_next B7.out hb); clear hu hb))
      go_ret
      exact ⟨_, rfl, HU.out, B8.out⟩
    · have d1 : decide (q > m) = false := decide_eq_false (by omega)
      have HS := Lib.hid (show nums 32 (allV l) = nums 32 (withN l (i : Int) q) from nums_congr _ _ _ fun j _ => by
        rw [withN, if_neg (fun h => by
          obtain rfl : j = i := by have := h.2.1; omega
          rw [← hme] at h; exact hgt h.2.2)])
      clear hm hb hgt hme hi32
      refine wp_region_held_drew (S := fun w' => Below w2.heap.size w2 w') (by kernel_rfl) (drawS (Below.refl _ _)) (fun hHeld => ?_)
      generalize w2.drew = wd at hHeld ⊢
      refine take_at (i := 0) 8 rfl rfl (by kernel_rfl) (by kernel_rfl) (by kernel_rfl) (fun _ _ _ h => h) (row_yields (by rfl) 32 (.tmp 3) rfl w.heap.size rfl 32 _ (0, 0) _ Tryd.underlying32 rfl (by kernel_rfl) (fun _ h => row_kept E2.out h)) hHeld ?_
      simp only [List.setIfInBounds_toArray, List.set_cons_zero, List.set_cons_succ]
      refine wpAnyH_ready (rs := [1]) (by kernel_rfl) (by simp) ?_
      refine AllReadyH.cons rfl (fun K hK => ?_) AllReadyH.nil
      go_simp
      go_at_call 51
      refine (MY.out _).mono ?_
      rintro e w6 ⟨rfl, hb⟩
      dsimp only
      refine hK.out _ _ (below_next hHeld hb) (fun hHeld => ?_)
      clear hK K hb
      refine take_at (i := 2) 10 rfl rfl (by kernel_rfl) (by kernel_rfl) (by kernel_rfl) (fun _ _ _ h => h) (sure_yes (by rfl) (fun w => by go_simp; try with_reducible rfl)) hHeld ?_
      simp only [List.setIfInBounds_toArray, List.set_cons_zero, List.set_cons_succ]
      refine take_at (i := 3) 11 rfl rfl (by kernel_rfl) (by kernel_rfl) (by kernel_rfl) (fun _ _ _ h => h) (sure_yes (by rfl) (fun w => by go_simp; try with_reducible rfl)) hHeld ?_
      simp only [List.setIfInBounds_toArray, List.set_cons_zero, List.set_cons_succ]
      refine take_at (i := 5) 13 rfl rfl (by kernel_rfl) (by kernel_rfl) (by kernel_rfl) (fun _ _ _ h => h) (sure_yes (by rfl) (fun w => by go_simp; try with_reducible rfl)) hHeld ?_
      simp only [List.setIfInBounds_toArray, List.set_cons_zero, List.set_cons_succ]
      refine take_at (i := 4) 12 rfl rfl (by kernel_rfl) (by kernel_rfl) (by kernel_rfl) (fun _ _ _ h => h) (cell_yields (by rfl) 2 (.tmp 11) rfl w.heap.size 1 rfl .i64 q Tryd.underlying2 (fun w h => (World.cell?_of_block (h.block _ (World.block_lt_of_cell? _ _ C1.out))).trans C1.out)) hHeld ?_
      simp only [List.setIfInBounds_toArray, List.set_cons_zero, List.set_cons_succ]
      refine take_at (i := 6) 14 rfl rfl (by kernel_rfl) (by kernel_rfl) (by kernel_rfl) (fun _ _ _ h => h) (cell_yields (by rfl) 3 (.tmp 13) rfl w.heap.size 0 rfl .i64 (i : Int) Tryd.underlying3 (fun w h => (World.cell?_of_block (h.block _ (World.block_lt_of_cell? _ _ C0.out))).trans C0.out)) hHeld ?_
      simp only [List.setIfInBounds_toArray, List.set_cons_zero, List.set_cons_succ]
      refine take_at (i := 7) 15 rfl rfl (by kernel_rfl) (by kernel_rfl) (by kernel_rfl) (fun _ _ _ h => h) (sure_yes (by rfl) (fun w => by go_simp; try with_reducible rfl)) hHeld ?_
      simp only [List.setIfInBounds_toArray, List.set_cons_zero, List.set_cons_succ]
      refine take_at (i := 8) 16 rfl rfl (by kernel_rfl) (by kernel_rfl) (by kernel_rfl) (fun _ _ _ h => h) (cell_yields (by rfl) 2 (.tmp 15) rfl G i rfl .i64 m Tryd.underlying2 (fun w h => (World.cell?_of_block (h.block _ (World.block_lt_of_cell? _ _ CM.out))).trans CM.out)) hHeld ?_
      simp only [List.setIfInBounds_toArray, List.set_cons_zero, List.set_cons_succ]
      refine take_at (i := 9) 17 rfl rfl (by kernel_rfl) (by kernel_rfl) (by kernel_rfl) (fun _ _ _ h => h) (sure_yes (by rfl) (fun w => by go_simp; try with_reducible rfl)) hHeld ?_
      simp only [List.setIfInBounds_toArray, List.set_cons_zero, List.set_cons_succ]
      refine take_at (i := 10) 18 rfl rfl (by kernel_rfl) (by kernel_rfl) (by kernel_rfl) (fun _ _ _ h => h) (sure_yes (by rfl) (fun w => by go_simp; try with_reducible rfl)) hHeld ?_
      simp only [List.setIfInBounds_toArray, List.set_cons_zero, List.set_cons_succ]
      refine wpAnyH_done (by kernel_rfl) ?_ _
      have HG6 := Lib.hid (show w6.heap[G]? = some (.cells (nums 32 (withN l (i : Int) q)) 74 (0, 0)) by rw [← HS.out]; exact row_kept HG.out hHeld)
      have B6 := Lib.hid (below_next B2.out hHeld)
      go_wp2_with (first
        | (refine wpList_load_row rfl 74 (.tmp 5) rfl G rfl 74 _ (0, 0) _ HG6.out Tryd.underlying74 rfl (by rw [nums_size]; kernel_rfl) ?_)
        | (go_at_call 50; refine (O1.out _).mono ?_; rintro e w8 ⟨u, rfl, hu, hb⟩; have HU := Lib.hid hu; have B8 := Lib.hid (below_next B6.out hb); clear hu hb))
      go_ret
      exact ⟨_, rfl, HU.out, B8.out⟩
end Go.Proofs.YthkojphgjlojgaaDoor
namespace Go.Proofs.YthkojphgjlojgaaDoor
open Go.RowKit
/-- The first k numbers are the new ones. -/
def mixN (f g : Nat → Int) (k i : Nat) : Int := if i < k then g i else f i
theorem mixN_zero (n : Nat) (f g : Nat → Int) : nums n (mixN f g 0) = nums n f := nums_congr _ _ _ fun _ _ => if_neg (by omega)
theorem mixN_full (n : Nat) (f g : Nat → Int) : nums n (mixN f g n) = nums n g := nums_congr _ _ _ fun _ hi => if_pos hi
theorem mixN_set (n : Nat) (f g : Nat → Int) (k : Nat) : (nums n (mixN f g k)).setIfInBounds k (.int .i64 (g k)) = nums n (mixN f g (k + 1)) := nums_set _ _ _ _ _ fun j _ => by
  unfold mixN
  by_cases h : j = k
  · subst h; rw [if_pos rfl, if_pos (by omega)]
  · rw [if_neg h]
    by_cases h2 : j < k
    · rw [if_pos h2, if_pos (by omega)]
    · rw [if_neg h2, if_neg (by omega)]
theorem mixN_at (f g : Nat → Int) (k : Nat) : mixN f g k k = f k := if_neg (Nat.lt_irrefl _)
theorem max_if (x y : Int) : (if x < y then y else x) = max x y := by split <;> omega
set_option maxRecDepth 100000 in
set_option maxHeartbeats 16000000 in
theorem refJoin_typ10 (a b : List D2) (ha : a.length < 2000000) (hb : b.length < 2000000) (v u : Value) (w : World) (hv : HasDots w v a) (hu : HasDots w u b) : Calls Tryd.prog 24 #[v, u] w fun e w' => ∃ x, e = .returned x ∧ TypDots w' x (joinV a b) ∧ Below w.heap.size w w' := by
  have HV := Lib.hid hv
  have HU := Lib.hid hu
  have A1 := Lib.hid (fun w v hv => refAll_V a ha v w hv)
  have A2 := Lib.hid (fun w v hv => refAll_V b hb v w hv)
  have O1 := Lib.hid (fun w => refOf_typ (joinN a b) w)
  obtain ⟨ao, cap, rfl⟩ := dots_shape hv a.length rfl
  obtain ⟨ao2, cap2, rfl⟩ := dots_shape hu b.length rfl
  obtain ⟨n, hn⟩ : ∃ n, n = a.length := ⟨_, rfl⟩
  obtain ⟨m, hm⟩ : ∃ m, m = b.length := ⟨_, rfl⟩
  rw [← hn] at HV ⊢
  rw [← hm] at HU ⊢
  clear hv hu ha hb hn hm
  go_enter Tryd.func24, Tryd.ntmps24
  go_upto_region 2 with (first
    | (go_at_call 49; refine (A1.out w _ HV.out).mono ?_; rintro e w1 ⟨rfl, hb⟩; have B1 := Lib.hid hb; clear hb)
    | (refine alloc_as rfl 74 rfl _ zero32 ?_)
    | (refine store_new rfl 74 (.tmp 5) (.tmp 9) rfl rfl w1 _ (nums 32 (allV a)) 74 rfl rfl rfl (by rw [nums_size]; kernel_rfl) (by rw [nums_size, nums_size]) (nums_one _ _) ?_; intro w2 hg2 hb2 hs2; have HG := Lib.hid hg2; have B2 := Lib.hid (below_next B1.out hb2); have LG := Lib.hid (And.intro B1.out.size hs2); clear hg2 hb2 hs2))
  generalize w1.heap.size = G at *
  go_upto_region 3 with (first
    | (go_at_call 49; refine (A2.out w2 _ (dots_below HU.out B2.out)).mono ?_; rintro e w3 ⟨rfl, hb⟩; have HG3 := Lib.hid (row_kept HG.out hb); have B3 := Lib.hid (below_next B2.out hb); have L3 := Lib.hid (show G < w3.heap.size from Nat.lt_of_lt_of_le LG.out.2 hb.size); clear hb)
    | (refine alloc_as rfl 74 rfl _ zero32 ?_)
    | (refine store_new rfl 74 (.tmp 6) (.tmp 11) rfl rfl w3 _ (nums 32 (allV b)) 74 rfl rfl rfl (by rw [nums_size]; kernel_rfl) (by rw [nums_size, nums_size]) (nums_one _ _) ?_; intro w4 hg4 hb4 hs4; have HH := Lib.hid hg4; have GG := Lib.hid (row_kept HG3.out hb4); have B4 := Lib.hid (below_next B3.out hb4); clear hg4 hb4 hs4))
  have HGH := Lib.hid (show G ≠ w3.heap.size ∧ w.heap.size ≤ G from ⟨Nat.ne_of_lt L3.out, LG.out.1⟩)
  generalize w3.heap.size = H at *
  go_wp2
  go_loopw [7] (fun c wr => ∃ k : Nat, k ≤ 32 ∧ c = .int .i64 (k : Int) ∧ wr.heap[G]? = some (.cells (nums 32 (mixN (allV a) (joinN a b) k)) 74 (0, 0)) ∧ wr.heap[H]? = some (.cells (nums 32 (allV b)) 74 (0, 0)) ∧ Below w.heap.size w wr) (fun c _ => 32 - (intOf c).toNat)
  case atStart => exact ⟨0, by omega, rfl, by rw [mixN_zero]; exact GG.out, HH.out, B4.out⟩
  case round =>
    clear GG HH B4
    obtain ⟨k, hk, rfl, hg, hh, hb⟩ := hrel
    by_cases hlt : k < 32
    · have q0 : (k : Int) < 32 := by omega
      have c0 := nums_cell hg k hlt
      have c1 := nums_cell hh k hlt
      rw [mixN_at] at c0
      have HG := Lib.hid hg
      have HH := Lib.hid hh
      have HB := Lib.hid hb
      have HK := Lib.hid hlt
      have KK := Lib.hid (show k + 1 ≤ 32 ∧ 32 - (k + 1) < 32 - k by omega)
      have HM := Lib.hid (mixN_set 32 (allV a) (joinN a b) k)
      obtain ⟨x, hx⟩ : ∃ x, x = allV a k := ⟨_, rfl⟩
      obtain ⟨y, hy⟩ : ∃ y, y = allV b k := ⟨_, rfl⟩
      have HXY := Lib.hid (show joinN a b k = max x y by rw [joinN, hx, hy])
      rw [← hx] at c0
      rw [← hy] at c1
      rw [HXY.out] at HM
      clear hg hh hb hlt hx hy
      go_wp2
      go_still_tail 9, (by kernel_rfl)
      try rw [max_if x y]
      change wpList _ _ _ _ _ wr.drew
      have hg : wr.drew.heap[G]? = _ := HG.out
      have hh : wr.drew.heap[H]? = _ := HH.out
      have hb := below_draws HB.out 1
      change Below _ _ wr.drew at hb
      clear HG HH HB c0 c1 HXY
      generalize wr.drew = w7 at *
      generalize max x y = z at *
      go_wp2_with (first
        | (refine store_cell rfl 2 (.tmp 24) (.tmp 23) rfl rfl .i64 G k _ z 74 hg rfl rfl (by rw [nums_size]; exact HK.out) (by kernel_rfl) ?_; intro w8 hg8 hs8; rw [HM.out] at hg8; have H8 := Lib.hid (And.intro hg8 (And.intro ((hs8.block H (Ne.symm HGH.out.1)).trans hh) (solo_below hb hs8 HGH.out.2))); clear hg8 hs8 hg hh hb))
      refine ⟨⟨k + 1, KK.out.1, by simp, H8.out.1, H8.out.2.1, H8.out.2.2⟩, ?_⟩
      have := KK.out.2; simp [intOf] <;> omega
    · have q0 : ¬ (k : Int) < 32 := by omega
      obtain rfl : k = 32 := by omega
      rw [mixN_full] at hg
      have HG := Lib.hid hg
      have HB := Lib.hid hb
      clear hg hh hb hlt
      go_wp2_with (first
        | (refine wpList_load_row rfl 74 (.tmp 5) rfl G rfl 74 _ (0, 0) _ HG.out Tryd.underlying74 rfl (by rw [nums_size]; kernel_rfl) ?_)
        | (go_at_call 50; refine (O1.out _).mono ?_; rintro e w8 ⟨x, rfl, hx, hb⟩; have HX := Lib.hid hx; have B8 := Lib.hid (below_next HB.out hb); clear hx hb))
      go_ret
      exact ⟨_, rfl, HX.out, B8.out⟩
end Go.Proofs.YthkojphgjlojgaaDoor
