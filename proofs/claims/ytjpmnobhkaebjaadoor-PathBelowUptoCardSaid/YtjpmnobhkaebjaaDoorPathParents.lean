/-
All that a path lies below, walked over the landed code.
-/
import Derived.Test.YtjpmnobhkaebjaaDoorPathSplit
import Derived.Test.YtjpmnobhkaebjaaDoorRef06More
import Derived.Maps.AppendAt
namespace Go.Proofs.YtjpmnobhkaebjaaDoor
open Go.RowKit Go.Shelf
attribute [local go_sem] Oper.semAt_some
/-- What the places that have come make parents of. -/
def parsOf (s : List UInt8) (pre : List (Pm s)) : List (List UInt8) := (pre.map fun x => x.1.1).filterMap (parAt s)
theorem parsOf_zero {s : List UInt8} (pre : List (Pm s)) (x : Pm s) (h : ¬ 0 < x.1.1) : parsOf s (pre ++ [x]) = parsOf s pre := by
  simp [parsOf, parAt, h]
theorem parsOf_next {s : List UInt8} (pre : List (Pm s)) (x : Pm s) (h : 0 < x.1.1) : parsOf s (pre ++ [x]) = parsOf s pre ++ [s.take (x.1.1 - 1)] := by
  simp [parsOf, parAt, h]
theorem parsOf_length {s : List UInt8} (pre : List (Pm s)) : (parsOf s pre).length ≤ pre.length := by
  have := List.length_filterMap_le (parAt s) (pre.map fun x => x.1.1)
  rwa [List.length_map] at this
theorem parsOf_all {s : List UInt8} {ys : List (Pm s)} (h : ys.map (·.1) = marks s) : parsOf s ys = parL s := by
  rw [← parents_of, ← h, List.map_map]; rfl
/-- One text appended to a slice of texts, in a region that draws its order, in a round. -/
theorem append_text_in {F : Fence} {n : Nat} {P : Program} {w : World} {ops : Array Oper} {o : Oper} {ts : Array Value} {ds : List Deferred} {K : Act → World → Prop} {Q : Exit → Act → World → Prop} {C : Prop} (d : Nat) (hd : o.dst = some d) (hw : Region.wanted o (yielded ops ts) = true) (s x : Operand) (t : TypeId)
    (ho : o.op = .call { callee := .builtin .append, args := #[s, x], argTypes := #[t, t] })
    (base : Nat) (e : TypeId) (i : TypeInfo) (ht : P.underlying t = some (.slice e)) (hi : P.info? e = some i) (hz : i.zero = some (.string ByteArray.empty)) (hsize : i.size = 1) (hby : i.bytes = 16)
    (v : Value) (ls : List (List UInt8)) (l : List UInt8) (hs : Act.eval { tmps := ts, defers := ds } s = v) (hown : w.ownsRow base e 1 v ls.length (textsL ls)) (ad : Addr) (c : Nat) (hx : Act.eval { tmps := ts, defers := ds } x = .slice (some ad) 1 c) (hc : w.cell? ad = some (.string (str l)))
    (hlen : ls.length + 1 ≤ 8796093022208) (hbase : base ≤ w.heap.size)
    (h : ∀ v' w', w'.ownsRow base e 1 v' (ls ++ [l]).length (textsL (ls ++ [l])) → w.grownBy w' v.ownBlock → K { tmps := ts.setIfInBounds d v', defers := ds } w') :
    if Region.wanted o (yielded ops ts) = true then Oper.wpIn F n P o { tmps := ts, defers := ds } w K Q else C := by
  rw [if_pos hw]
  have hadd : ad.add 0 = ad := by unfold Addr.add; split <;> simp_all
  obtain ⟨v', w', hrun, r1, r2, r3⟩ := run_append_own (P := P) w base t o.type e i (.string ByteArray.empty) 1 16 ht hi hz hsize hby rfl (by decide) v ls.length (textsL ls) hown ad 1 c (textsL [l]) (by simp [textsL]) (fun j u hj => by
    match j, hj with
    | 0, hj =>
      have e : u = .string (str l) := by simpa [textsL] using hj.symm
      rw [hadd, e]; exact hc) (textsL_one [l]) (by unfold maxLen; omega) (by omega) hbase
  unfold Oper.wpIn
  refine ⟨?_, ?_⟩
  · simp [Oper.about, ho, resolve, Target.leads, Sem.run_pure]
  · rw [Oper.semAt_plain F _ _ (by rw [ho]; intro c hc'; cases hc')]
    have hK := h v' w' (by rw [textsL_append, List.length_append]; exact r1) r2
    simp [execOp, ho, resolve, invoke, builtin, hs, hx, hrun, Result.andThen]
    rw [Oper.uponIn_value, hd]
    exact hK
/-- Behind an append to a slice that a variable holds: the variable, the row, and what lay ahead of both. -/
theorem appended6 {W w1 : World} {n₀ B : Nat} {t e : TypeId} {v v' : Value} {k m : Nat} {xs ys : List Value} {tmp : Obj} (hv : Boxed W B t v) (hte : t ≠ e) (hrow : W.ownsRow n₀ e 1 v k xs) (hn : n₀ ≤ W.heap.size) (hown' : w1.ownsRow n₀ e 1 v' m ys) (hgrow : (W.alloc tmp).grownBy w1 v.ownBlock) :
    Boxed w1 B t v ∧ Boxed (w1.setCell ⟨B, 0, none⟩ v') B t v' ∧ (w1.setCell ⟨B, 0, none⟩ v').ownsRow n₀ e 1 v' m ys ∧ KeepsOthers W (w1.setCell ⟨B, 0, none⟩ v') ∧ Below n₀ W w1 := by
  have h1 : Boxed w1 B t v := (hv.alloc tmp).kept hgrow (hv.not_row hte hrow)
  have hcells : ∀ j o, v.ownBlock = some j → (W.alloc tmp).heap[j]? = some o → o.isCells = true ∧ n₀ ≤ j := fun j o ej hj => by
    rcases (hrow.alloc tmp).2 with ⟨rfl, _⟩ | ⟨g, cap, cur, rfl, hb, hgb, _⟩
    · simp [Value.ownBlock] at ej
    · obtain rfl : g = j := by simpa [Value.ownBlock] using ej
      rw [hgb] at hj; cases hj; exact ⟨rfl, hb⟩
  have hrows : ∀ j, v.ownBlock = some j → n₀ ≤ j := fun j ej => by
    rcases hrow.2 with ⟨rfl, _⟩ | ⟨g, cap, cur, rfl, hb, _, _⟩
    · simp [Value.ownBlock] at ej
    · obtain rfl : g = j := by simpa [Value.ownBlock] using ej
      exact hb
  exact ⟨h1, h1.set v', hown'.kept (grownBy_setCell' w1 B v') (.inr (h1.not_row hte hown').symm),
    ((KeepsOthers.alloc W tmp).trans (KeepsOthers.of_grownBy hgrow fun j o ej hj => (hcells j o ej hj).1)).trans (KeepsOthers.setCell _ _ _),
    ((Below.refl n₀ W).alloc hn tmp).grown hgrow (by simp; omega) fun j ej => hrows j ej⟩
/-- A round of Parents that has taken one more. -/
theorem collected6 {g P : Nat} {s : List UInt8} {t e : TypeId} {l : List UInt8} {pre : List (Pm s)} {x : Pm s} {w W w1 : World} {v' : Value} (hC : Cell1 g W (.string (str s)) ∧ Cell1 P W (.string (str s))) (hg2 : g + 1 < P) (hB : Below g w W) (hE : parsOf s (pre ++ [x]) = parsOf s pre ++ [l])
    (hQ : w1.ownsRow (P + 1) e 1 v' (parsOf s pre ++ [l]).length (textsL (parsOf s pre ++ [l])) ∧ Boxed (w1.setCell ⟨g + 1, 0, none⟩ v') (g + 1) t v' ∧ (w1.setCell ⟨g + 1, 0, none⟩ v').ownsRow (P + 1) e 1 v' (parsOf s pre ++ [l]).length (textsL (parsOf s pre ++ [l])) ∧ KeepsOthers W.drew (w1.setCell ⟨g + 1, 0, none⟩ v') ∧ Below (P + 1) W.drew w1) :
    KeepsOthers W (w1.setCell ⟨g + 1, 0, none⟩ v') ∧ KeepBox P W (w1.setCell ⟨g + 1, 0, none⟩ v') ∧
      ((∃ v, Boxed (w1.setCell ⟨g + 1, 0, none⟩ v') (g + 1) t v ∧ (w1.setCell ⟨g + 1, 0, none⟩ v').ownsRow (P + 1) e 1 v (parsOf s (pre ++ [x])).length (textsL (parsOf s (pre ++ [x]))) ∧ True) ∧ Cell1 g (w1.setCell ⟨g + 1, 0, none⟩ v') (.string (str s)) ∧ Cell1 P (w1.setCell ⟨g + 1, 0, none⟩ v') (.string (str s))) ∧ Below g w (w1.setCell ⟨g + 1, 0, none⟩ v') := by
  obtain ⟨_, h2, h3, h4, h5⟩ := hQ
  have k1 : Cell1 g w1 (.string (str s)) := cell1_below (cell1_drew hC.1) h5 (by omega)
  have k2 : Cell1 P w1 (.string (str s)) := cell1_below (cell1_drew hC.2) h5 (by omega)
  have k3 := cell1_far k2 (show P ≠ g + 1 by omega) v'
  refine ⟨(KeepsOthers.drew W).trans h4, k3.1.trans hC.2.1.symm, ⟨⟨v', h2, by rw [hE]; exact h3, trivial⟩, cell1_far k1 (by omega) v', k3⟩, ?_⟩
  exact (hB.drew.trans (h5.mono (by omega))).setCell (p := ⟨g + 1, 0, none⟩) (by simp) _
set_option maxRecDepth 100000 in
set_option maxHeartbeats 4000000 in
theorem parents_any (s : List UInt8) (hs : s.length < 1099511627776) (w : World) : Calls Tryd.prog 21 #[.string (str s)] w fun e w' => ∃ v, e = .returned v ∧ HasTexts w' v (parL s) ∧ Below w.heap.size w w' := by
  obtain ⟨i0, hi, hz0, hz1, hz2⟩ := info_parts infoString
  have HS := Lib.hid (show s.length < 4611686018427387904 from Nat.lt_trans hs (by decide))
  have HN := Lib.hid hs
  clear hs
  have HP0 := Lib.hid (parts_any s)
  refine (callsIn_wide (n := 6)).1 ?_
  refine callsIn_of_wp_marks Tryd.func21 rfl trivial ?_ rfl
  simp only [Tryd.ntmps21, List.size_toArray, List.length_cons, List.length_nil, Nat.reduceAdd, Nat.reduceSub, Array.replicate_succ, Array.replicate_zero, List.push_toArray, List.append_toArray, List.nil_append, List.cons_append]
  refine wpIn_wide.2 ?_
  go_wp2_with (first | (go_at_call 26; have A0 := Lib.hid (cell1_alloc (show Cell1 w.heap.size (w.alloc (.cells #[.string (str s)] 9)) (.string (str s)) from cell_new w (.string (str s)) 9) (.cells #[.slice none 0 0] 38)); have V0 := Lib.hid (Boxed.new (w.alloc (.cells #[.string (str s)] 9)) 38 (.slice none 0 0)); have B0 := Lib.hid (((Below.refl w.heap.size w).alloc (Nat.le_refl _) (.cells #[.string (str s)] 9)).alloc (by simp) (.cells #[.slice none 0 0] 38)); have Z0 := Lib.hid (show ((w.alloc (.cells #[.string (str s)] 9)).alloc (.cells #[.slice none 0 0] 38)).heap.size = w.heap.size + 1 + 1 by simp); rw [World.size_alloc] at V0; generalize (w.alloc (.cells #[.string (str s)] 9)).alloc (.cells #[.slice none 0 0] 38) = W0 at *; refine (HP0.out _).mono ?_; rintro e w1 ⟨rfl, rfl⟩))
  have hc := cell_new W0 (.string (str s)) 9
  have C0 := Lib.hid (cell1_alloc A0.out (.cells #[.string (str s)] 9))
  have V1 := Lib.hid (V0.out.alloc (.cells #[.string (str s)] 9))
  have B1 := Lib.hid (B0.out.alloc B0.out.size (.cells #[.string (str s)] 9))
  refine (wpIn_wide (n := 6)).1 ?_
  refine wpIn_rangeFunc_ownF (F := Fence.wide) rfl (by decide) (gf := 33) (lb := #[.pointer (some ⟨W0.heap.size, 0, none⟩)]) rfl trivial (enters_of Tryd.func33 (by kernel_rfl) rfl)
    (seq_stops 5 (by decide) W0.heap.size s HS.out _ (by simp) hc.1) keepBox_t (keepBox_b (by simp)) (Below.refl _ _) (fun _ => rfl)
    (fun pre W => ((∃ v, Boxed W (w.heap.size + 1) 38 v ∧ W.ownsRow (W0.heap.size + 1) 9 1 v (parsOf s pre).length (textsL (parsOf s pre)) ∧ True) ∧ Cell1 w.heap.size W (.string (str s)) ∧ Cell1 W0.heap.size W (.string (str s))) ∧ Below w.heap.size w W)
    (fun _ _ _ => False)
    (OwnFrom.and (OwnFrom.and (Own.from (holdsRow_own (W0.heap.size + 1) (w.heap.size + 1) 38 9 1 (fun pre => (parsOf s pre).length) (fun pre => textsL (parsOf s pre)) (fun _ _ => True)) _) (Own.from (fun _ A B row hs hg hr => ⟨cell1_own hs.1 hg hr, cell1_own hs.2 hg hr⟩) _)) (ownFrom_below (Nat.le_refl _) (by have := Z0.out; simp; omega)))
    (fun _ _ _ _ _ hs _ _ => hs)
    ⟨⟨⟨.slice none 0 0, V1.out, World.ownsRow_nil _ _ _ _, trivial⟩, C0.out, hc⟩, B1.out⟩
    (fun x => { tmps := #[.string (str s), .pointer (some ⟨w.heap.size, 0, none⟩), .slice none 0 0, .pointer (some ⟨w.heap.size + 1, 0, none⟩), .int .i64 (x.1.1 : Int), .string (str s), .func (.func 33) #[] #[.pointer (some ⟨W0.heap.size, 0, none⟩)], .int .i64 (x.1.1 : Int), .string (str x.1.2), undef, undef, undef, undef, undef, undef, undef, undef, undef, undef], defers := [] }) ?assign ?body ?done ?stop
  case assign =>
    intro l x W K hK
    gi_wp2
    exact hK
  case body =>
    rintro l pre x W ⟨⟨⟨v, hv, hr, -⟩, hC, hC2⟩, hB⟩ hlen
    have HA := Lib.hid (And.intro (And.intro hC hC2) hB)
    have HG := Lib.hid (show W0.heap.size + 1 ≤ W.heap.size from World.block_lt_of_cell? W _ hC2.1)
    have HV := Lib.hid hv
    have HR := Lib.hid (show W.drew.ownsRow (W0.heap.size + 1) 9 1 v (parsOf s pre).length (textsL (parsOf s pre)) from hr)
    have HL := Lib.hid (show (parsOf s pre).length + 1 ≤ 8796093022208 by have h1 := parsOf_length pre; have h2 := HN.out; omega)
    obtain ⟨c0, f0⟩ := hC
    have c1 := hv.cell
    have f1 := hv.frozen
    clear hv hr hB hlen hC2
    by_cases hx0 : 0 < x.1.1
    · obtain ⟨b, hb⟩ : ∃ b, b = x.1.1 := ⟨_, rfl⟩
      obtain ⟨a, ha, wa⟩ := ahead_wraps b s.length (by rw [hb]; exact x.2.1) (by rw [hb]; exact hx0) HS.out
      have HE := Lib.hid (show parsOf s (pre ++ [x]) = parsOf s pre ++ [s.take a] by rw [ha, hb]; exact parsOf_next pre x hx0)
      have sa : ∀ w, (Instr.slice 9 (.string (str s)) none (some (.int .i64 (a : Int))) none).run Tryd.prog w = .ok (.string (str (s.take a))) w := fun w => slice_to6 w 9 s a (by rw [ha, hb]; have := x.2.1; omega) Tryd.underlying9
      have t0 : 0 < b := by omega
      have c2 := (HV.out.alloc (.cells #[.string (str (s.take a))] 9)).cell
      rw [← hb]
      clear hx0 ha hb
      gi_wp2
      refine region_inRound (by kernel_rfl) rfl (region_nodefer _ (by kernel_rfl)) ?_
      refine wpAnyIn_take (i := 2) (v := .int .i64 (b : Int)) rfl rfl (by kernel_rfl) (by kernel_rfl) (by kernel_rfl) (fun _ _ _ h => h) ⟨Or.inl ⟨by rfl, fun w => by go_simp⟩, fun _ => rfl⟩ ?_
      try simp only [List.setIfInBounds_toArray, List.set_cons_zero, List.set_cons_succ]
      refine wpAnyIn_take (i := 3) (v := .int .i64 (a : Int)) rfl rfl (by kernel_rfl) (by kernel_rfl) (by kernel_rfl) (fun _ _ _ h => h) ⟨Or.inl ⟨by rfl, fun w => by go_simp; exact (wrap_i64 _).trans wa⟩, fun _ => rfl⟩ ?_
      try simp only [List.setIfInBounds_toArray, List.set_cons_zero, List.set_cons_succ]
      refine wpAnyIn_ready (rs := [0, 1]) (by kernel_rfl) (by simp) ?_
      refine AllReadyIn.cons rfl (fun K hK => ?_) (AllReadyIn.cons rfl (fun K hK => ?_) AllReadyIn.nil)
      · skip
        go_simp
        refine hK _ _ ?_
        clear hK K
        try simp only [List.setIfInBounds_toArray, List.set_cons_zero, List.set_cons_succ]
        refine wpAnyIn_ready (rs := [1]) (by kernel_rfl) (by simp) ?_
        refine AllReadyIn.cons rfl (fun K hK => ?_) AllReadyIn.nil
        go_simp
        refine hK _ _ ?_
        clear hK K
        try simp only [List.setIfInBounds_toArray, List.set_cons_zero, List.set_cons_succ]
        refine wpAnyIn_take (i := 4) (v := .string (str (s.take a))) rfl rfl (by kernel_rfl) (by kernel_rfl) (by kernel_rfl) (fun _ _ _ h => h) ⟨Or.inl ⟨by rfl, fun w => by go_simp⟩, fun _ => rfl⟩ ?_
        try simp only [List.setIfInBounds_toArray, List.set_cons_zero, List.set_cons_succ]
        refine wpAnyIn_ready (rs := [5]) (by kernel_rfl) (by simp) ?_
        refine AllReadyIn.cons rfl (fun K hK => ?_) AllReadyIn.nil
        go_simp
        refine hK _ _ ?_
        clear hK K
        try simp only [List.setIfInBounds_toArray, List.set_cons_zero, List.set_cons_succ]
        refine wpAnyIn_ready (rs := [6]) (by kernel_rfl) (by simp) ?_
        refine AllReadyIn.cons rfl (fun K hK => ?_) AllReadyIn.nil
        refine append_text_in 17 rfl (by rfl) (.tmp 11) (.tmp 16) 38 rfl (W0.heap.size + 1) 9 i0 Tryd.underlying38 hi hz0 hz1 hz2 v (parsOf s pre) (s.take a) rfl (HR.out.alloc _) ⟨W.drew.heap.size, 0, none⟩ 1 rfl (show (W.drew.alloc (.cells #[.string (str (s.take a))] 9)).cell? ⟨W.drew.heap.size, 0, none⟩ = _ by rw [cell_of_row _ _ 0 _ _ _ (heap_last W.drew _)]; rfl) HL.out (by have := HG.out; simp; omega) ?_
        intro v' w1 hown' hgrow
        obtain ⟨g', cap', rfl⟩ := ownsRow_succ (by simpa using hown')
        obtain ⟨hv1, hv2, hr2, hk2, hb2⟩ := appended6 (tmp := .cells #[.string (str (s.take a))] 9) (show Boxed W.drew (w.heap.size + 1) 38 v from HV.out) (by decide) HR.out HG.out hown' hgrow
        have hc1 := hv1.cell
        have hf1 := hv1.frozen
        have HQ := Lib.hid (And.intro hown' (And.intro hv2 (And.intro hr2 (And.intro hk2 hb2))))
        clear hown' hgrow hv1 hv2 hr2 hk2 hb2
        refine hK _ _ ?_
        clear hK K
        try simp only [List.setIfInBounds_toArray, List.set_cons_zero, List.set_cons_succ]
        refine wpAnyIn_ready (rs := [7]) (by kernel_rfl) (by simp) ?_
        refine AllReadyIn.cons rfl (fun K hK => ?_) AllReadyIn.nil
        go_simp
        refine hK _ _ ?_
        clear hK K
        try simp only [List.setIfInBounds_toArray, List.set_cons_zero, List.set_cons_succ]
        refine wpAnyIn_done (by kernel_rfl) ?_ _
        gi_wp2
        exact collected6 HA.out.1 (by have := Z0.out; omega) HA.out.2 HE.out HQ.out
      · skip
        go_simp
        refine hK _ _ ?_
        clear hK K
        try simp only [List.setIfInBounds_toArray, List.set_cons_zero, List.set_cons_succ]
        refine wpAnyIn_take (i := 4) (v := .string (str (s.take a))) rfl rfl (by kernel_rfl) (by kernel_rfl) (by kernel_rfl) (fun _ _ _ h => h) ⟨Or.inl ⟨by rfl, fun w => by go_simp⟩, fun _ => rfl⟩ ?_
        try simp only [List.setIfInBounds_toArray, List.set_cons_zero, List.set_cons_succ]
        refine wpAnyIn_ready (rs := [0, 5]) (by kernel_rfl) (by simp) ?_
        refine AllReadyIn.cons rfl (fun K hK => ?_) (AllReadyIn.cons rfl (fun K hK => ?_) AllReadyIn.nil)
        · skip
          go_simp
          refine hK _ _ ?_
          clear hK K
          try simp only [List.setIfInBounds_toArray, List.set_cons_zero, List.set_cons_succ]
          refine wpAnyIn_ready (rs := [5]) (by kernel_rfl) (by simp) ?_
          refine AllReadyIn.cons rfl (fun K hK => ?_) AllReadyIn.nil
          go_simp
          refine hK _ _ ?_
          clear hK K
          try simp only [List.setIfInBounds_toArray, List.set_cons_zero, List.set_cons_succ]
          refine wpAnyIn_ready (rs := [6]) (by kernel_rfl) (by simp) ?_
          refine AllReadyIn.cons rfl (fun K hK => ?_) AllReadyIn.nil
          refine append_text_in 17 rfl (by rfl) (.tmp 11) (.tmp 16) 38 rfl (W0.heap.size + 1) 9 i0 Tryd.underlying38 hi hz0 hz1 hz2 v (parsOf s pre) (s.take a) rfl (HR.out.alloc _) ⟨W.drew.heap.size, 0, none⟩ 1 rfl (show (W.drew.alloc (.cells #[.string (str (s.take a))] 9)).cell? ⟨W.drew.heap.size, 0, none⟩ = _ by rw [cell_of_row _ _ 0 _ _ _ (heap_last W.drew _)]; rfl) HL.out (by have := HG.out; simp; omega) ?_
          intro v' w1 hown' hgrow
          obtain ⟨g', cap', rfl⟩ := ownsRow_succ (by simpa using hown')
          obtain ⟨hv1, hv2, hr2, hk2, hb2⟩ := appended6 (tmp := .cells #[.string (str (s.take a))] 9) (show Boxed W.drew (w.heap.size + 1) 38 v from HV.out) (by decide) HR.out HG.out hown' hgrow
          have hc1 := hv1.cell
          have hf1 := hv1.frozen
          have HQ := Lib.hid (And.intro hown' (And.intro hv2 (And.intro hr2 (And.intro hk2 hb2))))
          clear hown' hgrow hv1 hv2 hr2 hk2 hb2
          refine hK _ _ ?_
          clear hK K
          try simp only [List.setIfInBounds_toArray, List.set_cons_zero, List.set_cons_succ]
          refine wpAnyIn_ready (rs := [7]) (by kernel_rfl) (by simp) ?_
          refine AllReadyIn.cons rfl (fun K hK => ?_) AllReadyIn.nil
          go_simp
          refine hK _ _ ?_
          clear hK K
          try simp only [List.setIfInBounds_toArray, List.set_cons_zero, List.set_cons_succ]
          refine wpAnyIn_done (by kernel_rfl) ?_ _
          gi_wp2
          exact collected6 HA.out.1 (by have := Z0.out; omega) HA.out.2 HE.out HQ.out
        · skip
          go_simp
          refine hK _ _ ?_
          clear hK K
          try simp only [List.setIfInBounds_toArray, List.set_cons_zero, List.set_cons_succ]
          refine wpAnyIn_ready (rs := [0]) (by kernel_rfl) (by simp) ?_
          refine AllReadyIn.cons rfl (fun K hK => ?_) AllReadyIn.nil
          go_simp
          refine hK _ _ ?_
          clear hK K
          try simp only [List.setIfInBounds_toArray, List.set_cons_zero, List.set_cons_succ]
          refine wpAnyIn_ready (rs := [6]) (by kernel_rfl) (by simp) ?_
          refine AllReadyIn.cons rfl (fun K hK => ?_) AllReadyIn.nil
          refine append_text_in 17 rfl (by rfl) (.tmp 11) (.tmp 16) 38 rfl (W0.heap.size + 1) 9 i0 Tryd.underlying38 hi hz0 hz1 hz2 v (parsOf s pre) (s.take a) rfl (HR.out.alloc _) ⟨W.drew.heap.size, 0, none⟩ 1 rfl (show (W.drew.alloc (.cells #[.string (str (s.take a))] 9)).cell? ⟨W.drew.heap.size, 0, none⟩ = _ by rw [cell_of_row _ _ 0 _ _ _ (heap_last W.drew _)]; rfl) HL.out (by have := HG.out; simp; omega) ?_
          intro v' w1 hown' hgrow
          obtain ⟨g', cap', rfl⟩ := ownsRow_succ (by simpa using hown')
          obtain ⟨hv1, hv2, hr2, hk2, hb2⟩ := appended6 (tmp := .cells #[.string (str (s.take a))] 9) (show Boxed W.drew (w.heap.size + 1) 38 v from HV.out) (by decide) HR.out HG.out hown' hgrow
          have hc1 := hv1.cell
          have hf1 := hv1.frozen
          have HQ := Lib.hid (And.intro hown' (And.intro hv2 (And.intro hr2 (And.intro hk2 hb2))))
          clear hown' hgrow hv1 hv2 hr2 hk2 hb2
          refine hK _ _ ?_
          clear hK K
          try simp only [List.setIfInBounds_toArray, List.set_cons_zero, List.set_cons_succ]
          refine wpAnyIn_ready (rs := [7]) (by kernel_rfl) (by simp) ?_
          refine AllReadyIn.cons rfl (fun K hK => ?_) AllReadyIn.nil
          go_simp
          refine hK _ _ ?_
          clear hK K
          try simp only [List.setIfInBounds_toArray, List.set_cons_zero, List.set_cons_succ]
          refine wpAnyIn_done (by kernel_rfl) ?_ _
          gi_wp2
          exact collected6 HA.out.1 (by have := Z0.out; omega) HA.out.2 HE.out HQ.out
    · have t0 : ((x.1.1 : Int)) = 0 := by omega
      have HE := Lib.hid (parsOf_zero pre x hx0)
      clear hx0
      gi_wp2
      exact ⟨KeepsOthers.refl _, rfl, by rw [HE.out]; exact ⟨⟨v, HV.out, HR.out, trivial⟩, HA.out.1⟩, HA.out.2⟩
  case done =>
    rintro D ys W hD hys ⟨⟨⟨v, hv, hr, -⟩, hC⟩, hB⟩ hK
    have HB := Lib.hid hB
    have HR := Lib.hid (show W.ownsRow (W0.heap.size + 1) 9 1 v (parL s).length (textsL (parL s)) by rw [← parsOf_all hys]; exact hr)
    obtain ⟨ao, cap, rfl⟩ := own_slice hr
    have HD := Lib.hid (show W0.heap.size + 1 ≤ D by simpa using hD)
    have HK := Lib.hid hK
    have c1 := hv.cell
    clear hD hB hys hK hC hr hv
    go_wp2
    refine ⟨by simp, .inl ⟨_, _, rfl, run_takeDeferred HK.out, ?_⟩⟩
    exact ⟨_, results_tmp rfl _ _ _, _, rfl, texts_of_own (ownsRow_putObj HR.out _ HK.out rfl), HB.out.trans (belowK_b (w := w) (Nat.le_refl _) _ D _ _ (by have := Z0.out; have := HD.out; omega) HK.out rfl rfl)⟩
  case stop =>
    rintro D c pre W _ _ h _
    exact h.elim
end Go.Proofs.YtjpmnobhkaebjaaDoor
