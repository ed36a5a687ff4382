/-
Texts that all claims of this seat share, part 2: Ref10, Ref10Of, DotFace, Float, DotHold, DotSmall, VecCounts, VecMade, Law09Orders, Ref10More.
-/
import Derived.StillTailTactics
import Derived.Laws.FloatArith
import Derived.WalkLawsBesides
import Derived.Test.YtoephjmjlhgjeaaDoorPk1
namespace Go.Proofs.YtoephjmjlhgjeaaDoor
open Go.RowKit
/-- A number loaded from an address that is known in every world at hand. -/
theorem addr_yields {P : Program} {ops : Array Oper} {S : World → Prop} {o : Oper} {a : Act} (hw : Region.wanted o (yielded ops a.tmps) = true) (ty : TypeId) (x : Operand) (ho : o.op = .load ty x)
    (A : Addr) (hx : a.eval x = .pointer (some A)) (k : IntKind) (z : Int) (hu : P.underlying ty = some (.int k)) (hS : ∀ w, S w → w.cell? A = some (.int k z)) : YieldsIf P ops S o (.int k z) a :=
  .inl ⟨hw, fun w h => by
    have hc := hS w h
    unfold execOp
    simp [ho, hx, Instr.loadAt, Instr.sureAddr, loadVar, isAgg, run_underlying hu, hc]⟩
/-- A dot loaded from an address whose two cells are known in every world at hand. -/
theorem dot_yields {P : Program} {ops : Array Oper} {S : World → Prop} {o : Oper} {a : Act} (hw : Region.wanted o (yielded ops a.tmps) = true) (ty : TypeId) (x : Operand) (ho : o.op = .load ty x)
    (A : Addr) (hx : a.eval x = .pointer (some A)) (r q : Int) {fs : Array Field} (hu : P.underlying ty = some (.struct fs)) (hi : (P.info? ty).map (·.size) = some 2) (hS : ∀ w, S w → w.cell? A = some (.int .i64 r) ∧ w.cell? ⟨A.block, A.off + 1, none⟩ = some (.int .i64 q)) : YieldsIf P ops S o (.agg #[.int .i64 r, .int .i64 q]) a :=
  .inl ⟨hw, fun w h => by
    obtain ⟨h1, h2⟩ := hS w h
    have h3 : w.cell? (A.add 1) = some (.int .i64 q) := by rw [addr_next2 A 0]; simpa [Addr.add] using h2
    have h0 : A.add 0 = A := by unfold Addr.add; split <;> simp_all
    have hl : (loadCells A [Value.int .i64 r, Value.int .i64 q].length).run P w = .ok [Value.int .i64 r, Value.int .i64 q].toArray w :=
      run_loadCells_list (P := P) w A [Value.int .i64 r, Value.int .i64 q] (fun j v hv => by
        match j, hv with
        | 0, hv => rw [h0, h1]; exact hv
        | 1, hv => rw [h3]; exact hv)
    cases hq : P.info? ty with
    | none => simp [hq] at hi
    | some i =>
      have hs : i.size = 2 := by simpa [hq] using hi
      have hl2 : (loadCells A 2).run P w = .ok #[Value.int .i64 r, Value.int .i64 q] w := hl
      unfold execOp
      simp [ho, hx, Instr.loadAt, Instr.sureAddr, loadVar, isAgg, run_underlying hu, sizeOf, typeInfo, hq, hs, hl2]⟩

theorem zero32 : (Tryd.prog.info? 47).map (fun i => i.zero) = some (some (.agg (nums 32 fun _ => 0))) := by kernel_rfl
theorem allV_at {l : List D2} {k : Nat} {d : D2} (hd : l[k]? = some d) (i : Nat) : allV (l.take (k + 1)) i = seen i (allV (l.take k) i) d := by
  obtain ⟨h, rfl⟩ := List.getElem?_eq_some_iff.1 hd
  exact allV_take h i
theorem drawS {W w : World} (h : Below W.heap.size W w) : Below W.heap.size W w.drew := ⟨h.os, h.tape, h.output, h.size, h.block⟩
set_option maxRecDepth 100000 in
set_option maxHeartbeats 16000000 in
theorem refAll_any (l : List D2) (hl : l.length < 2000000) (v : Value) (w : World) (hv : HasDots w v l) : Calls Tryd.prog 34 #[v] w fun e w' => e = .returned (.agg (nums 32 (allV l))) ∧ Below w.heap.size w w' := by
  have HV := Lib.hid hv
  obtain ⟨n, hn⟩ : ∃ n, n = l.length := ⟨_, rfl⟩
  obtain ⟨ao, cap, rfl⟩ := dots_shape hv n hn
  have HN := Lib.hid hn
  have hn4 : n < 2000000 := by omega
  have Z0 := heap_last w (.cells (nums 32 fun _ => 0) 47 (0, 0))
  have Z1 := heap_last (w.alloc (.cells (nums 32 fun _ => 0) 47 (0, 0))) (.cells (nums 32 fun _ => 0) 47 (0, 0))
  have HZ := Lib.hid (And.intro (show ((w.alloc (.cells (nums 32 fun _ => 0) 47 (0, 0))).alloc (.cells (nums 32 fun _ => 0) 47 (0, 0))).heap[w.heap.size]? = some (.cells (nums 32 fun _ => 0) 47 (0, 0)) by rw [heap_at_alloc, if_neg (by simp)]; exact Z0) (by rwa [World.size_alloc] at Z1))
  have HB := Lib.hid (((Below.refl w.heap.size w).alloc (Nat.le_refl _) (.cells (nums 32 fun _ => 0) 47 (0, 0))).alloc (by simp) (.cells (nums 32 fun _ => 0) 47 (0, 0)))
  clear hn hv hl Z0 Z1
  go_enter Tryd.func34, Tryd.ntmps34
  go_wp2_with (first | (refine alloc_as rfl 47 rfl _ zero32 ?_))
  go_loopw [4] (fun c wr => ∃ k : Nat, k ≤ n ∧ c = .int .i64 (k : Int) ∧ wr.heap[w.heap.size]? = some (.cells (nums 32 fun _ => 0) 47 (0, 0)) ∧ wr.heap[w.heap.size + 1]? = some (.cells (nums 32 (allV (l.take k))) 47 (0, 0)) ∧ Below w.heap.size w wr) (fun c _ => n - (intOf c).toNat)
  case atStart => exact ⟨0, Nat.zero_le _, rfl, HZ.out.1, HZ.out.2, HB.out⟩
  case round =>
    clear HZ HB
    obtain ⟨k, hk, rfl, hz, ho, hb⟩ := hrel
    by_cases hlt : k < n
    · have q0 : (k : Int) < (n : Int) := by omega
      have hkl : k < l.length := by rw [← HN.out]; exact hlt
      obtain ⟨d, hd⟩ : ∃ d, l[k]? = some d := ⟨_, List.getElem?_eq_getElem hkl⟩
      have HA := Lib.hid (allV_at hd)
      obtain ⟨r, q⟩ := d
      obtain ⟨ad, cap', e, c0, c1⟩ := dots_at (dots_below HV.out hb) n k HN.out.symm _ hd
      cases e
      have C0 := Lib.hid c0
      have C1 := Lib.hid c1
      have HZ := Lib.hid hz
      have HO := Lib.hid ho
      have HB := Lib.hid hb
      have MY := Lib.hid (fun w => refMay_any9 r q w)
      have KK := Lib.hid (show k + 1 ≤ n ∧ n - (k + 1) < n - k by omega)
      clear c0 c1 hz ho hb hd hkl
      cases hm : mayD r q with
      | false =>
        rw [hm] at MY
        have HS := Lib.hid (show nums 32 (allV (l.take (k + 1))) = nums 32 (allV (l.take k)) from nums_congr _ _ _ fun i _ => by
          rw [HA.out i, seen, if_neg (fun h => by have h2 := h.1; rw [mayT, hm] at h2; cases h2)])
        clear hm HA
        go_wp2
        refine wp_region_held_drew (S := fun w' => Below wr.heap.size wr w') (by kernel_rfl) (drawS (Below.refl _ _)) (fun hHeld => ?_)
        generalize wr.drew = wd at hHeld ⊢
        refine take_at (i := 0) 11 rfl rfl (by kernel_rfl) (by kernel_rfl) (by kernel_rfl) (fun _ _ _ h => h) (sure_yes (by rfl) (fun w => by go_simp; try with_reducible rfl)) hHeld ?_
        simp only [List.setIfInBounds_toArray, List.set_cons_zero, List.set_cons_succ]
        refine take_at (i := 1) 12 rfl rfl (by kernel_rfl) (by kernel_rfl) (by kernel_rfl) (fun _ _ _ h => h) (sure_yes (by rfl) (fun w => by go_simp; try with_reducible rfl)) hHeld ?_
        simp only [List.setIfInBounds_toArray, List.set_cons_zero, List.set_cons_succ]
        refine take_at (i := 2) 13 rfl rfl (by kernel_rfl) (by kernel_rfl) (by kernel_rfl) (fun _ _ _ h => h) (sure_yes (by rfl) (fun w => by go_simp; try with_reducible rfl)) hHeld ?_
        simp only [List.setIfInBounds_toArray, List.set_cons_zero, List.set_cons_succ]
        refine take_at (i := 3) 14 rfl rfl (by kernel_rfl) (by kernel_rfl) (by kernel_rfl) (fun _ _ _ h => h) (dot_yields (by rfl) 25 (.tmp 13) rfl (ad.add (k * 2)) rfl r q Tryd.underlying25 (by kernel_rfl) (fun w h => ⟨(World.cell?_of_block (h.block _ (World.block_lt_of_cell? _ _ C0.out))).trans C0.out, (World.cell?_of_block (h.block _ (World.block_lt_of_cell? _ _ C1.out))).trans C1.out⟩)) hHeld ?_
        simp only [List.setIfInBounds_toArray, List.set_cons_zero, List.set_cons_succ]
        refine wpAnyH_ready (rs := [4]) (by kernel_rfl) (by simp) ?_
        refine AllReadyH.cons rfl (fun K hK => ?_) AllReadyH.nil
        go_simp
        go_at_call 31
        refine (MY.out _).mono ?_
        rintro e w6 ⟨rfl, hb⟩
        dsimp only
        refine hK.out _ _ (below_next hHeld hb) (fun hHeld => ?_)
        clear hK K hb
        refine take_at (i := 5) 16 rfl rfl (by kernel_rfl) (by kernel_rfl) (by kernel_rfl) (fun _ _ _ h => h) (sure_yes (by rfl) (fun w => by go_simp; try with_reducible rfl)) hHeld ?_
        simp only [List.setIfInBounds_toArray, List.set_cons_zero, List.set_cons_succ]
        refine take_at (i := 6) 17 rfl rfl (by kernel_rfl) (by kernel_rfl) (by kernel_rfl) (fun _ _ _ h => h) (.inr ⟨by rfl, rfl⟩) hHeld ?_
        simp only [List.setIfInBounds_toArray, List.set_cons_zero, List.set_cons_succ]
        refine take_at (i := 7) 18 rfl rfl (by kernel_rfl) (by kernel_rfl) (by kernel_rfl) (fun _ _ _ h => h) (.inr ⟨by rfl, rfl⟩) hHeld ?_
        simp only [List.setIfInBounds_toArray, List.set_cons_zero, List.set_cons_succ]
        refine take_at (i := 8) 19 rfl rfl (by kernel_rfl) (by kernel_rfl) (by kernel_rfl) (fun _ _ _ h => h) (.inr ⟨by rfl, rfl⟩) hHeld ?_
        simp only [List.setIfInBounds_toArray, List.set_cons_zero, List.set_cons_succ]
        refine take_at (i := 9) 20 rfl rfl (by kernel_rfl) (by kernel_rfl) (by kernel_rfl) (fun _ _ _ h => h) (.inr ⟨by rfl, rfl⟩) hHeld ?_
        simp only [List.setIfInBounds_toArray, List.set_cons_zero, List.set_cons_succ]
        refine take_at (i := 10) 21 rfl rfl (by kernel_rfl) (by kernel_rfl) (by kernel_rfl) (fun _ _ _ h => h) (.inr ⟨by rfl, rfl⟩) hHeld ?_
        simp only [List.setIfInBounds_toArray, List.set_cons_zero, List.set_cons_succ]
        refine take_at (i := 11) 22 rfl rfl (by kernel_rfl) (by kernel_rfl) (by kernel_rfl) (fun _ _ _ h => h) (.inr ⟨by rfl, rfl⟩) hHeld ?_
        simp only [List.setIfInBounds_toArray, List.set_cons_zero, List.set_cons_succ]
        refine take_at (i := 12) 23 rfl rfl (by kernel_rfl) (by kernel_rfl) (by kernel_rfl) (fun _ _ _ h => h) (.inr ⟨by rfl, rfl⟩) hHeld ?_
        simp only [List.setIfInBounds_toArray, List.set_cons_zero, List.set_cons_succ]
        refine take_at (i := 13) 24 rfl rfl (by kernel_rfl) (by kernel_rfl) (by kernel_rfl) (fun _ _ _ h => h) (.inr ⟨by rfl, rfl⟩) hHeld ?_
        simp only [List.setIfInBounds_toArray, List.set_cons_zero, List.set_cons_succ]
        refine take_at (i := 14) 25 rfl rfl (by kernel_rfl) (by kernel_rfl) (by kernel_rfl) (fun _ _ _ h => h) (.inr ⟨by rfl, rfl⟩) hHeld ?_
        simp only [List.setIfInBounds_toArray, List.set_cons_zero, List.set_cons_succ]
        refine take_at (i := 15) 26 rfl rfl (by kernel_rfl) (by kernel_rfl) (by kernel_rfl) (fun _ _ _ h => h) (.inr ⟨by rfl, rfl⟩) hHeld ?_
        simp only [List.setIfInBounds_toArray, List.set_cons_zero, List.set_cons_succ]
        refine take_at (i := 16) 27 rfl rfl (by kernel_rfl) (by kernel_rfl) (by kernel_rfl) (fun _ _ _ h => h) (.inr ⟨by rfl, rfl⟩) hHeld ?_
        simp only [List.setIfInBounds_toArray, List.set_cons_zero, List.set_cons_succ]
        refine take_at (i := 17) 28 rfl rfl (by kernel_rfl) (by kernel_rfl) (by kernel_rfl) (fun _ _ _ h => h) (.inr ⟨by rfl, rfl⟩) hHeld ?_
        simp only [List.setIfInBounds_toArray, List.set_cons_zero, List.set_cons_succ]
        refine take_at (i := 18) 29 rfl rfl (by kernel_rfl) (by kernel_rfl) (by kernel_rfl) (fun _ _ _ h => h) (.inr ⟨by rfl, rfl⟩) hHeld ?_
        simp only [List.setIfInBounds_toArray, List.set_cons_zero, List.set_cons_succ]
        refine take_at (i := 19) 30 rfl rfl (by kernel_rfl) (by kernel_rfl) (by kernel_rfl) (fun _ _ _ h => h) (sure_yes (by rfl) (fun w => by go_simp; try with_reducible rfl)) hHeld ?_
        simp only [List.setIfInBounds_toArray, List.set_cons_zero, List.set_cons_succ]
        refine wpAnyH_done (by kernel_rfl) ?_ _
        go_wp2
        refine ⟨⟨k + 1, KK.out.1, by simp, row_kept HZ.out hHeld, by rw [HS.out]; exact row_kept HO.out hHeld, below_next HB.out hHeld⟩, ?_⟩
        simp [intOf]; exact KK.out.2
      | true =>
        rw [hm] at MY
        have hb := mayT_bd (d := (r, q)) hm
        simp only at hb
        obtain ⟨i, hi⟩ : ∃ i : Nat, r = (i : Int) := ⟨r.toNat, by omega⟩
        subst hi
        have hi32 : i < 32 := by omega
        have qi : (i : Int) < 32 := by omega
        obtain ⟨m, hme⟩ : ∃ m, m = allV (l.take k) i := ⟨_, rfl⟩
        have CM := Lib.hid (show wr.cell? ⟨w.heap.size + 1, i, none⟩ = some (.int .i64 m) by rw [hme]; exact nums_cell HO.out i hi32)
        by_cases hgt : m < q
        · have d1 : decide (q > m) = true := decide_eq_true hgt
          have HS := Lib.hid (show (nums 32 (allV (l.take k))).setIfInBounds i (.int .i64 q) = nums 32 (allV (l.take (k + 1))) from nums_set _ _ _ _ _ fun j _ => by
            rw [HA.out j, seen]
            by_cases hj : j = i
            · subst hj; rw [if_pos rfl, if_pos ⟨hm, rfl, by rw [← hme]; exact hgt⟩]
            · rw [if_neg hj, if_neg (fun h => hj (by have := h.2.1; simp only at this; omega))])
          clear hm HA hb hgt hme hi32
          go_wp2
          refine wp_region_held_drew (S := fun w' => Below wr.heap.size wr w') (by kernel_rfl) (drawS (Below.refl _ _)) (fun hHeld => ?_)
          generalize wr.drew = wd at hHeld ⊢
          refine take_at (i := 0) 11 rfl rfl (by kernel_rfl) (by kernel_rfl) (by kernel_rfl) (fun _ _ _ h => h) (sure_yes (by rfl) (fun w => by go_simp; try with_reducible rfl)) hHeld ?_
          simp only [List.setIfInBounds_toArray, List.set_cons_zero, List.set_cons_succ]
          refine take_at (i := 1) 12 rfl rfl (by kernel_rfl) (by kernel_rfl) (by kernel_rfl) (fun _ _ _ h => h) (sure_yes (by rfl) (fun w => by go_simp; try with_reducible rfl)) hHeld ?_
          simp only [List.setIfInBounds_toArray, List.set_cons_zero, List.set_cons_succ]
          refine take_at (i := 2) 13 rfl rfl (by kernel_rfl) (by kernel_rfl) (by kernel_rfl) (fun _ _ _ h => h) (sure_yes (by rfl) (fun w => by go_simp; try with_reducible rfl)) hHeld ?_
          simp only [List.setIfInBounds_toArray, List.set_cons_zero, List.set_cons_succ]
          refine take_at (i := 3) 14 rfl rfl (by kernel_rfl) (by kernel_rfl) (by kernel_rfl) (fun _ _ _ h => h) (dot_yields (by rfl) 25 (.tmp 13) rfl (ad.add (k * 2)) rfl (i : Int) q Tryd.underlying25 (by kernel_rfl) (fun w h => ⟨(World.cell?_of_block (h.block _ (World.block_lt_of_cell? _ _ C0.out))).trans C0.out, (World.cell?_of_block (h.block _ (World.block_lt_of_cell? _ _ C1.out))).trans C1.out⟩)) hHeld ?_
          simp only [List.setIfInBounds_toArray, List.set_cons_zero, List.set_cons_succ]
          refine wpAnyH_ready (rs := [4]) (by kernel_rfl) (by simp) ?_
          refine AllReadyH.cons rfl (fun K hK => ?_) AllReadyH.nil
          go_simp
          go_at_call 31
          refine (MY.out _).mono ?_
          rintro e w6 ⟨rfl, hb⟩
          dsimp only
          refine hK.out _ _ (below_next hHeld hb) (fun hHeld => ?_)
          clear hK K hb
          refine take_at (i := 5) 16 rfl rfl (by kernel_rfl) (by kernel_rfl) (by kernel_rfl) (fun _ _ _ h => h) (sure_yes (by rfl) (fun w => by go_simp; try with_reducible rfl)) hHeld ?_
          simp only [List.setIfInBounds_toArray, List.set_cons_zero, List.set_cons_succ]
          refine take_at (i := 6) 17 rfl rfl (by kernel_rfl) (by kernel_rfl) (by kernel_rfl) (fun _ _ _ h => h) (sure_yes (by rfl) (fun w => by go_simp; try with_reducible rfl)) hHeld ?_
          simp only [List.setIfInBounds_toArray, List.set_cons_zero, List.set_cons_succ]
          refine take_at (i := 7) 18 rfl rfl (by kernel_rfl) (by kernel_rfl) (by kernel_rfl) (fun _ _ _ h => h) (sure_yes (by rfl) (fun w => by go_simp; try with_reducible rfl)) hHeld ?_
          simp only [List.setIfInBounds_toArray, List.set_cons_zero, List.set_cons_succ]
          refine take_at (i := 8) 19 rfl rfl (by kernel_rfl) (by kernel_rfl) (by kernel_rfl) (fun _ _ _ h => h) (sure_yes (by rfl) (fun w => by go_simp; try with_reducible rfl)) hHeld ?_
          simp only [List.setIfInBounds_toArray, List.set_cons_zero, List.set_cons_succ]
          refine take_at (i := 9) 20 rfl rfl (by kernel_rfl) (by kernel_rfl) (by kernel_rfl) (fun _ _ _ h => h) (sure_yes (by rfl) (fun w => by go_simp; try with_reducible rfl)) hHeld ?_
          simp only [List.setIfInBounds_toArray, List.set_cons_zero, List.set_cons_succ]
          refine take_at (i := 11) 22 rfl rfl (by kernel_rfl) (by kernel_rfl) (by kernel_rfl) (fun _ _ _ h => h) (sure_yes (by rfl) (fun w => by go_simp; try with_reducible rfl)) hHeld ?_
          simp only [List.setIfInBounds_toArray, List.set_cons_zero, List.set_cons_succ]
          refine take_at (i := 12) 23 rfl rfl (by kernel_rfl) (by kernel_rfl) (by kernel_rfl) (fun _ _ _ h => h) (sure_yes (by rfl) (fun w => by go_simp; try with_reducible rfl)) hHeld ?_
          simp only [List.setIfInBounds_toArray, List.set_cons_zero, List.set_cons_succ]
          refine take_at (i := 13) 24 rfl rfl (by kernel_rfl) (by kernel_rfl) (by kernel_rfl) (fun _ _ _ h => h) (sure_yes (by rfl) (fun w => by go_simp; try with_reducible rfl)) hHeld ?_
          simp only [List.setIfInBounds_toArray, List.set_cons_zero, List.set_cons_succ]
          refine take_at (i := 14) 25 rfl rfl (by kernel_rfl) (by kernel_rfl) (by kernel_rfl) (fun _ _ _ h => h) (sure_yes (by rfl) (fun w => by go_simp; try with_reducible rfl)) hHeld ?_
          simp only [List.setIfInBounds_toArray, List.set_cons_zero, List.set_cons_succ]
          refine take_at (i := 10) 21 rfl rfl (by kernel_rfl) (by kernel_rfl) (by kernel_rfl) (fun _ _ _ h => h) (addr_yields (by rfl) 2 (.tmp 20) rfl (⟨(ad.add (k * 2)).block, (ad.add (k * 2)).off + 1, none⟩) rfl .i64 (q) Tryd.underlying2 (fun w h => (World.cell?_of_block (h.block _ (World.block_lt_of_cell? _ _ C1.out))).trans C1.out)) hHeld ?_
          simp only [List.setIfInBounds_toArray, List.set_cons_zero, List.set_cons_succ]
          refine take_at (i := 15) 26 rfl rfl (by kernel_rfl) (by kernel_rfl) (by kernel_rfl) (fun _ _ _ h => h) (addr_yields (by rfl) 3 (.tmp 25) rfl (ad.add (k * 2)) rfl .i64 ((i : Int)) Tryd.underlying3 (fun w h => (World.cell?_of_block (h.block _ (World.block_lt_of_cell? _ _ C0.out))).trans C0.out)) hHeld ?_
          simp only [List.setIfInBounds_toArray, List.set_cons_zero, List.set_cons_succ]
          refine take_at (i := 16) 27 rfl rfl (by kernel_rfl) (by kernel_rfl) (by kernel_rfl) (fun _ _ _ h => h) (sure_yes (by rfl) (fun w => by go_simp; try with_reducible rfl)) hHeld ?_
          simp only [List.setIfInBounds_toArray, List.set_cons_zero, List.set_cons_succ]
          refine take_at (i := 17) 28 rfl rfl (by kernel_rfl) (by kernel_rfl) (by kernel_rfl) (fun _ _ _ h => h) (addr_yields (by rfl) 2 (.tmp 27) rfl (⟨w.heap.size + 1, i, none⟩) rfl .i64 (m) Tryd.underlying2 (fun w h => (World.cell?_of_block (h.block _ (World.block_lt_of_cell? _ _ CM.out))).trans CM.out)) hHeld ?_
          simp only [List.setIfInBounds_toArray, List.set_cons_zero, List.set_cons_succ]
          refine take_at (i := 18) 29 rfl rfl (by kernel_rfl) (by kernel_rfl) (by kernel_rfl) (fun _ _ _ h => h) (sure_yes (by rfl) (fun w => by go_simp; try with_reducible rfl)) hHeld ?_
          simp only [List.setIfInBounds_toArray, List.set_cons_zero, List.set_cons_succ]
          refine take_at (i := 19) 30 rfl rfl (by kernel_rfl) (by kernel_rfl) (by kernel_rfl) (fun _ _ _ h => h) (sure_yes (by rfl) (fun w => by go_simp; try with_reducible rfl)) hHeld ?_
          simp only [List.setIfInBounds_toArray, List.set_cons_zero, List.set_cons_succ]
          refine wpAnyH_done (by kernel_rfl) ?_ _
          have c0 := (World.cell?_of_block (hHeld.block _ (World.block_lt_of_cell? _ _ C0.out))).trans C0.out
          have c1 := (World.cell?_of_block (hHeld.block _ (World.block_lt_of_cell? _ _ C1.out))).trans C1.out
          have HO6 := Lib.hid (row_kept HO.out hHeld)
          have HZ6 := Lib.hid (row_kept HZ.out hHeld)
          have HB6 := Lib.hid (below_next HB.out hHeld)
          clear hHeld C0 C1 CM HO HZ HB
          go_wp2
          go_still_tail 11, (by kernel_rfl)
          change wpList _ _ _ _ _ w6.drew
          have hz : w6.drew.heap[w.heap.size]? = _ := HZ6.out
          have ho : w6.drew.heap[w.heap.size + 1]? = _ := HO6.out
          have hb := below_draws HB6.out 1
          change Below _ _ w6.drew at hb
          clear HO6 HZ6 HB6 c0 c1
          generalize w6.drew = w7 at *
          go_wp2_with (first
            | (refine store_cell rfl 2 (.tmp 41) (.tmp 40) rfl rfl .i64 (w.heap.size + 1) i _ q 47 ho rfl rfl (by rw [nums_size]; omega) (by kernel_rfl) ?_; intro w8 hg8 hs8; rw [HS.out] at hg8; have H8 := Lib.hid (And.intro hg8 (And.intro ((hs8.block w.heap.size (by omega)).trans hz) (solo_below hb hs8 (by omega)))); clear hg8 hs8 hz ho hb))
          refine ⟨⟨k + 1, KK.out.1, by simp, H8.out.2.1, H8.out.1, H8.out.2.2⟩, ?_⟩
          simp [intOf]; exact KK.out.2
        · have d1 : decide (q > m) = false := decide_eq_false (by omega)
          have HS := Lib.hid (show nums 32 (allV (l.take (k + 1))) = nums 32 (allV (l.take k)) from nums_congr _ _ _ fun j _ => by
            rw [HA.out j, seen, if_neg (fun h => by
              obtain rfl : j = i := by have := h.2.1; simp only at this; omega
              rw [← hme] at h; exact hgt h.2.2)])
          clear hm HA hb hgt hme hi32
          go_wp2
          refine wp_region_held_drew (S := fun w' => Below wr.heap.size wr w') (by kernel_rfl) (drawS (Below.refl _ _)) (fun hHeld => ?_)
          generalize wr.drew = wd at hHeld ⊢
          refine take_at (i := 0) 11 rfl rfl (by kernel_rfl) (by kernel_rfl) (by kernel_rfl) (fun _ _ _ h => h) (sure_yes (by rfl) (fun w => by go_simp; try with_reducible rfl)) hHeld ?_
          simp only [List.setIfInBounds_toArray, List.set_cons_zero, List.set_cons_succ]
          refine take_at (i := 1) 12 rfl rfl (by kernel_rfl) (by kernel_rfl) (by kernel_rfl) (fun _ _ _ h => h) (sure_yes (by rfl) (fun w => by go_simp; try with_reducible rfl)) hHeld ?_
          simp only [List.setIfInBounds_toArray, List.set_cons_zero, List.set_cons_succ]
          refine take_at (i := 2) 13 rfl rfl (by kernel_rfl) (by kernel_rfl) (by kernel_rfl) (fun _ _ _ h => h) (sure_yes (by rfl) (fun w => by go_simp; try with_reducible rfl)) hHeld ?_
          simp only [List.setIfInBounds_toArray, List.set_cons_zero, List.set_cons_succ]
          refine take_at (i := 3) 14 rfl rfl (by kernel_rfl) (by kernel_rfl) (by kernel_rfl) (fun _ _ _ h => h) (dot_yields (by rfl) 25 (.tmp 13) rfl (ad.add (k * 2)) rfl (i : Int) q Tryd.underlying25 (by kernel_rfl) (fun w h => ⟨(World.cell?_of_block (h.block _ (World.block_lt_of_cell? _ _ C0.out))).trans C0.out, (World.cell?_of_block (h.block _ (World.block_lt_of_cell? _ _ C1.out))).trans C1.out⟩)) hHeld ?_
          simp only [List.setIfInBounds_toArray, List.set_cons_zero, List.set_cons_succ]
          refine wpAnyH_ready (rs := [4]) (by kernel_rfl) (by simp) ?_
          refine AllReadyH.cons rfl (fun K hK => ?_) AllReadyH.nil
          go_simp
          go_at_call 31
          refine (MY.out _).mono ?_
          rintro e w6 ⟨rfl, hb⟩
          dsimp only
          refine hK.out _ _ (below_next hHeld hb) (fun hHeld => ?_)
          clear hK K hb
          refine take_at (i := 5) 16 rfl rfl (by kernel_rfl) (by kernel_rfl) (by kernel_rfl) (fun _ _ _ h => h) (sure_yes (by rfl) (fun w => by go_simp; try with_reducible rfl)) hHeld ?_
          simp only [List.setIfInBounds_toArray, List.set_cons_zero, List.set_cons_succ]
          refine take_at (i := 6) 17 rfl rfl (by kernel_rfl) (by kernel_rfl) (by kernel_rfl) (fun _ _ _ h => h) (sure_yes (by rfl) (fun w => by go_simp; try with_reducible rfl)) hHeld ?_
          simp only [List.setIfInBounds_toArray, List.set_cons_zero, List.set_cons_succ]
          refine take_at (i := 7) 18 rfl rfl (by kernel_rfl) (by kernel_rfl) (by kernel_rfl) (fun _ _ _ h => h) (sure_yes (by rfl) (fun w => by go_simp; try with_reducible rfl)) hHeld ?_
          simp only [List.setIfInBounds_toArray, List.set_cons_zero, List.set_cons_succ]
          refine take_at (i := 8) 19 rfl rfl (by kernel_rfl) (by kernel_rfl) (by kernel_rfl) (fun _ _ _ h => h) (sure_yes (by rfl) (fun w => by go_simp; try with_reducible rfl)) hHeld ?_
          simp only [List.setIfInBounds_toArray, List.set_cons_zero, List.set_cons_succ]
          refine take_at (i := 9) 20 rfl rfl (by kernel_rfl) (by kernel_rfl) (by kernel_rfl) (fun _ _ _ h => h) (sure_yes (by rfl) (fun w => by go_simp; try with_reducible rfl)) hHeld ?_
          simp only [List.setIfInBounds_toArray, List.set_cons_zero, List.set_cons_succ]
          refine take_at (i := 11) 22 rfl rfl (by kernel_rfl) (by kernel_rfl) (by kernel_rfl) (fun _ _ _ h => h) (sure_yes (by rfl) (fun w => by go_simp; try with_reducible rfl)) hHeld ?_
          simp only [List.setIfInBounds_toArray, List.set_cons_zero, List.set_cons_succ]
          refine take_at (i := 12) 23 rfl rfl (by kernel_rfl) (by kernel_rfl) (by kernel_rfl) (fun _ _ _ h => h) (sure_yes (by rfl) (fun w => by go_simp; try with_reducible rfl)) hHeld ?_
          simp only [List.setIfInBounds_toArray, List.set_cons_zero, List.set_cons_succ]
          refine take_at (i := 13) 24 rfl rfl (by kernel_rfl) (by kernel_rfl) (by kernel_rfl) (fun _ _ _ h => h) (sure_yes (by rfl) (fun w => by go_simp; try with_reducible rfl)) hHeld ?_
          simp only [List.setIfInBounds_toArray, List.set_cons_zero, List.set_cons_succ]
          refine take_at (i := 14) 25 rfl rfl (by kernel_rfl) (by kernel_rfl) (by kernel_rfl) (fun _ _ _ h => h) (sure_yes (by rfl) (fun w => by go_simp; try with_reducible rfl)) hHeld ?_
          simp only [List.setIfInBounds_toArray, List.set_cons_zero, List.set_cons_succ]
          refine take_at (i := 10) 21 rfl rfl (by kernel_rfl) (by kernel_rfl) (by kernel_rfl) (fun _ _ _ h => h) (addr_yields (by rfl) 2 (.tmp 20) rfl (⟨(ad.add (k * 2)).block, (ad.add (k * 2)).off + 1, none⟩) rfl .i64 (q) Tryd.underlying2 (fun w h => (World.cell?_of_block (h.block _ (World.block_lt_of_cell? _ _ C1.out))).trans C1.out)) hHeld ?_
          simp only [List.setIfInBounds_toArray, List.set_cons_zero, List.set_cons_succ]
          refine take_at (i := 15) 26 rfl rfl (by kernel_rfl) (by kernel_rfl) (by kernel_rfl) (fun _ _ _ h => h) (addr_yields (by rfl) 3 (.tmp 25) rfl (ad.add (k * 2)) rfl .i64 ((i : Int)) Tryd.underlying3 (fun w h => (World.cell?_of_block (h.block _ (World.block_lt_of_cell? _ _ C0.out))).trans C0.out)) hHeld ?_
          simp only [List.setIfInBounds_toArray, List.set_cons_zero, List.set_cons_succ]
          refine take_at (i := 16) 27 rfl rfl (by kernel_rfl) (by kernel_rfl) (by kernel_rfl) (fun _ _ _ h => h) (sure_yes (by rfl) (fun w => by go_simp; try with_reducible rfl)) hHeld ?_
          simp only [List.setIfInBounds_toArray, List.set_cons_zero, List.set_cons_succ]
          refine take_at (i := 17) 28 rfl rfl (by kernel_rfl) (by kernel_rfl) (by kernel_rfl) (fun _ _ _ h => h) (addr_yields (by rfl) 2 (.tmp 27) rfl (⟨w.heap.size + 1, i, none⟩) rfl .i64 (m) Tryd.underlying2 (fun w h => (World.cell?_of_block (h.block _ (World.block_lt_of_cell? _ _ CM.out))).trans CM.out)) hHeld ?_
          simp only [List.setIfInBounds_toArray, List.set_cons_zero, List.set_cons_succ]
          refine take_at (i := 18) 29 rfl rfl (by kernel_rfl) (by kernel_rfl) (by kernel_rfl) (fun _ _ _ h => h) (sure_yes (by rfl) (fun w => by go_simp; try with_reducible rfl)) hHeld ?_
          simp only [List.setIfInBounds_toArray, List.set_cons_zero, List.set_cons_succ]
          refine take_at (i := 19) 30 rfl rfl (by kernel_rfl) (by kernel_rfl) (by kernel_rfl) (fun _ _ _ h => h) (sure_yes (by rfl) (fun w => by go_simp; try with_reducible rfl)) hHeld ?_
          simp only [List.setIfInBounds_toArray, List.set_cons_zero, List.set_cons_succ]
          refine wpAnyH_done (by kernel_rfl) ?_ _
          go_wp2
          refine ⟨⟨k + 1, KK.out.1, by simp, row_kept HZ.out hHeld, by rw [HS.out]; exact row_kept HO.out hHeld, below_next HB.out hHeld⟩, ?_⟩
          simp [intOf]; exact KK.out.2
    · have q0 : ¬ (k : Int) < (n : Int) := by omega
      have HE := Lib.hid (show l.take k = l by rw [show k = l.length by rw [← HN.out]; omega, List.take_length])
      rw [HE.out] at ho
      have HZ := Lib.hid hz
      have HO := Lib.hid ho
      have HB := Lib.hid hb
      clear hz ho hb
      go_wp2_with (first
        | (refine wpList_load_row rfl 47 (.tmp 3) rfl (w.heap.size + 1) rfl 47 _ (0, 0) _ HO.out Tryd.underlying47 rfl (by rw [nums_size]; kernel_rfl) ?_)
        | (refine wpList_store_row rfl 47 (.tmp 2) (.tmp 42) rfl w.heap.size _ rfl rfl 47 _ HZ.out (by rw [nums_size]; kernel_rfl) (by rw [nums_size, nums_size]) (nums_one _ _) ?_))
      exact bodyPost_ret (results_cell_row Tryd.results34 _ _ w.heap.size 47 _ (0, 0) _ rfl (setRow_heap _ _ _ _ _ _ HZ.out) Tryd.underlying47 rfl (by rw [nums_size]; kernel_rfl)) rfl ⟨rfl, below_setRow HB.out (Nat.le_refl _) _⟩
end Go.Proofs.YtoephjmjlhgjeaaDoor
namespace Go.Proofs.YtoephjmjlhgjeaaDoor
open Go.RowKit
/-- A dot loaded from an address whose two cells are known. -/
theorem load_dot10 {P : Program} {ops : Array Oper} {rest : List Oper} {o : Oper} {a : Act} {w : World} {Q : Exit → Act → World → Prop} (hw : Region.wanted o (yielded ops a.tmps) = true) (ty : TypeId) (x : Operand) (ho : o.op = .load ty x)
    (A : Addr) (hx : a.eval x = .pointer (some A)) (r q : Int) {fs : Array Field} (hu : P.underlying ty = some (.struct fs)) (hi : (P.info? ty).map (·.size) = some 2) (hc : w.cell? A = some (.int .i64 r) ∧ w.cell? ⟨A.block, A.off + 1, none⟩ = some (.int .i64 q))
    (h : wpList P ops Q rest (a.put o.dst (.agg #[.int .i64 r, .int .i64 q])) w) : wpList P ops Q (o :: rest) a w := by
  rcases dot_yields (S := fun w' => w' = w) hw ty x ho A hx r q hu hi (fun w' e => by rw [e]; exact hc) with ⟨-, hy⟩ | ⟨hn, -⟩
  · refine wpList_step fun K hK => ?_
    rw [if_pos hw]
    unfold Oper.wp
    rw [hy w rfl]
    exact hK _ _ h
  · rw [hw] at hn; cases hn
theorem infoDot : ∃ i, Tryd.prog.info? 25 = some i ∧ (i.zero.map (·.cells.size), i.size, i.bytes) = (some 2, 2, 16) := by
  have h : (Tryd.prog.info? 25).map (fun i => (i.zero.map (·.cells.size), i.size, i.bytes)) = some (some 2, 2, 16) := by kernel_rfl
  cases hi : Tryd.prog.info? 25 with
  | none => rw [hi] at h; cases h
  | some i => rw [hi] at h; exact ⟨i, rfl, Option.some.inj h⟩
set_option maxRecDepth 100000 in
theorem dot_built2 (r q : Int) : Tryd.prog.built 25 [(0, .int .i64 r), (1, .int .i64 q)] = some #[.int .i64 r, .int .i64 q] := by rfl
set_option maxRecDepth 100000 in
set_option maxHeartbeats 16000000 in
theorem refOf_any (f : Nat → Int) (w : World) : Calls Tryd.prog 33 #[.agg (nums 32 f)] w fun e w' => ∃ v, e = .returned v ∧ HasDots w' v (ofV f) ∧ Below w.heap.size w w' := by
  obtain ⟨i0, hi, hz⟩ := infoDot
  have HX := Lib.hid (heap_last w (.cells (nums 32 f) 47 (0, 0)))
  have HB := Lib.hid ((Below.refl w.heap.size w).alloc (Nat.le_refl _) (.cells (nums 32 f) 47 (0, 0)))
  have HW := Lib.hid (show w.heap.size < (w.alloc (.cells (nums 32 f) 47 (0, 0))).heap.size by simp)
  go_enter Tryd.func33, Tryd.ntmps33
  go_wp2
  go_loopw [3, 4] (fun v c wr => ∃ k : Nat, k ≤ 32 ∧ c = .int .i64 (k : Int) ∧ wr.ownsRow (w.heap.size + 1) 25 2 v (ofN f k).length (dotsC (ofN f k)) ∧ wr.heap[w.heap.size]? = some (.cells (nums 32 f) 47 (0, 0)) ∧ w.heap.size < wr.heap.size ∧ Below w.heap.size w wr) (fun _ c _ => 32 - (intOf c).toNat)
  case atStart => exact ⟨0, by omega, rfl, dots_own_nil _ _ _, HX.out, HW.out, HB.out⟩
  case round =>
    clear HX HB HW
    obtain ⟨k, hk, rfl, ho, hx, hs, hb⟩ := hrel
    have HO := Lib.hid ho
    have HX := Lib.hid hx
    have HB := Lib.hid hb
    have HS := Lib.hid hs
    by_cases hlt : k < 32
    · have q0 : (k : Int) < 32 := by omega
      have c0 := nums_cell HX.out k hlt
      have HL := Lib.hid (ofN_length f k)
      have KK := Lib.hid (show k + 1 ≤ 32 ∧ 32 - (k + 1) < 32 - k by omega)
      obtain ⟨m, hm⟩ : ∃ m, m = f k := ⟨_, rfl⟩
      rw [← hm] at c0
      by_cases hp : 0 < m
      · have d1 : decide (m > 0) = true := decide_eq_true hp
        have HN := Lib.hid (show ofN f (k + 1) = ofN f k ++ [((k : Int), m)] by rw [ofN, if_pos (by rw [← hm]; exact hp), ← hm])
        clear hp hm ho hx hb hs hlt
        go_wp2_with (first
          | (refine build_on (by rfl) 25 #[(0, .tmp 14), (1, .tmp 17)] rfl _ _ (dot_built2 (k : Int) m) (by simp [Act.eval]) ?_)
          | (at_builtin; refine append_dot rfl (.tmp 13) (.tmp 19) 23 rfl (w.heap.size + 1) 25 i0 Tryd.underlying23 hi hz _ (ofN f k) ((k : Int), m) rfl (HO.out.alloc _) ⟨wr.heap.size, 0, none⟩ 1 rfl ⟨(cell_of_row _ _ 0 _ _ _ (heap_last wr _)).trans rfl, by rw [Addr.add_lit]; exact (cell_of_row _ _ (0 + 1) _ _ _ (heap_last wr _)).trans rfl⟩ (by have := HL.out; have := KK.out.1; omega) (by have := HS.out; simp <;> omega) ?_; intro v1 w1 ho hg; rw [← HN.out] at ho; have HO1 := Lib.hid ho; have HB1 := Lib.hid (below_grown (HB.out.alloc HB.out.size _) hg (by have := HS.out; simp <;> omega) (fun j hj => by have := (HO.out.lt j hj).1; omega)); have HX1 := Lib.hid (show w1.heap[w.heap.size]? = some (.cells (nums 32 f) 47 (0, 0)) from (hg.block w.heap.size (by have := HS.out; simp <;> omega) (fun h => by have := (HO.out.lt _ h.symm).1; omega)).trans (by rw [heap_at_alloc, if_neg (by have := HS.out; omega)]; exact HX.out)); have HS1 := Lib.hid (show w.heap.size < w1.heap.size from Nat.lt_of_lt_of_le HS.out (Nat.le_trans (by simp) hg.size)); clear ho hg))
        refine ⟨⟨k + 1, KK.out.1, by simp, HO1.out, HX1.out, HS1.out, HB1.out⟩, ?_⟩
        have := KK.out.2; simp [intOf]; omega
      · have d1 : decide (m > 0) = false := decide_eq_false hp
        have HN := Lib.hid (show ofN f (k + 1) = ofN f k by rw [ofN, if_neg (by rw [← hm]; exact hp), List.append_nil])
        clear hp hm ho hx hb hs hlt
        go_wp2
        refine ⟨⟨k + 1, KK.out.1, by simp, by rw [HN.out]; exact HO.out, HX.out, HS.out, HB.out⟩, ?_⟩
        have := KK.out.2; simp [intOf]; omega
    · have q0 : ¬ (k : Int) < 32 := by omega
      obtain rfl : k = 32 := by omega
      have HD := Lib.hid (dots_of_own HO.out)
      clear ho hx hb hs hlt
      go_wp2
      go_ret
      exact ⟨_, rfl, HD.out, HB.out⟩
/-- Two dots compared. -/
theorem dots_take {a b : List D2} {k : Nat} {d e : D2} (ha : a[k]? = some d) (hb : b[k]? = some e) (h : a.take k = b.take k) : (a.take (k + 1) = b.take (k + 1)) ↔ d = e := by
  rw [List.take_add_one, List.take_add_one, ha, hb, h]
  simp
set_option maxRecDepth 100000 in
set_option maxHeartbeats 16000000 in
theorem refEqual_any (a b : List D2) (ha : a.length < 2000000) (v u : Value) (w : World) (hv : HasDots w v a) (hu : HasDots w u b) : Calls Tryd.prog 18 #[v, u] w fun e w' => e = .returned (.bool (a == b)) ∧ Below w.heap.size w w' := by
  have HV := Lib.hid hv
  have HU := Lib.hid hu
  obtain ⟨n, hn⟩ : ∃ n, n = a.length := ⟨_, rfl⟩
  obtain ⟨m, hm⟩ : ∃ m, m = b.length := ⟨_, rfl⟩
  obtain ⟨ao, cap, rfl⟩ := dots_shape hv n hn
  obtain ⟨ao2, cap2, rfl⟩ := dots_shape hu m hm
  have HN := Lib.hid (And.intro hn hm)
  have hn4 : n < 2000000 := by omega
  clear hn hm hv hu ha
  by_cases hnm : n = m
  · subst hnm
    go_enter Tryd.func18, Tryd.ntmps18
    go_wp2
    go_loopw [5] (fun c wr => ∃ k : Nat, k ≤ n ∧ c = .int .i64 (k : Int) ∧ a.take k = b.take k ∧ Below w.heap.size w wr) (fun c _ => n - (intOf c).toNat)
    case atStart => exact ⟨0, Nat.zero_le _, rfl, rfl, Below.refl _ _⟩
    case round =>
      obtain ⟨k, hk, rfl, ht, hb⟩ := hrel
      have HT := Lib.hid ht
      have HB := Lib.hid hb
      clear ht
      by_cases hlt : k < n
      · have q0 : (k : Int) < (n : Int) := by omega
        obtain ⟨d, hd⟩ : ∃ d, a[k]? = some d := ⟨_, List.getElem?_eq_getElem (by rw [← HN.out.1]; exact hlt)⟩
        obtain ⟨d2, hd2⟩ : ∃ d, b[k]? = some d := ⟨_, List.getElem?_eq_getElem (by rw [← HN.out.2]; exact hlt)⟩
        have HD := Lib.hid (dots_take hd hd2 HT.out)
        obtain ⟨r, q⟩ := d
        obtain ⟨r', q'⟩ := d2
        obtain ⟨ad, cap', e, c0, c1⟩ := dots_at (dots_below HV.out hb) n k HN.out.1.symm _ hd
        cases e
        obtain ⟨ad2, cap2', e, c2, c3⟩ := dots_at (dots_below HU.out hb) n k HN.out.2.symm _ hd2
        cases e
        have C0 := Lib.hid c0
        have C1 := Lib.hid c1
        have D0 := Lib.hid c2
        have D1 := Lib.hid c3
        have KK := Lib.hid (show k + 1 ≤ n ∧ n - (k + 1) < n - k by omega)
        clear c0 c1 c2 c3 hb hd hd2
        by_cases hs : r = r' ∧ q = q'
        · obtain ⟨rfl, rfl⟩ := hs
          go_wp2
          refine wp_region_held_drew (S := fun w' => Below wr.heap.size wr w') (by kernel_rfl) (drawS (Below.refl _ _)) (fun hHeld => ?_)
          generalize wr.drew = wd at hHeld ⊢
          refine take_at (i := 0) 17 rfl rfl (by kernel_rfl) (by kernel_rfl) (by kernel_rfl) (fun _ _ _ h => h) (sure_yes (by rfl) (fun w => by go_simp; try with_reducible rfl)) hHeld ?_
          simp only [List.setIfInBounds_toArray, List.set_cons_zero, List.set_cons_succ]
          refine take_at (i := 1) 18 rfl rfl (by kernel_rfl) (by kernel_rfl) (by kernel_rfl) (fun _ _ _ h => h) (sure_yes (by rfl) (fun w => by go_simp; try with_reducible rfl)) hHeld ?_
          simp only [List.setIfInBounds_toArray, List.set_cons_zero, List.set_cons_succ]
          refine take_at (i := 2) 19 rfl rfl (by kernel_rfl) (by kernel_rfl) (by kernel_rfl) (fun _ _ _ h => h) (sure_yes (by rfl) (fun w => by go_simp; try with_reducible rfl)) hHeld ?_
          simp only [List.setIfInBounds_toArray, List.set_cons_zero, List.set_cons_succ]
          refine take_at (i := 4) 21 rfl rfl (by kernel_rfl) (by kernel_rfl) (by kernel_rfl) (fun _ _ _ h => h) (sure_yes (by rfl) (fun w => by go_simp; try with_reducible rfl)) hHeld ?_
          simp only [List.setIfInBounds_toArray, List.set_cons_zero, List.set_cons_succ]
          refine take_at (i := 5) 22 rfl rfl (by kernel_rfl) (by kernel_rfl) (by kernel_rfl) (fun _ _ _ h => h) (sure_yes (by rfl) (fun w => by go_simp; try with_reducible rfl)) hHeld ?_
          simp only [List.setIfInBounds_toArray, List.set_cons_zero, List.set_cons_succ]
          refine take_at (i := 6) 23 rfl rfl (by kernel_rfl) (by kernel_rfl) (by kernel_rfl) (fun _ _ _ h => h) (sure_yes (by rfl) (fun w => by go_simp; try with_reducible rfl)) hHeld ?_
          simp only [List.setIfInBounds_toArray, List.set_cons_zero, List.set_cons_succ]
          refine take_at (i := 3) 20 rfl rfl (by kernel_rfl) (by kernel_rfl) (by kernel_rfl) (fun _ _ _ h => h) (dot_yields (by rfl) 25 (.tmp 19) rfl (ad.add (k * 2)) rfl r q Tryd.underlying25 (by kernel_rfl) (fun w h => ⟨(World.cell?_of_block (h.block _ (World.block_lt_of_cell? _ _ C0.out))).trans C0.out, (World.cell?_of_block (h.block _ (World.block_lt_of_cell? _ _ C1.out))).trans C1.out⟩)) hHeld ?_
          simp only [List.setIfInBounds_toArray, List.set_cons_zero, List.set_cons_succ]
          refine take_at (i := 7) 24 rfl rfl (by kernel_rfl) (by kernel_rfl) (by kernel_rfl) (fun _ _ _ h => h) (dot_yields (by rfl) 25 (.tmp 23) rfl (ad2.add (k * 2)) rfl r q Tryd.underlying25 (by kernel_rfl) (fun w h => ⟨(World.cell?_of_block (h.block _ (World.block_lt_of_cell? _ _ D0.out))).trans D0.out, (World.cell?_of_block (h.block _ (World.block_lt_of_cell? _ _ D1.out))).trans D1.out⟩)) hHeld ?_
          simp only [List.setIfInBounds_toArray, List.set_cons_zero, List.set_cons_succ]
          refine take_at (i := 8) 25 rfl rfl (by kernel_rfl) (by kernel_rfl) (by kernel_rfl) (fun _ _ _ h => h) (sure_yes (by rfl) (fun w => by go_simp; try with_reducible rfl)) hHeld ?_
          simp only [List.setIfInBounds_toArray, List.set_cons_zero, List.set_cons_succ]
          refine wpAnyH_done (by kernel_rfl) ?_ _
          go_wp2
          refine ⟨⟨k + 1, KK.out.1, by simp, HD.out.2 (by simp), below_next HB.out hHeld⟩, ?_⟩
          have := KK.out.2; simp [intOf]; omega
        · have HF := Lib.hid (show (a == b) = false by
            rw [beq_eq_false_iff_ne]; intro h
            have := HD.out.1 (by rw [h])
            simp only [Prod.mk.injEq] at this; exact hs this)
          go_wp2
          refine wp_region_held_drew (S := fun w' => Below wr.heap.size wr w') (by kernel_rfl) (drawS (Below.refl _ _)) (fun hHeld => ?_)
          generalize wr.drew = wd at hHeld ⊢
          refine take_at (i := 0) 17 rfl rfl (by kernel_rfl) (by kernel_rfl) (by kernel_rfl) (fun _ _ _ h => h) (sure_yes (by rfl) (fun w => by go_simp; try with_reducible rfl)) hHeld ?_
          simp only [List.setIfInBounds_toArray, List.set_cons_zero, List.set_cons_succ]
          refine take_at (i := 1) 18 rfl rfl (by kernel_rfl) (by kernel_rfl) (by kernel_rfl) (fun _ _ _ h => h) (sure_yes (by rfl) (fun w => by go_simp; try with_reducible rfl)) hHeld ?_
          simp only [List.setIfInBounds_toArray, List.set_cons_zero, List.set_cons_succ]
          refine take_at (i := 2) 19 rfl rfl (by kernel_rfl) (by kernel_rfl) (by kernel_rfl) (fun _ _ _ h => h) (sure_yes (by rfl) (fun w => by go_simp; try with_reducible rfl)) hHeld ?_
          simp only [List.setIfInBounds_toArray, List.set_cons_zero, List.set_cons_succ]
          refine take_at (i := 4) 21 rfl rfl (by kernel_rfl) (by kernel_rfl) (by kernel_rfl) (fun _ _ _ h => h) (sure_yes (by rfl) (fun w => by go_simp; try with_reducible rfl)) hHeld ?_
          simp only [List.setIfInBounds_toArray, List.set_cons_zero, List.set_cons_succ]
          refine take_at (i := 5) 22 rfl rfl (by kernel_rfl) (by kernel_rfl) (by kernel_rfl) (fun _ _ _ h => h) (sure_yes (by rfl) (fun w => by go_simp; try with_reducible rfl)) hHeld ?_
          simp only [List.setIfInBounds_toArray, List.set_cons_zero, List.set_cons_succ]
          refine take_at (i := 6) 23 rfl rfl (by kernel_rfl) (by kernel_rfl) (by kernel_rfl) (fun _ _ _ h => h) (sure_yes (by rfl) (fun w => by go_simp; try with_reducible rfl)) hHeld ?_
          simp only [List.setIfInBounds_toArray, List.set_cons_zero, List.set_cons_succ]
          refine take_at (i := 3) 20 rfl rfl (by kernel_rfl) (by kernel_rfl) (by kernel_rfl) (fun _ _ _ h => h) (dot_yields (by rfl) 25 (.tmp 19) rfl (ad.add (k * 2)) rfl r q Tryd.underlying25 (by kernel_rfl) (fun w h => ⟨(World.cell?_of_block (h.block _ (World.block_lt_of_cell? _ _ C0.out))).trans C0.out, (World.cell?_of_block (h.block _ (World.block_lt_of_cell? _ _ C1.out))).trans C1.out⟩)) hHeld ?_
          simp only [List.setIfInBounds_toArray, List.set_cons_zero, List.set_cons_succ]
          refine take_at (i := 7) 24 rfl rfl (by kernel_rfl) (by kernel_rfl) (by kernel_rfl) (fun _ _ _ h => h) (dot_yields (by rfl) 25 (.tmp 23) rfl (ad2.add (k * 2)) rfl r' q' Tryd.underlying25 (by kernel_rfl) (fun w h => ⟨(World.cell?_of_block (h.block _ (World.block_lt_of_cell? _ _ D0.out))).trans D0.out, (World.cell?_of_block (h.block _ (World.block_lt_of_cell? _ _ D1.out))).trans D1.out⟩)) hHeld ?_
          simp only [List.setIfInBounds_toArray, List.set_cons_zero, List.set_cons_succ]
          refine take_at (i := 8) (v := Value.bool true) 25 rfl rfl (by kernel_rfl) (by kernel_rfl) (by kernel_rfl) (fun _ _ _ h => h) (sure_yes (by rfl) (fun w => by go_simp; by_cases h1 : r = r' <;> by_cases h2 : q = q' <;> simp_all)) hHeld ?_
          simp only [List.setIfInBounds_toArray, List.set_cons_zero, List.set_cons_succ]
          refine wpAnyH_done (by kernel_rfl) ?_ _
          go_wp2
          go_ret
          exact ⟨by rw [HF.out]; rfl, below_next HB.out hHeld⟩
      · have q0 : ¬ (k : Int) < (n : Int) := by omega
        have HE := Lib.hid (show (a == b) = true by
          have h := HT.out
          rw [show k = n by omega] at h
          rw [beq_iff_eq, ← List.take_length (l := a), ← List.take_length (l := b), ← HN.out.1, ← HN.out.2]; exact h)
        clear hb
        go_wp2
        go_ret
        exact ⟨by rw [HE.out]; rfl, HB.out⟩
  · have HF := Lib.hid (show (a == b) = false by
      rw [beq_eq_false_iff_ne]; intro h
      exact hnm (by rw [HN.out.1, HN.out.2, h]))
    have t1 : ((n : Int) != (m : Int)) = true := by rw [bne_iff_ne]; omega
    clear hnm
    go_enter Tryd.func18, Tryd.ntmps18
    go_wp2
    go_ret
    exact ⟨by rw [HF.out]; rfl, Below.refl _ _⟩
end Go.Proofs.YtoephjmjlhgjeaaDoor
namespace Go.Proofs.YtoephjmjlhgjeaaDoor
open Go.RowKit
/-- A number of 64 bits. -/
def I64 (a : Int) : Prop := -9223372036854775808 ≤ a ∧ a < 9223372036854775808
end Go.Proofs.YtoephjmjlhgjeaaDoor
namespace Go.Proofs.YtoephjmjlhgjeaaDoor
open Ieee
/-- The rung of the float nearest to a number. -/
def kept (n : Nat) : Nat := Toward.even.cut false (n <<< (52 - n.log2)) (n.log2 - 52)
end Go.Proofs.YtoephjmjlhgjeaaDoor
namespace Go.Proofs.YtoephjmjlhgjeaaDoor
open Go.RowKit
def four (x0 x1 x2 x3 : Int) : Array Value := #[.int .i64 x0, .int .i64 x1, .int .i64 x2, .int .i64 x3]
end Go.Proofs.YtoephjmjlhgjeaaDoor
namespace Go.Proofs.YtoephjmjlhgjeaaDoor
open Go.RowKit
/-- May a replica have so many events so far, perhaps none? -/
def mayC (r q : Int) : Bool := decide (0 ≤ r ∧ r < 32 ∧ 0 ≤ q ∧ q ≤ 1099511627776)
set_option maxRecDepth 100000 in
set_option maxHeartbeats 4000000 in
theorem mayCount_any (r q : Int) (w : World) : Calls Tryd.prog 47 #[.agg #[.int .i64 r, .int .i64 q]] w fun e w' => e = .returned (.bool (mayC r q)) ∧ Below w.heap.size w w' := by
  have h1 := one_box w r q
  obtain ⟨c1, c2⟩ := dot_cells h1
  have B0 := Lib.hid ((Below.refl w.heap.size w).alloc (Nat.le_refl _) (dotO r q))
  clear h1
  unfold dotO at *
  go_enter Tryd.func47, Tryd.ntmps47
  go_wp2
  all_goals
    go_ret
    refine ⟨congrArg Ending.returned (show Value.bool _ = Value.bool _ from congrArg Value.bool ?_), B0.out⟩
    unfold mayC
    rw [Bool.eq_iff_iff]
    simp
    try omega
theorem mayC_q (r q : Int) : mayD r q = (mayC r q && decide (q > 0)) := by
  unfold mayD mayC
  rw [Bool.eq_iff_iff]
  simp
  omega
set_option maxRecDepth 100000 in
set_option maxHeartbeats 4000000 in
theorem may_any9 (r q : Int) (w : World) : Calls Tryd.prog 36 #[.agg #[.int .i64 r, .int .i64 q]] w fun e w' => e = .returned (.bool (mayD r q)) ∧ Below w.heap.size w w' := by
  have H1 := Lib.hid (one_box w r q)
  have B0 := Lib.hid ((Below.refl w.heap.size w).alloc (Nat.le_refl _) (dotO r q))
  have M1 := Lib.hid (mayCount_any r q)
  have HQ := Lib.hid (mayC_q r q)
  unfold dotO at *
  generalize mayC r q = m at *
  go_enter Tryd.func36, Tryd.ntmps36
  go_upto_region 1 with fail
  generalize w.alloc (.cells #[.int .i64 r, .int .i64 q] 25 (0, 0)) = W0 at *
  cases m with
  | true =>
    go_wp2_with (first
      | (refine load_row_on (by rfl) 25 (.tmp 1) rfl w.heap.size rfl 25 _ (0, 0) _ H1.out Tryd.underlying25 rfl (by kernel_rfl) ?_)
      | (go_at_call 47; refine (M1.out _).mono ?_; rintro e W1 ⟨rfl, hb⟩; have d1 := (dot_cells (row_kept H1.out hb)).2; have B1 := Lib.hid (below_next B0.out hb); clear hb))
    go_ret
    exact ⟨by rw [HQ.out]; try rfl, B1.out⟩
  | false =>
    go_wp2_with (first
      | (refine load_row_on (by rfl) 25 (.tmp 1) rfl w.heap.size rfl 25 _ (0, 0) _ H1.out Tryd.underlying25 rfl (by kernel_rfl) ?_)
      | (go_at_call 47; refine (M1.out _).mono ?_; rintro e W1 ⟨rfl, hb⟩; have B1 := Lib.hid (below_next B0.out hb); clear hb))
    go_ret
    exact ⟨by rw [HQ.out]; try rfl, B1.out⟩
end Go.Proofs.YtoephjmjlhgjeaaDoor
namespace Go.Proofs.YtoephjmjlhgjeaaDoor
open Go.RowKit
theorem zero49 : (Tryd.prog.info? 49).map (fun i => i.zero) = some (some (.agg (nums 32 fun _ => 0))) := by kernel_rfl
theorem seen_max (i : Nat) (m : Int) (d : D2) (hm : mayT d = true) (hd : d.1 = (i : Int)) : seen i m d = max m d.2 := by
  unfold seen
  by_cases h : m < d.2
  · rw [if_pos ⟨hm, hd, h⟩]; omega
  · rw [if_neg (fun hh => h hh.2.2)]; omega
set_option maxRecDepth 100000 in
set_option maxHeartbeats 16000000 in
theorem counts_any (l : List D2) (hl : l.length < 2000000) (v : Value) (w : World) (hv : HasDots w v l) : Calls Tryd.prog 35 #[v] w fun e w' => e = .returned (.agg (nums 32 (allV l))) ∧ Below w.heap.size w w' := by
  have HV := Lib.hid hv
  obtain ⟨n, hn⟩ : ∃ n, n = l.length := ⟨_, rfl⟩
  obtain ⟨ao, cap, rfl⟩ := dots_shape hv n hn
  have HN := Lib.hid hn
  have hn4 : n < 2000000 := by omega
  have Z0 := heap_last w (.cells (nums 32 fun _ => 0) 49 (0, 0))
  have Z1 := heap_last (w.alloc (.cells (nums 32 fun _ => 0) 49 (0, 0))) (.cells (nums 32 fun _ => 0) 49 (0, 0))
  have HZ := Lib.hid (And.intro (show ((w.alloc (.cells (nums 32 fun _ => 0) 49 (0, 0))).alloc (.cells (nums 32 fun _ => 0) 49 (0, 0))).heap[w.heap.size]? = some (.cells (nums 32 fun _ => 0) 49 (0, 0)) by rw [heap_at_alloc, if_neg (by simp)]; exact Z0) (by rwa [World.size_alloc] at Z1))
  have HB := Lib.hid (((Below.refl w.heap.size w).alloc (Nat.le_refl _) (.cells (nums 32 fun _ => 0) 49 (0, 0))).alloc (by simp) (.cells (nums 32 fun _ => 0) 49 (0, 0)))
  clear hn hv hl Z0 Z1
  go_enter Tryd.func35, Tryd.ntmps35
  go_wp2_with (first | (refine alloc_as rfl 49 rfl _ zero49 ?_))
  generalize ((w.alloc (.cells (nums 32 fun _ => 0) 49 (0, 0))).alloc (.cells (nums 32 fun _ => 0) 49 (0, 0))) = W0 at *
  go_loopw [8] (fun c wr => ∃ k : Nat, k ≤ n ∧ c = .int .i64 (k : Int) ∧ wr.heap[w.heap.size]? = some (.cells (nums 32 fun _ => 0) 49 (0, 0)) ∧ wr.heap[w.heap.size + 1]? = some (.cells (nums 32 (allV (l.take k))) 49 (0, 0)) ∧ Below w.heap.size w wr) (fun c _ => n - (intOf c).toNat)
  case atStart => exact ⟨0, Nat.zero_le _, rfl, HZ.out.1, HZ.out.2, HB.out⟩
  case round =>
    clear HZ HB
    obtain ⟨k, hk, rfl, hz, ho, hb⟩ := hrel
    by_cases hlt : k < n
    · have q0 : (k : Int) < (n : Int) := by omega
      have hkl : k < l.length := by rw [← HN.out]; exact hlt
      obtain ⟨d, hd⟩ : ∃ d, l[k]? = some d := ⟨_, List.getElem?_eq_getElem hkl⟩
      have HA := Lib.hid (allV_at hd)
      obtain ⟨r, q⟩ := d
      obtain ⟨ad, cap', e, c0, c1⟩ := dots_at (dots_below HV.out hb) n k HN.out.symm _ hd
      cases e
      have C0 := Lib.hid (And.intro c0 c1)
      have MY := Lib.hid (fun w => may_any9 r q w)
      have KK := Lib.hid (show k + 1 ≤ n ∧ n - (k + 1) < n - k by omega)
      have D0 := Lib.hid (heap_last wr (.cells #[.int .i64 r, .int .i64 q] 25 (0, 0)))
      have B0 := Lib.hid (hb.alloc hb.size (.cells #[.int .i64 r, .int .i64 q] 25 (0, 0)))
      have K0 := (Below.refl wr.heap.size wr).alloc (Nat.le_refl _) (.cells #[.int .i64 r, .int .i64 q] 25 (0, 0))
      have Z0 := Lib.hid (row_kept hz K0)
      have O0 := Lib.hid (row_kept ho K0)
      have LS := Lib.hid (show w.heap.size + 1 < wr.heap.size from by obtain ⟨h, -⟩ := Array.getElem?_eq_some_iff.1 ho; exact h)
      clear c0 c1 hz ho hb hd hkl K0
      generalize hW1 : wr.alloc (.cells #[.int .i64 r, .int .i64 q] 25 (0, 0)) = W1 at *
      cases hm : mayD r q with
      | false =>
        rw [hm] at MY
        have HS := Lib.hid (show nums 32 (allV (l.take (k + 1))) = nums 32 (allV (l.take k)) from nums_congr _ _ _ fun i _ => by
          rw [HA.out i, seen, if_neg (fun h => by have h2 := h.1; rw [mayT, hm] at h2; cases h2)])
        clear hm HA
        go_wp2_with (first
          | (refine load_dot10 (by rfl) 25 (.tmp 10) rfl (ad.add (k * 2)) rfl r q Tryd.underlying25 (by kernel_rfl) C0.out ?_; try rw [hW1])
          | (refine load_row_on (by rfl) 25 (.tmp 5) rfl wr.heap.size rfl 25 _ (0, 0) _ D0.out Tryd.underlying25 rfl (by kernel_rfl) ?_)
          | (go_at_call 36; refine (MY.out _).mono ?_; rintro e w1 ⟨rfl, hb⟩; have Z1 := Lib.hid (row_kept Z0.out hb); have O1 := Lib.hid (row_kept O0.out hb); have B1 := Lib.hid (below_next B0.out hb); clear hb))
        refine ⟨⟨k + 1, KK.out.1, by simp, Z1.out, by rw [HS.out]; exact O1.out, B1.out⟩, ?_⟩
        simp [intOf]; exact KK.out.2
      | true =>
        rw [hm] at MY
        have hb := mayT_bd (d := (r, q)) hm
        simp only at hb
        obtain ⟨i, hi⟩ : ∃ i : Nat, r = (i : Int) := ⟨r.toNat, by omega⟩
        subst hi
        have hi32 : i < 32 := by omega
        have qi : (i : Int) < 32 := by omega
        obtain ⟨m, hme⟩ : ∃ m, m = allV (l.take k) i := ⟨_, rfl⟩
        obtain ⟨M, hM⟩ : ∃ M, M = max m q := ⟨_, rfl⟩
        have HS := Lib.hid (show (nums 32 (allV (l.take k))).setIfInBounds i (.int .i64 M) = nums 32 (allV (l.take (k + 1))) from nums_set _ _ _ _ _ fun j _ => by
          rw [HA.out j]
          by_cases hj : j = i
          · subst hj; rw [if_pos rfl, seen_max _ _ ((j : Int), q) (show mayT ((j : Int), q) = true from hm) rfl, hM, hme]
          · rw [if_neg hj, seen, if_neg (fun h => hj (by have := h.2.1; simp only at this; omega))])
        have NC := Lib.hid (fun (w' : World) (h : w'.heap[w.heap.size + 1]? = some (.cells (nums 32 (allV (l.take k))) 49 (0, 0))) => show w'.cell? ⟨w.heap.size + 1, i, none⟩ = some (.int .i64 m) by rw [hme]; exact nums_cell h i hi32)
        have hI := Lib.hid hi32
        have hMM : (if m < q then q else m) = M := by rw [hM]; split <;> omega
        have hMX : max m q = M := hM.symm
        clear hm HA hb hme hi32 hM
        go_wp2_with (first
          | (refine load_dot10 (by rfl) 25 (.tmp 10) rfl (ad.add (k * 2)) rfl (i : Int) q Tryd.underlying25 (by kernel_rfl) C0.out ?_; try rw [hW1])
          | (refine load_row_on (by rfl) 25 (.tmp 5) rfl wr.heap.size rfl 25 _ (0, 0) _ D0.out Tryd.underlying25 rfl (by kernel_rfl) ?_)
          | (go_at_call 36; refine (MY.out _).mono ?_; rintro e w1 ⟨rfl, hb⟩; have Z1 := Lib.hid (row_kept Z0.out hb); have O1 := Lib.hid (row_kept O0.out hb); have D1 := Lib.hid (row_kept D0.out hb); have B1 := Lib.hid (below_next B0.out hb); clear hb))
        obtain ⟨c0, c1⟩ := dot_cells (show _ = some (dotO (i : Int) q) from D1.out)
        have cm := NC.out _ O1.out
        go_still_tail 10, (by kernel_rfl)
        change wpList _ _ _ _ _ w1.drew
        have hz : w1.drew.heap[w.heap.size]? = _ := Z1.out
        have ho : w1.drew.heap[w.heap.size + 1]? = _ := O1.out
        have hb := below_draws B1.out 1
        change Below _ _ w1.drew at hb
        clear O1 Z1 B1 c0 c1 cm D1
        generalize w1.drew = w7 at *
        go_wp2_with (first
          | (refine store_cell rfl 2 (.tmp 23) (.tmp 22) rfl rfl .i64 (w.heap.size + 1) i _ M 49 ho rfl rfl (by rw [nums_size]; exact hI.out) (by kernel_rfl) ?_; intro w8 hg8 hs8; rw [HS.out] at hg8; have H8 := Lib.hid (And.intro hg8 (And.intro ((hs8.block w.heap.size (by omega)).trans hz) (solo_below hb hs8 (by omega)))); clear hg8 hs8 hz ho hb))
        refine ⟨⟨k + 1, KK.out.1, by simp, H8.out.2.1, H8.out.1, H8.out.2.2⟩, ?_⟩
        simp [intOf]; exact KK.out.2
    · have q0 : ¬ (k : Int) < (n : Int) := by omega
      have HE := Lib.hid (show l.take k = l by rw [show k = l.length by rw [← HN.out]; omega, List.take_length])
      rw [HE.out] at ho
      have HZ := Lib.hid hz
      have HO := Lib.hid ho
      have HB := Lib.hid hb
      clear hz ho hb
      go_wp2_with (first
        | (refine wpList_load_row rfl 49 (.tmp 3) rfl (w.heap.size + 1) rfl 49 _ (0, 0) _ HO.out Tryd.underlying49 rfl (by rw [nums_size]; kernel_rfl) ?_)
        | (refine wpList_store_row rfl 49 (.tmp 2) (.tmp 25) rfl w.heap.size _ rfl rfl 49 _ HZ.out (by rw [nums_size]; kernel_rfl) (by rw [nums_size, nums_size]) (nums_one _ _) ?_))
      exact bodyPost_ret (results_cell_row Tryd.results35 _ _ w.heap.size 49 _ (0, 0) _ rfl (setRow_heap _ _ _ _ _ _ HZ.out) Tryd.underlying49 rfl (by rw [nums_size]; kernel_rfl)) rfl ⟨rfl, below_setRow HB.out (Nat.le_refl _) _⟩
end Go.Proofs.YtoephjmjlhgjeaaDoor
namespace Go.Proofs.YtoephjmjlhgjeaaDoor
open Go.RowKit
set_option maxRecDepth 100000 in
set_option maxHeartbeats 4000000 in
theorem closeJoin_any (f g : Nat → Int) (G H i : Nat) (hi : i < 32) (w : World) (hG : w.heap[G]? = some (.cells (nums 32 f) 49 (0, 0))) (hH : w.heap[H]? = some (.cells (nums 32 g) 49 (0, 0))) : Calls Tryd.prog 41 #[.int .i64 (i : Int), .pointer (some ⟨G, 0, none⟩), .pointer (some ⟨H, 0, none⟩)] w fun e w' => e = .returned (.int .i64 (max (f i) (g i))) ∧ Below w.heap.size w w' := by
  have c0 := nums_cell hG i hi
  have c1 := nums_cell hH i hi
  have q0 : (i : Int) < 32 := by omega
  obtain ⟨a, ha⟩ : ∃ a, a = f i := ⟨_, rfl⟩
  obtain ⟨b, hb⟩ : ∃ b, b = g i := ⟨_, rfl⟩
  rw [← ha] at c0 ⊢
  rw [← hb] at c1 ⊢
  obtain ⟨M, hM⟩ : ∃ M, M = max a b := ⟨_, rfl⟩
  have hMM : (if a < b then b else a) = M := by rw [hM]; split <;> omega
  have hMX : max a b = M := hM.symm
  rw [← hM]
  clear hG hH hi ha hb hM
  go_enter Tryd.func41, Tryd.ntmps41
  go_wp2
  go_still_tail 7, (by kernel_rfl)
  change wpList _ _ _ _ _ w.drew
  go_wp2
  go_ret
  exact ⟨rfl, below_draws (Below.refl _ _) 1⟩
set_option maxRecDepth 100000 in
set_option maxHeartbeats 4000000 in
theorem closeMeet_any (f g : Nat → Int) (G H i : Nat) (hi : i < 32) (w : World) (hG : w.heap[G]? = some (.cells (nums 32 f) 49 (0, 0))) (hH : w.heap[H]? = some (.cells (nums 32 g) 49 (0, 0))) : Calls Tryd.prog 42 #[.int .i64 (i : Int), .pointer (some ⟨G, 0, none⟩), .pointer (some ⟨H, 0, none⟩)] w fun e w' => e = .returned (.int .i64 (min (f i) (g i))) ∧ Below w.heap.size w w' := by
  have c0 := nums_cell hG i hi
  have c1 := nums_cell hH i hi
  have q0 : (i : Int) < 32 := by omega
  obtain ⟨a, ha⟩ : ∃ a, a = f i := ⟨_, rfl⟩
  obtain ⟨b, hb⟩ : ∃ b, b = g i := ⟨_, rfl⟩
  rw [← ha] at c0 ⊢
  rw [← hb] at c1 ⊢
  obtain ⟨M, hM⟩ : ∃ M, M = min a b := ⟨_, rfl⟩
  have hMM : (if b < a then b else a) = M := by rw [hM]; split <;> omega
  have hMX : min a b = M := hM.symm
  rw [← hM]
  clear hG hH hi ha hb hM
  go_enter Tryd.func42, Tryd.ntmps42
  go_wp2
  go_still_tail 7, (by kernel_rfl)
  change wpList _ _ _ _ _ w.drew
  go_wp2
  go_ret
  exact ⟨rfl, below_draws (Below.refl _ _) 1⟩
set_option maxRecDepth 100000 in
set_option maxHeartbeats 4000000 in
theorem closeText_any (f : Nat → Int) (G i : Nat) (hi : i < 32) (w : World) (hG : w.heap[G]? = some (.cells (nums 32 f) 49 (0, 0))) : Calls Tryd.prog 43 #[.int .i64 (i : Int), .pointer (some ⟨G, 0, none⟩)] w fun e w' => e = .returned (.int .i64 (f i)) ∧ Below w.heap.size w w' := by
  have c0 := nums_cell hG i hi
  have q0 : (i : Int) < 32 := by omega
  obtain ⟨a, ha⟩ : ∃ a, a = f i := ⟨_, rfl⟩
  rw [← ha] at c0 ⊢
  clear hG hi ha
  go_enter Tryd.func43, Tryd.ntmps43
  go_wp2
  go_ret
  exact ⟨rfl, Below.refl _ _⟩
set_option maxRecDepth 100000 in
set_option maxHeartbeats 16000000 in
theorem madeJoin_any (f g : Nat → Int) (G H : Nat) (w : World) (hG : w.heap[G]? = some (.cells (nums 32 f) 49 (0, 0))) (hH : w.heap[H]? = some (.cells (nums 32 g) 49 (0, 0))) : Calls Tryd.prog 40 #[.func (.func 41) #[] #[.pointer (some ⟨G, 0, none⟩), .pointer (some ⟨H, 0, none⟩)]] w fun e w' => ∃ v, e = .returned v ∧ HasDots w' v (ofV (fun i => max (f i) (g i))) ∧ Below w.heap.size w w' := by
  obtain ⟨i0, hi, hz⟩ := infoDot

  obtain ⟨F, hF⟩ : ∃ F, F = fun i => max (f i) (g i) := ⟨_, rfl⟩
  rw [← hF]
  have CL := Lib.hid (fun (k : Nat) (hk : k < 32) (wr : World) (hb : Below w.heap.size w wr) => show Calls Tryd.prog 41 #[.int .i64 (k : Int), .pointer (some ⟨G, 0, none⟩), .pointer (some ⟨H, 0, none⟩)] wr fun e w' => e = .returned (.int .i64 (F k)) ∧ Below wr.heap.size wr w' by rw [hF]; exact closeJoin_any f g G H k hk wr (row_kept hG hb) (row_kept hH hb))
  clear hG hH
  clear hF
  go_enter Tryd.func40, Tryd.ntmps40
  go_wp2
  go_loopw [3, 6] (fun v c wr => ∃ k : Nat, k ≤ 32 ∧ c = .int .i64 (k : Int) ∧ wr.ownsRow w.heap.size 25 2 v (ofN F k).length (dotsC (ofN F k)) ∧ Below w.heap.size w wr) (fun _ c _ => 32 - (intOf c).toNat)
  case atStart => exact ⟨0, by omega, rfl, dots_own_nil _ _ _, Below.refl _ _⟩
  case round =>
    obtain ⟨k, hk, rfl, ho, hb⟩ := hrel
    have HO := Lib.hid ho
    have HB := Lib.hid hb
    by_cases hlt : k < 32
    · have q0 : (k : Int) < 32 := by omega
      have HL := Lib.hid (ofN_length F k)
      have KK := Lib.hid (show k + 1 ≤ 32 ∧ 32 - (k + 1) < 32 - k by omega)
      have CC := Lib.hid (CL.out k hlt wr hb)
      obtain ⟨m, hm⟩ : ∃ m, m = F k := ⟨_, rfl⟩
      rw [← hm] at CC
      by_cases hp : 0 < m
      · have d1 : decide (m > 0) = true := decide_eq_true hp
        have HN := Lib.hid (show ofN F (k + 1) = ofN F k ++ [((k : Int), m)] by rw [ofN, if_pos (by rw [← hm]; exact hp), ← hm])
        clear hp hm ho hb hlt
        go_wp2_with (first
          | (go_at_call 41; refine CC.out.mono ?_; rintro e w1 ⟨rfl, hb⟩; have O1 := Lib.hid (own_below HO.out hb); have B1 := Lib.hid (below_next HB.out hb); clear hb)
          | (refine build_on (by rfl) 25 #[(0, .tmp 15), (1, .tmp 16)] rfl _ _ (dot_built2 (k : Int) m) (by simp [Act.eval]) ?_)
          | (at_builtin; refine append_dot rfl (.tmp 14) (.tmp 18) 23 rfl w.heap.size 25 i0 Tryd.underlying23 hi hz _ (ofN F k) ((k : Int), m) rfl (O1.out.alloc _) ⟨w1.heap.size, 0, none⟩ 1 rfl ⟨(cell_of_row _ _ 0 _ _ _ (heap_last w1 _)).trans rfl, by rw [Addr.add_lit]; exact (cell_of_row _ _ (0 + 1) _ _ _ (heap_last w1 _)).trans rfl⟩ (by have := HL.out; have := KK.out.1; omega) (by have := B1.out.size; simp <;> omega) ?_; intro v1 w2 ho hg; rw [← HN.out] at ho; have HO1 := Lib.hid ho; have HB1 := Lib.hid (below_grown (B1.out.alloc B1.out.size _) hg (by have := B1.out.size; simp <;> omega) (fun j hj => by have := (O1.out.lt j hj).1; omega)); clear ho hg))
        refine ⟨⟨k + 1, KK.out.1, by simp, HO1.out, HB1.out⟩, ?_⟩
        have := KK.out.2; simp [intOf]; omega
      · have d1 : decide (m > 0) = false := decide_eq_false hp
        have HN := Lib.hid (show ofN F (k + 1) = ofN F k by rw [ofN, if_neg (by rw [← hm]; exact hp), List.append_nil])
        clear hp hm ho hb hlt
        go_wp2_with (first
          | (go_at_call 41; refine CC.out.mono ?_; rintro e w1 ⟨rfl, hb⟩; have O1 := Lib.hid (own_below HO.out hb); have B1 := Lib.hid (below_next HB.out hb); clear hb))
        refine ⟨⟨k + 1, KK.out.1, by simp, by rw [HN.out]; exact O1.out, B1.out⟩, ?_⟩
        have := KK.out.2; simp [intOf]; omega
    · have q0 : ¬ (k : Int) < 32 := by omega
      obtain rfl : k = 32 := by omega
      have HD := Lib.hid (dots_of_own HO.out)
      clear ho hb hlt
      go_wp2
      go_ret
      exact ⟨_, rfl, HD.out, HB.out⟩
set_option maxRecDepth 100000 in
set_option maxHeartbeats 16000000 in
theorem madeMeet_any (f g : Nat → Int) (G H : Nat) (w : World) (hG : w.heap[G]? = some (.cells (nums 32 f) 49 (0, 0))) (hH : w.heap[H]? = some (.cells (nums 32 g) 49 (0, 0))) : Calls Tryd.prog 40 #[.func (.func 42) #[] #[.pointer (some ⟨G, 0, none⟩), .pointer (some ⟨H, 0, none⟩)]] w fun e w' => ∃ v, e = .returned v ∧ HasDots w' v (ofV (fun i => min (f i) (g i))) ∧ Below w.heap.size w w' := by
  obtain ⟨i0, hi, hz⟩ := infoDot

  obtain ⟨F, hF⟩ : ∃ F, F = fun i => min (f i) (g i) := ⟨_, rfl⟩
  rw [← hF]
  have CL := Lib.hid (fun (k : Nat) (hk : k < 32) (wr : World) (hb : Below w.heap.size w wr) => show Calls Tryd.prog 42 #[.int .i64 (k : Int), .pointer (some ⟨G, 0, none⟩), .pointer (some ⟨H, 0, none⟩)] wr fun e w' => e = .returned (.int .i64 (F k)) ∧ Below wr.heap.size wr w' by rw [hF]; exact closeMeet_any f g G H k hk wr (row_kept hG hb) (row_kept hH hb))
  clear hG hH
  clear hF
  go_enter Tryd.func40, Tryd.ntmps40
  go_wp2
  go_loopw [3, 6] (fun v c wr => ∃ k : Nat, k ≤ 32 ∧ c = .int .i64 (k : Int) ∧ wr.ownsRow w.heap.size 25 2 v (ofN F k).length (dotsC (ofN F k)) ∧ Below w.heap.size w wr) (fun _ c _ => 32 - (intOf c).toNat)
  case atStart => exact ⟨0, by omega, rfl, dots_own_nil _ _ _, Below.refl _ _⟩
  case round =>
    obtain ⟨k, hk, rfl, ho, hb⟩ := hrel
    have HO := Lib.hid ho
    have HB := Lib.hid hb
    by_cases hlt : k < 32
    · have q0 : (k : Int) < 32 := by omega
      have HL := Lib.hid (ofN_length F k)
      have KK := Lib.hid (show k + 1 ≤ 32 ∧ 32 - (k + 1) < 32 - k by omega)
      have CC := Lib.hid (CL.out k hlt wr hb)
      obtain ⟨m, hm⟩ : ∃ m, m = F k := ⟨_, rfl⟩
      rw [← hm] at CC
      by_cases hp : 0 < m
      · have d1 : decide (m > 0) = true := decide_eq_true hp
        have HN := Lib.hid (show ofN F (k + 1) = ofN F k ++ [((k : Int), m)] by rw [ofN, if_pos (by rw [← hm]; exact hp), ← hm])
        clear hp hm ho hb hlt
        go_wp2_with (first
          | (go_at_call 42; refine CC.out.mono ?_; rintro e w1 ⟨rfl, hb⟩; have O1 := Lib.hid (own_below HO.out hb); have B1 := Lib.hid (below_next HB.out hb); clear hb)
          | (refine build_on (by rfl) 25 #[(0, .tmp 15), (1, .tmp 16)] rfl _ _ (dot_built2 (k : Int) m) (by simp [Act.eval]) ?_)
          | (at_builtin; refine append_dot rfl (.tmp 14) (.tmp 18) 23 rfl w.heap.size 25 i0 Tryd.underlying23 hi hz _ (ofN F k) ((k : Int), m) rfl (O1.out.alloc _) ⟨w1.heap.size, 0, none⟩ 1 rfl ⟨(cell_of_row _ _ 0 _ _ _ (heap_last w1 _)).trans rfl, by rw [Addr.add_lit]; exact (cell_of_row _ _ (0 + 1) _ _ _ (heap_last w1 _)).trans rfl⟩ (by have := HL.out; have := KK.out.1; omega) (by have := B1.out.size; simp <;> omega) ?_; intro v1 w2 ho hg; rw [← HN.out] at ho; have HO1 := Lib.hid ho; have HB1 := Lib.hid (below_grown (B1.out.alloc B1.out.size _) hg (by have := B1.out.size; simp <;> omega) (fun j hj => by have := (O1.out.lt j hj).1; omega)); clear ho hg))
        refine ⟨⟨k + 1, KK.out.1, by simp, HO1.out, HB1.out⟩, ?_⟩
        have := KK.out.2; simp [intOf]; omega
      · have d1 : decide (m > 0) = false := decide_eq_false hp
        have HN := Lib.hid (show ofN F (k + 1) = ofN F k by rw [ofN, if_neg (by rw [← hm]; exact hp), List.append_nil])
        clear hp hm ho hb hlt
        go_wp2_with (first
          | (go_at_call 42; refine CC.out.mono ?_; rintro e w1 ⟨rfl, hb⟩; have O1 := Lib.hid (own_below HO.out hb); have B1 := Lib.hid (below_next HB.out hb); clear hb))
        refine ⟨⟨k + 1, KK.out.1, by simp, by rw [HN.out]; exact O1.out, B1.out⟩, ?_⟩
        have := KK.out.2; simp [intOf]; omega
    · have q0 : ¬ (k : Int) < 32 := by omega
      obtain rfl : k = 32 := by omega
      have HD := Lib.hid (dots_of_own HO.out)
      clear ho hb hlt
      go_wp2
      go_ret
      exact ⟨_, rfl, HD.out, HB.out⟩
set_option maxRecDepth 100000 in
set_option maxHeartbeats 16000000 in
theorem madeText_any (f : Nat → Int) (G : Nat) (w : World) (hG : w.heap[G]? = some (.cells (nums 32 f) 49 (0, 0))) : Calls Tryd.prog 40 #[.func (.func 43) #[] #[.pointer (some ⟨G, 0, none⟩)]] w fun e w' => ∃ v, e = .returned v ∧ HasDots w' v (ofV (f)) ∧ Below w.heap.size w w' := by
  obtain ⟨i0, hi, hz⟩ := infoDot

  obtain ⟨F, hF⟩ : ∃ F, F = f := ⟨_, rfl⟩
  rw [← hF]
  have CL := Lib.hid (fun (k : Nat) (hk : k < 32) (wr : World) (hb : Below w.heap.size w wr) => show Calls Tryd.prog 43 #[.int .i64 (k : Int), .pointer (some ⟨G, 0, none⟩)] wr fun e w' => e = .returned (.int .i64 (F k)) ∧ Below wr.heap.size wr w' by rw [hF]; exact closeText_any f G k hk wr (row_kept hG hb))
  clear hG
  clear hF
  go_enter Tryd.func40, Tryd.ntmps40
  go_wp2
  go_loopw [3, 6] (fun v c wr => ∃ k : Nat, k ≤ 32 ∧ c = .int .i64 (k : Int) ∧ wr.ownsRow w.heap.size 25 2 v (ofN F k).length (dotsC (ofN F k)) ∧ Below w.heap.size w wr) (fun _ c _ => 32 - (intOf c).toNat)
  case atStart => exact ⟨0, by omega, rfl, dots_own_nil _ _ _, Below.refl _ _⟩
  case round =>
    obtain ⟨k, hk, rfl, ho, hb⟩ := hrel
    have HO := Lib.hid ho
    have HB := Lib.hid hb
    by_cases hlt : k < 32
    · have q0 : (k : Int) < 32 := by omega
      have HL := Lib.hid (ofN_length F k)
      have KK := Lib.hid (show k + 1 ≤ 32 ∧ 32 - (k + 1) < 32 - k by omega)
      have CC := Lib.hid (CL.out k hlt wr hb)
      obtain ⟨m, hm⟩ : ∃ m, m = F k := ⟨_, rfl⟩
      rw [← hm] at CC
      by_cases hp : 0 < m
      · have d1 : decide (m > 0) = true := decide_eq_true hp
        have HN := Lib.hid (show ofN F (k + 1) = ofN F k ++ [((k : Int), m)] by rw [ofN, if_pos (by rw [← hm]; exact hp), ← hm])
        clear hp hm ho hb hlt
        go_wp2_with (first
          | (go_at_call 43; refine CC.out.mono ?_; rintro e w1 ⟨rfl, hb⟩; have O1 := Lib.hid (own_below HO.out hb); have B1 := Lib.hid (below_next HB.out hb); clear hb)
          | (refine build_on (by rfl) 25 #[(0, .tmp 15), (1, .tmp 16)] rfl _ _ (dot_built2 (k : Int) m) (by simp [Act.eval]) ?_)
          | (at_builtin; refine append_dot rfl (.tmp 14) (.tmp 18) 23 rfl w.heap.size 25 i0 Tryd.underlying23 hi hz _ (ofN F k) ((k : Int), m) rfl (O1.out.alloc _) ⟨w1.heap.size, 0, none⟩ 1 rfl ⟨(cell_of_row _ _ 0 _ _ _ (heap_last w1 _)).trans rfl, by rw [Addr.add_lit]; exact (cell_of_row _ _ (0 + 1) _ _ _ (heap_last w1 _)).trans rfl⟩ (by have := HL.out; have := KK.out.1; omega) (by have := B1.out.size; simp <;> omega) ?_; intro v1 w2 ho hg; rw [← HN.out] at ho; have HO1 := Lib.hid ho; have HB1 := Lib.hid (below_grown (B1.out.alloc B1.out.size _) hg (by have := B1.out.size; simp <;> omega) (fun j hj => by have := (O1.out.lt j hj).1; omega)); clear ho hg))
        refine ⟨⟨k + 1, KK.out.1, by simp, HO1.out, HB1.out⟩, ?_⟩
        have := KK.out.2; simp [intOf]; omega
      · have d1 : decide (m > 0) = false := decide_eq_false hp
        have HN := Lib.hid (show ofN F (k + 1) = ofN F k by rw [ofN, if_neg (by rw [← hm]; exact hp), List.append_nil])
        clear hp hm ho hb hlt
        go_wp2_with (first
          | (go_at_call 43; refine CC.out.mono ?_; rintro e w1 ⟨rfl, hb⟩; have O1 := Lib.hid (own_below HO.out hb); have B1 := Lib.hid (below_next HB.out hb); clear hb))
        refine ⟨⟨k + 1, KK.out.1, by simp, by rw [HN.out]; exact O1.out, B1.out⟩, ?_⟩
        have := KK.out.2; simp [intOf]; omega
    · have q0 : ¬ (k : Int) < 32 := by omega
      obtain rfl : k = 32 := by omega
      have HD := Lib.hid (dots_of_own HO.out)
      clear ho hb hlt
      go_wp2
      go_ret
      exact ⟨_, rfl, HD.out, HB.out⟩
end Go.Proofs.YtoephjmjlhgjeaaDoor
namespace Go.Proofs.YtoephjmjlhgjeaaDoor
open Go.RowKit
theorem row_yields {P : Program} {ops : Array Oper} {S : World → Prop} {o : Oper} {a : Act} (hw : Region.wanted o (yielded ops a.tmps) = true) (ty : TypeId) (x : Operand) (ho : o.op = .load ty x) (g : Nat) (hx : a.eval x = .pointer (some ⟨g, 0, none⟩)) (t : TypeId) (cs : Array Value) (fr : Nat × Nat) (d : TypeDesc)
    (hu : P.underlying ty = some d) (hd : (match d with | .struct _ | .array _ _ => true | _ => false) = true) (hi : (P.info? ty).map (·.size) = some cs.size) (hS : ∀ w, S w → w.heap[g]? = some (.cells cs t fr)) : YieldsIf P ops S o (.agg cs) a :=
  .inl ⟨hw, fun w h => by
    unfold execOp
    simp [ho, hx, Instr.loadAt, Instr.sureAddr, run_loadVar_row w g t ty cs fr d (hS w h) hu hd hi]⟩
end Go.Proofs.YtoephjmjlhgjeaaDoor
namespace Go.Proofs.YtoephjmjlhgjeaaDoor
open Go.RowKit
theorem refAll_V (l : List D2) (hl : l.length < 2000000) (v : Value) (w : World) (hv : HasDots w v l) : Calls Tryd.prog 34 #[v] w fun e w' => e = .returned (numsV 32 (allV l)) ∧ Below w.heap.size w w' := refAll_any l hl v w hv
theorem refOf_V (f : Nat → Int) (w : World) : Calls Tryd.prog 33 #[numsV 32 f] w fun e w' => ∃ v, e = .returned v ∧ HasDots w' v (ofV f) ∧ Below w.heap.size w w' := refOf_any f w
set_option maxRecDepth 100000 in
set_option maxHeartbeats 4000000 in
theorem refMay_any10 (l : List D2) (hl : l.length < 2000000) (v : Value) (w : World) (hv : HasDots w v l) : Calls Tryd.prog 11 #[v] w fun e w' => e = .returned (.bool (mayV l)) ∧ Below w.heap.size w w' := by
  have HV := Lib.hid hv
  have A1 := Lib.hid (fun w v hv => refAll_V l hl v w hv)
  have O1 := Lib.hid (fun w => refOf_V (allV l) w)
  have Q1 := Lib.hid (fun w v u hv hu => refEqual_any l (vecOf l) hl v u w hv hu)
  obtain ⟨ao, cap, rfl⟩ := dots_shape hv l.length rfl
  obtain ⟨n, hn⟩ : ∃ n, n = l.length := ⟨_, rfl⟩
  rw [← hn] at HV ⊢
  clear hv hl hn
  go_enter Tryd.func11, Tryd.ntmps11
  go_wp2_with (first
    | (go_at_call 34; refine (A1.out _ _ HV.out).mono ?_; rintro e w1 ⟨rfl, hb⟩; have B1 := Lib.hid hb; clear hb)
    | (go_at_call 33; refine (O1.out _).mono ?_; rintro e w2 ⟨u, rfl, hu, hb⟩; have HU := Lib.hid hu; have B2 := Lib.hid (below_next B1.out hb); clear hu hb)
    | (go_at_call 18; refine (Q1.out _ _ _ (dots_below HV.out B2.out) HU.out).mono ?_; rintro e w3 ⟨rfl, hb⟩; have B3 := Lib.hid (below_next B2.out hb); clear hb))
  go_ret
  exact ⟨rfl, B3.out⟩
set_option maxRecDepth 100000 in
set_option maxHeartbeats 4000000 in
theorem refSame_any10 (a b : List D2) (ha : a.length < 2000000) (hb : b.length < 2000000) (v u : Value) (w : World) (hv : HasDots w v a) (hu : HasDots w u b) : Calls Tryd.prog 13 #[v, u] w fun e w' => e = .returned (.bool (sameV a b)) ∧ Below w.heap.size w w' := by
  have HV := Lib.hid hv
  have HU := Lib.hid hu
  have A1 := Lib.hid (fun w v hv => refAll_V a ha v w hv)
  have A2 := Lib.hid (fun w v hv => refAll_V b hb v w hv)
  have E1 := eql_nums (P := Tryd.prog) Tryd.underlying47 Tryd.underlying2 (by kernel_rfl) (allV a) (allV b) (sameN_V a b)
  have E2 := fun x y => guard_nums (P := Tryd.prog) (t := 47) (by kernel_rfl) x y 32 (allV a) (allV b)
  obtain ⟨ao, cap, rfl⟩ := dots_shape hv a.length rfl
  obtain ⟨ao2, cap2, rfl⟩ := dots_shape hu b.length rfl
  obtain ⟨n, hn⟩ : ∃ n, n = a.length := ⟨_, rfl⟩
  obtain ⟨m, hm⟩ : ∃ m, m = b.length := ⟨_, rfl⟩
  rw [← hn] at HV ⊢
  rw [← hm] at HU ⊢
  clear hv hu ha hb hn hm
  go_enter Tryd.func13, Tryd.ntmps13
  go_wp2_with (first
    | (go_at_call 34; with_reducible refine (A1.out w _ HV.out).mono ?_; rintro e w1 ⟨rfl, hb⟩; have B1 := Lib.hid hb; clear hb)
    | (go_at_call 34; with_reducible refine (A2.out w1 _ (dots_below HU.out B1.out)).mono ?_; rintro e w2 ⟨rfl, hb⟩; have B2 := Lib.hid (below_next B1.out hb); clear hb))
  go_ret
  exact ⟨rfl, B2.out⟩
set_option maxRecDepth 100000 in
set_option maxHeartbeats 4000000 in
theorem refGet_any10 (l : List D2) (hl : l.length < 2000000) (r : Int) (v : Value) (w : World) (hv : HasDots w v l) : Calls Tryd.prog 15 #[v, .int .i64 r] w fun e w' => e = .returned (.int .i64 (getV l r)) ∧ Below w.heap.size w w' := by
  have HV := Lib.hid hv
  have A1 := Lib.hid (fun w v hv => refAll_V l hl v w hv)
  obtain ⟨ao, cap, rfl⟩ := dots_shape hv l.length rfl
  obtain ⟨n, hn⟩ : ∃ n, n = l.length := ⟨_, rfl⟩
  rw [← hn] at HV ⊢
  clear hv hl hn
  by_cases h0 : r < 0
  · have d1 : decide (r < 0) = true := decide_eq_true h0
    have HR := Lib.hid (show getV l r = 0 by rw [getV, if_pos (.inl h0)])
    clear h0
    go_enter Tryd.func15, Tryd.ntmps15
    go_wp2
    go_ret
    exact ⟨by rw [HR.out]; rfl, Below.refl _ _⟩
  · have d1 : decide (r < 0) = false := decide_eq_false h0
    by_cases h1 : 31 < r
    · have d2 : decide (r > 31) = true := decide_eq_true h1
      have HR := Lib.hid (show getV l r = 0 by rw [getV, if_pos (.inr h1)])
      clear h0 h1
      go_enter Tryd.func15, Tryd.ntmps15
      go_wp2
      go_ret
      exact ⟨by rw [HR.out]; rfl, Below.refl _ _⟩
    · have d2 : decide (r > 31) = false := decide_eq_false h1
      obtain ⟨i, hi⟩ : ∃ i : Nat, r = (i : Int) := ⟨r.toNat, by omega⟩
      subst hi
      have ix := fun w => index_nums (P := Tryd.prog) w (t := 47) (n := 32) (allV l) i (by omega) Tryd.underlying47 Tryd.underlying2 (by kernel_rfl)
      replace ix : ∀ w, (Instr.index 47 (numsV 32 (allV l)) (.int .i64 (i : Int))).run Tryd.prog w = .ok (.int .i64 (allV l i)) w := ix
      have HR := Lib.hid (show getV l (i : Int) = allV l i by rw [getV, if_neg (by omega), Int.toNat_natCast])
      clear h0 h1
      go_enter Tryd.func15, Tryd.ntmps15
      go_wp2_with (first
        | (go_at_call 34; refine (A1.out w _ HV.out).mono ?_; rintro e w1 ⟨rfl, hb⟩; have B1 := Lib.hid hb; clear hb))
      go_ret
      exact ⟨by rw [HR.out]; rfl, B1.out⟩
set_option maxRecDepth 100000 in
set_option maxHeartbeats 8000000 in
theorem refHas_any10 (l : List D2) (hl : l.length < 2000000) (r q : Int) (v : Value) (w : World) (hv : HasDots w v l) : Calls Tryd.prog 17 #[v, .agg #[.int .i64 r, .int .i64 q]] w fun e w' => e = .returned (.bool (hasV l r q)) ∧ Below w.heap.size w w' := by
  have HV := Lib.hid hv
  have MY := Lib.hid (fun w => refMay_any9 r q w)
  have GT := Lib.hid (fun w hv => refGet_any10 l hl r v w hv)
  have E0 := Lib.hid (show (w.alloc (.cells #[.int .i64 r, .int .i64 q] 25 (0, 0))).heap[w.heap.size]? = some (.cells #[.int .i64 r, .int .i64 q] 25 (0, 0)) from one_box w r q)
  obtain ⟨c0, c1⟩ := dot_cells (show _ = some (dotO r q) from E0.out)
  have C0 := Lib.hid c0
  have C1 := Lib.hid c1
  have B0 := Lib.hid ((Below.refl w.heap.size w).alloc (Nat.le_refl _) (.cells #[.int .i64 r, .int .i64 q] 25 (0, 0)))
  obtain ⟨ao, cap, rfl⟩ := dots_shape hv l.length rfl
  obtain ⟨n, hn⟩ : ∃ n, n = l.length := ⟨_, rfl⟩
  rw [← hn] at HV GT ⊢
  obtain ⟨G, hG⟩ : ∃ G, G = getV l r := ⟨_, rfl⟩
  rw [← hG] at GT
  have HR := Lib.hid (show hasV l r q = (mayD r q && decide (q ≤ G)) by rw [hasV, hG])
  clear hv hl hn hG c0 c1
  cases hm : mayD r q with
  | true =>
    rw [hm] at MY HR
    clear hm
    go_enter Tryd.func17, Tryd.ntmps17
    go_wp2
    generalize w.alloc (.cells #[.int .i64 r, .int .i64 q] 25 (0, 0)) = W0 at *
    refine wp_region_held_drew (S := fun w' => Below W0.heap.size W0 w') (by kernel_rfl) (drawS (Below.refl _ _)) (fun hHeld => ?_)
    generalize W0.drew = wd at hHeld ⊢
    refine take_at (i := 0) 5 rfl rfl (by kernel_rfl) (by kernel_rfl) (by kernel_rfl) (fun _ _ _ h => h) (row_yields (by rfl) 25 (.tmp 3) rfl w.heap.size rfl 25 _ (0, 0) _ Tryd.underlying25 rfl (by kernel_rfl) (fun _ h => row_kept E0.out h)) hHeld ?_
    simp only [List.setIfInBounds_toArray, List.set_cons_zero, List.set_cons_succ]
    refine wpAnyH_ready (rs := [1]) (by kernel_rfl) (by simp) ?_
    refine AllReadyH.cons rfl (fun K hK => ?_) AllReadyH.nil
    go_simp
    go_at_call 31
    refine (MY.out _).mono ?_
    rintro e w6 ⟨rfl, hb⟩
    dsimp only
    refine hK.out _ _ (below_next hHeld hb) (fun hHeld => ?_)
    clear hK K hb
    refine take_at (i := 2) 7 rfl rfl (by kernel_rfl) (by kernel_rfl) (by kernel_rfl) (fun _ _ _ h => h) (sure_yes (by rfl) (fun w => by go_simp; try with_reducible rfl)) hHeld ?_
    simp only [List.setIfInBounds_toArray, List.set_cons_zero, List.set_cons_succ]
    refine take_at (i := 3) 8 rfl rfl (by kernel_rfl) (by kernel_rfl) (by kernel_rfl) (fun _ _ _ h => h) (sure_yes (by rfl) (fun w => by go_simp; try with_reducible rfl)) hHeld ?_
    simp only [List.setIfInBounds_toArray, List.set_cons_zero, List.set_cons_succ]
    refine take_at (i := 5) 10 rfl rfl (by kernel_rfl) (by kernel_rfl) (by kernel_rfl) (fun _ _ _ h => h) (sure_yes (by rfl) (fun w => by go_simp; try with_reducible rfl)) hHeld ?_
    simp only [List.setIfInBounds_toArray, List.set_cons_zero, List.set_cons_succ]
    refine take_at (i := 6) 11 rfl rfl (by kernel_rfl) (by kernel_rfl) (by kernel_rfl) (fun _ _ _ h => h) (sure_yes (by rfl) (fun w => by go_simp; try with_reducible rfl)) hHeld ?_
    simp only [List.setIfInBounds_toArray, List.set_cons_zero, List.set_cons_succ]
    refine take_at (i := 4) 9 rfl rfl (by kernel_rfl) (by kernel_rfl) (by kernel_rfl) (fun _ _ _ h => h) (cell_yields (by rfl) 2 (.tmp 8) rfl w.heap.size 1 rfl .i64 q Tryd.underlying2 (fun w h => (World.cell?_of_block (h.block _ (World.block_lt_of_cell? _ _ C1.out))).trans C1.out)) hHeld ?_
    simp only [List.setIfInBounds_toArray, List.set_cons_zero, List.set_cons_succ]
    refine take_at (i := 7) 12 rfl rfl (by kernel_rfl) (by kernel_rfl) (by kernel_rfl) (fun _ _ _ h => h) (cell_yields (by rfl) 3 (.tmp 11) rfl w.heap.size 0 rfl .i64 r Tryd.underlying3 (fun w h => (World.cell?_of_block (h.block _ (World.block_lt_of_cell? _ _ C0.out))).trans C0.out)) hHeld ?_
    simp only [List.setIfInBounds_toArray, List.set_cons_zero, List.set_cons_succ]
    refine wpAnyH_ready (rs := [8]) (by kernel_rfl) (by simp) ?_
    refine AllReadyH.cons rfl (fun K hK => ?_) AllReadyH.nil
    go_simp
    go_at_call 15
    refine (GT.out _ (dots_below HV.out (below_next B0.out hHeld))).mono ?_
    rintro e w6 ⟨rfl, hb⟩
    dsimp only
    refine hK.out _ _ (below_next hHeld hb) (fun hHeld => ?_)
    clear hK K hb
    refine take_at (i := 9) 14 rfl rfl (by kernel_rfl) (by kernel_rfl) (by kernel_rfl) (fun _ _ _ h => h) (sure_yes (by rfl) (fun w => by go_simp; try with_reducible rfl)) hHeld ?_
    simp only [List.setIfInBounds_toArray, List.set_cons_zero, List.set_cons_succ]
    refine take_at (i := 10) 15 rfl rfl (by kernel_rfl) (by kernel_rfl) (by kernel_rfl) (fun _ _ _ h => h) (sure_yes (by rfl) (fun w => by go_simp; try with_reducible rfl)) hHeld ?_
    simp only [List.setIfInBounds_toArray, List.set_cons_zero, List.set_cons_succ]
    refine take_at (i := 11) 4 rfl rfl (by kernel_rfl) (by kernel_rfl) (by kernel_rfl) (fun _ _ _ h => h) (sure_yes (by rfl) (fun w => by go_simp; try with_reducible rfl)) hHeld ?_
    simp only [List.setIfInBounds_toArray, List.set_cons_zero, List.set_cons_succ]
    refine wpAnyH_done (by kernel_rfl) ?_ _
    go_wp2
    go_ret
    exact ⟨by rw [HR.out]; rfl, below_next B0.out hHeld⟩
  | false =>
    rw [hm] at MY HR
    clear hm
    go_enter Tryd.func17, Tryd.ntmps17
    go_wp2
    generalize w.alloc (.cells #[.int .i64 r, .int .i64 q] 25 (0, 0)) = W0 at *
    refine wp_region_held_drew (S := fun w' => Below W0.heap.size W0 w') (by kernel_rfl) (drawS (Below.refl _ _)) (fun hHeld => ?_)
    generalize W0.drew = wd at hHeld ⊢
    refine take_at (i := 0) 5 rfl rfl (by kernel_rfl) (by kernel_rfl) (by kernel_rfl) (fun _ _ _ h => h) (row_yields (by rfl) 25 (.tmp 3) rfl w.heap.size rfl 25 _ (0, 0) _ Tryd.underlying25 rfl (by kernel_rfl) (fun _ h => row_kept E0.out h)) hHeld ?_
    simp only [List.setIfInBounds_toArray, List.set_cons_zero, List.set_cons_succ]
    refine wpAnyH_ready (rs := [1]) (by kernel_rfl) (by simp) ?_
    refine AllReadyH.cons rfl (fun K hK => ?_) AllReadyH.nil
    go_simp
    go_at_call 31
    refine (MY.out _).mono ?_
    rintro e w6 ⟨rfl, hb⟩
    dsimp only
    refine hK.out _ _ (below_next hHeld hb) (fun hHeld => ?_)
    clear hK K hb
    refine take_at (i := 2) 7 rfl rfl (by kernel_rfl) (by kernel_rfl) (by kernel_rfl) (fun _ _ _ h => h) (sure_yes (by rfl) (fun w => by go_simp; try with_reducible rfl)) hHeld ?_
    simp only [List.setIfInBounds_toArray, List.set_cons_zero, List.set_cons_succ]
    refine take_at (i := 3) 8 rfl rfl (by kernel_rfl) (by kernel_rfl) (by kernel_rfl) (fun _ _ _ h => h) (.inr ⟨by rfl, rfl⟩) hHeld ?_
    simp only [List.setIfInBounds_toArray, List.set_cons_zero, List.set_cons_succ]
    refine take_at (i := 4) 9 rfl rfl (by kernel_rfl) (by kernel_rfl) (by kernel_rfl) (fun _ _ _ h => h) (.inr ⟨by rfl, rfl⟩) hHeld ?_
    simp only [List.setIfInBounds_toArray, List.set_cons_zero, List.set_cons_succ]
    refine take_at (i := 5) 10 rfl rfl (by kernel_rfl) (by kernel_rfl) (by kernel_rfl) (fun _ _ _ h => h) (.inr ⟨by rfl, rfl⟩) hHeld ?_
    simp only [List.setIfInBounds_toArray, List.set_cons_zero, List.set_cons_succ]
    refine take_at (i := 6) 11 rfl rfl (by kernel_rfl) (by kernel_rfl) (by kernel_rfl) (fun _ _ _ h => h) (.inr ⟨by rfl, rfl⟩) hHeld ?_
    simp only [List.setIfInBounds_toArray, List.set_cons_zero, List.set_cons_succ]
    refine take_at (i := 7) 12 rfl rfl (by kernel_rfl) (by kernel_rfl) (by kernel_rfl) (fun _ _ _ h => h) (.inr ⟨by rfl, rfl⟩) hHeld ?_
    simp only [List.setIfInBounds_toArray, List.set_cons_zero, List.set_cons_succ]
    refine take_at (i := 8) 13 rfl rfl (by kernel_rfl) (by kernel_rfl) (by kernel_rfl) (fun _ _ _ h => h) (.inr ⟨by rfl, rfl⟩) hHeld ?_
    simp only [List.setIfInBounds_toArray, List.set_cons_zero, List.set_cons_succ]
    refine take_at (i := 9) 14 rfl rfl (by kernel_rfl) (by kernel_rfl) (by kernel_rfl) (fun _ _ _ h => h) (.inr ⟨by rfl, rfl⟩) hHeld ?_
    simp only [List.setIfInBounds_toArray, List.set_cons_zero, List.set_cons_succ]
    refine take_at (i := 10) 15 rfl rfl (by kernel_rfl) (by kernel_rfl) (by kernel_rfl) (fun _ _ _ h => h) (sure_yes (by rfl) (fun w => by go_simp; try with_reducible rfl)) hHeld ?_
    simp only [List.setIfInBounds_toArray, List.set_cons_zero, List.set_cons_succ]
    refine take_at (i := 11) 4 rfl rfl (by kernel_rfl) (by kernel_rfl) (by kernel_rfl) (fun _ _ _ h => h) (sure_yes (by rfl) (fun w => by go_simp; try with_reducible rfl)) hHeld ?_
    simp only [List.setIfInBounds_toArray, List.set_cons_zero, List.set_cons_succ]
    refine wpAnyH_done (by kernel_rfl) ?_ _
    go_wp2
    go_ret
    exact ⟨by rw [HR.out]; rfl, below_next B0.out hHeld⟩
end Go.Proofs.YtoephjmjlhgjeaaDoor
