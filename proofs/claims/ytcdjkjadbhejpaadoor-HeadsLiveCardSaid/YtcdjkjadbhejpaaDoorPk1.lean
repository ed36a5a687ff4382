/-
Texts that all claims of this seat share, part 1: Ref10, Ref10Of, Events, EvSlices, EvLaws, Ready, DotFace, HeadsMem.
-/
import Derived.StillTailTactics
import Derived.Deep.MidRow
import Derived.Deep.Slices
import Derived.Laws.AppendOwn
import Derived.Laws.OwnMore
import Derived.Deep.AppendLies
import Derived.OwnWalk
import Derived.Great.Walk
import Derived.Test.YtcdjkjadbhejpaaDoorPk0
namespace Go.Proofs.YtcdjkjadbhejpaaDoor
open Go.RowKit
/-- A number loaded from an address that is known in every world at hand. -/
theorem addr_yields {P : Program} {ops : Array Oper} {S : World → Prop} {o : Oper} {a : Act} (hw : Region.wanted o (yielded ops a.tmps) = true) (ty : TypeId) (x : Operand) (ho : o.op = .load ty x)
    (A : Addr) (hx : a.eval x = .pointer (some A)) (k : IntKind) (z : Int) (hu : P.underlying ty = some (.int k)) (hS : ∀ w, S w → w.cell? A = some (.int k z)) : YieldsIf P ops S o (.int k z) a :=
  .inl ⟨hw, fun w h => by
    have hc := hS w h
    unfold execOp
    simp [ho, hx, Instr.loadAt, Instr.sureAddr, loadVar, isAgg, run_underlying hu, hc]⟩
/-- A dot loaded from an address whose two cells are known in every world at hand. -/
theorem dot_yields {P : Program} {ops : Array Oper} {S : World → Prop} {o : Oper} {a : Act} (hw : Region.wanted o (yielded ops a.tmps) = true) (ty : TypeId) (x : Operand) (ho : o.op = .load ty x)
    (A : Addr) (hx : a.eval x = .pointer (some A)) (r q : Int) {fs : Array Field} (hu : P.underlying ty = some (.struct fs)) (hi : (P.info? ty).map (·.size) = some 2) (hS : ∀ w, S w → w.cell? A = some (.int .i64 r) ∧ w.cell? ⟨A.block, A.off + 1, none⟩ = some (.int .i64 q)) : YieldsIf P ops S o (.agg #[.int .i64 r, .int .i64 q]) a :=
  .inl ⟨hw, fun w h => by
    obtain ⟨h1, h2⟩ := hS w h
    have h3 : w.cell? (A.add 1) = some (.int .i64 q) := by rw [addr_next2 A 0]; simpa [Addr.add] using h2
    have h0 : A.add 0 = A := by unfold Addr.add; split <;> simp_all
    have hl : (loadCells A [Value.int .i64 r, Value.int .i64 q].length).run P w = .ok [Value.int .i64 r, Value.int .i64 q].toArray w :=
      run_loadCells_list (P := P) w A [Value.int .i64 r, Value.int .i64 q] (fun j v hv => by
        match j, hv with
        | 0, hv => rw [h0, h1]; exact hv
        | 1, hv => rw [h3]; exact hv)
    cases hq : P.info? ty with
    | none => simp [hq] at hi
    | some i =>
      have hs : i.size = 2 := by simpa [hq] using hi
      have hl2 : (loadCells A 2).run P w = .ok #[Value.int .i64 r, Value.int .i64 q] w := hl
      unfold execOp
      simp [ho, hx, Instr.loadAt, Instr.sureAddr, loadVar, isAgg, run_underlying hu, sizeOf, typeInfo, hq, hs, hl2]⟩

theorem zero32 : (Tryd.prog.info? 62).map (fun i => i.zero) = some (some (.agg (nums 32 fun _ => 0))) := by kernel_rfl
theorem allV_at {l : List D2} {k : Nat} {d : D2} (hd : l[k]? = some d) (i : Nat) : allV (l.take (k + 1)) i = seen i (allV (l.take k) i) d := by
  obtain ⟨h, rfl⟩ := List.getElem?_eq_some_iff.1 hd
  exact allV_take h i
theorem drawS {W w : World} (h : Below W.heap.size W w) : Below W.heap.size W w.drew := ⟨h.os, h.tape, h.output, h.size, h.block⟩
set_option maxRecDepth 100000 in
set_option maxHeartbeats 16000000 in
theorem refAll_any (l : List D2) (hl : l.length < 2000000) (v : Value) (w : World) (hv : HasDots w v l) : Calls Tryd.prog 38 #[v] w fun e w' => e = .returned (.agg (nums 32 (allV l))) ∧ Below w.heap.size w w' := by
  have HV := Lib.hid hv
  obtain ⟨n, hn⟩ : ∃ n, n = l.length := ⟨_, rfl⟩
  obtain ⟨ao, cap, rfl⟩ := dots_shape hv n hn
  have HN := Lib.hid hn
  have hn4 : n < 2000000 := by omega
  have Z0 := heap_last w (.cells (nums 32 fun _ => 0) 62 (0, 0))
  have Z1 := heap_last (w.alloc (.cells (nums 32 fun _ => 0) 62 (0, 0))) (.cells (nums 32 fun _ => 0) 62 (0, 0))
  have HZ := Lib.hid (And.intro (show ((w.alloc (.cells (nums 32 fun _ => 0) 62 (0, 0))).alloc (.cells (nums 32 fun _ => 0) 62 (0, 0))).heap[w.heap.size]? = some (.cells (nums 32 fun _ => 0) 62 (0, 0)) by rw [heap_at_alloc, if_neg (by simp)]; exact Z0) (by rwa [World.size_alloc] at Z1))
  have HB := Lib.hid (((Below.refl w.heap.size w).alloc (Nat.le_refl _) (.cells (nums 32 fun _ => 0) 62 (0, 0))).alloc (by simp) (.cells (nums 32 fun _ => 0) 62 (0, 0)))
  clear hn hv hl Z0 Z1
  go_enter Tryd.func38, Tryd.ntmps38
  go_wp2_with (first | (refine alloc_as rfl 62 rfl _ zero32 ?_))
  go_loopw [4] (fun c wr => ∃ k : Nat, k ≤ n ∧ c = .int .i64 (k : Int) ∧ wr.heap[w.heap.size]? = some (.cells (nums 32 fun _ => 0) 62 (0, 0)) ∧ wr.heap[w.heap.size + 1]? = some (.cells (nums 32 (allV (l.take k))) 62 (0, 0)) ∧ Below w.heap.size w wr) (fun c _ => n - (intOf c).toNat)
  case atStart => exact ⟨0, Nat.zero_le _, rfl, HZ.out.1, HZ.out.2, HB.out⟩
  case round =>
    clear HZ HB
    obtain ⟨k, hk, rfl, hz, ho, hb⟩ := hrel
    by_cases hlt : k < n
    · have q0 : (k : Int) < (n : Int) := by omega
      have hkl : k < l.length := by rw [← HN.out]; exact hlt
      obtain ⟨d, hd⟩ : ∃ d, l[k]? = some d := ⟨_, List.getElem?_eq_getElem hkl⟩
      have HA := Lib.hid (allV_at hd)
      obtain ⟨r, q⟩ := d
      obtain ⟨ad, cap', e, c0, c1⟩ := dots_at (dots_below HV.out hb) n k HN.out.symm _ hd
      cases e
      have C0 := Lib.hid c0
      have C1 := Lib.hid c1
      have HZ := Lib.hid hz
      have HO := Lib.hid ho
      have HB := Lib.hid hb
      have MY := Lib.hid (fun w => refMay_any9 r q w)
      have KK := Lib.hid (show k + 1 ≤ n ∧ n - (k + 1) < n - k by omega)
      clear c0 c1 hz ho hb hd hkl
      cases hm : mayD r q with
      | false =>
        rw [hm] at MY
        have HS := Lib.hid (show nums 32 (allV (l.take (k + 1))) = nums 32 (allV (l.take k)) from nums_congr _ _ _ fun i _ => by
          rw [HA.out i, seen, if_neg (fun h => by have h2 := h.1; rw [mayT, hm] at h2; cases h2)])
        clear hm HA
        go_wp2
        refine wp_region_held_drew (S := fun w' => Below wr.heap.size wr w') (by kernel_rfl) (drawS (Below.refl _ _)) (fun hHeld => ?_)
        generalize wr.drew = wd at hHeld ⊢
        refine take_at (i := 0) 11 rfl rfl (by kernel_rfl) (by kernel_rfl) (by kernel_rfl) (fun _ _ _ h => h) (sure_yes (by rfl) (fun w => by go_simp; try with_reducible rfl)) hHeld ?_
        simp only [List.setIfInBounds_toArray, List.set_cons_zero, List.set_cons_succ]
        refine take_at (i := 1) 12 rfl rfl (by kernel_rfl) (by kernel_rfl) (by kernel_rfl) (fun _ _ _ h => h) (sure_yes (by rfl) (fun w => by go_simp; try with_reducible rfl)) hHeld ?_
        simp only [List.setIfInBounds_toArray, List.set_cons_zero, List.set_cons_succ]
        refine take_at (i := 2) 13 rfl rfl (by kernel_rfl) (by kernel_rfl) (by kernel_rfl) (fun _ _ _ h => h) (sure_yes (by rfl) (fun w => by go_simp; try with_reducible rfl)) hHeld ?_
        simp only [List.setIfInBounds_toArray, List.set_cons_zero, List.set_cons_succ]
        refine take_at (i := 3) 14 rfl rfl (by kernel_rfl) (by kernel_rfl) (by kernel_rfl) (fun _ _ _ h => h) (dot_yields (by rfl) 24 (.tmp 13) rfl (ad.add (k * 2)) rfl r q Tryd.underlying24 (by kernel_rfl) (fun w h => ⟨(World.cell?_of_block (h.block _ (World.block_lt_of_cell? _ _ C0.out))).trans C0.out, (World.cell?_of_block (h.block _ (World.block_lt_of_cell? _ _ C1.out))).trans C1.out⟩)) hHeld ?_
        simp only [List.setIfInBounds_toArray, List.set_cons_zero, List.set_cons_succ]
        refine wpAnyH_ready (rs := [4]) (by kernel_rfl) (by simp) ?_
        refine AllReadyH.cons rfl (fun K hK => ?_) AllReadyH.nil
        go_simp
        go_at_call 37
        refine (MY.out _).mono ?_
        rintro e w6 ⟨rfl, hb⟩
        dsimp only
        refine hK.out _ _ (below_next hHeld hb) (fun hHeld => ?_)
        clear hK K hb
        refine take_at (i := 5) 16 rfl rfl (by kernel_rfl) (by kernel_rfl) (by kernel_rfl) (fun _ _ _ h => h) (sure_yes (by rfl) (fun w => by go_simp; try with_reducible rfl)) hHeld ?_
        simp only [List.setIfInBounds_toArray, List.set_cons_zero, List.set_cons_succ]
        refine take_at (i := 6) 17 rfl rfl (by kernel_rfl) (by kernel_rfl) (by kernel_rfl) (fun _ _ _ h => h) (.inr ⟨by rfl, rfl⟩) hHeld ?_
        simp only [List.setIfInBounds_toArray, List.set_cons_zero, List.set_cons_succ]
        refine take_at (i := 7) 18 rfl rfl (by kernel_rfl) (by kernel_rfl) (by kernel_rfl) (fun _ _ _ h => h) (.inr ⟨by rfl, rfl⟩) hHeld ?_
        simp only [List.setIfInBounds_toArray, List.set_cons_zero, List.set_cons_succ]
        refine take_at (i := 8) 19 rfl rfl (by kernel_rfl) (by kernel_rfl) (by kernel_rfl) (fun _ _ _ h => h) (.inr ⟨by rfl, rfl⟩) hHeld ?_
        simp only [List.setIfInBounds_toArray, List.set_cons_zero, List.set_cons_succ]
        refine take_at (i := 9) 20 rfl rfl (by kernel_rfl) (by kernel_rfl) (by kernel_rfl) (fun _ _ _ h => h) (.inr ⟨by rfl, rfl⟩) hHeld ?_
        simp only [List.setIfInBounds_toArray, List.set_cons_zero, List.set_cons_succ]
        refine take_at (i := 10) 21 rfl rfl (by kernel_rfl) (by kernel_rfl) (by kernel_rfl) (fun _ _ _ h => h) (.inr ⟨by rfl, rfl⟩) hHeld ?_
        simp only [List.setIfInBounds_toArray, List.set_cons_zero, List.set_cons_succ]
        refine take_at (i := 11) 22 rfl rfl (by kernel_rfl) (by kernel_rfl) (by kernel_rfl) (fun _ _ _ h => h) (.inr ⟨by rfl, rfl⟩) hHeld ?_
        simp only [List.setIfInBounds_toArray, List.set_cons_zero, List.set_cons_succ]
        refine take_at (i := 12) 23 rfl rfl (by kernel_rfl) (by kernel_rfl) (by kernel_rfl) (fun _ _ _ h => h) (.inr ⟨by rfl, rfl⟩) hHeld ?_
        simp only [List.setIfInBounds_toArray, List.set_cons_zero, List.set_cons_succ]
        refine take_at (i := 13) 24 rfl rfl (by kernel_rfl) (by kernel_rfl) (by kernel_rfl) (fun _ _ _ h => h) (.inr ⟨by rfl, rfl⟩) hHeld ?_
        simp only [List.setIfInBounds_toArray, List.set_cons_zero, List.set_cons_succ]
        refine take_at (i := 14) 25 rfl rfl (by kernel_rfl) (by kernel_rfl) (by kernel_rfl) (fun _ _ _ h => h) (.inr ⟨by rfl, rfl⟩) hHeld ?_
        simp only [List.setIfInBounds_toArray, List.set_cons_zero, List.set_cons_succ]
        refine take_at (i := 15) 26 rfl rfl (by kernel_rfl) (by kernel_rfl) (by kernel_rfl) (fun _ _ _ h => h) (.inr ⟨by rfl, rfl⟩) hHeld ?_
        simp only [List.setIfInBounds_toArray, List.set_cons_zero, List.set_cons_succ]
        refine take_at (i := 16) 27 rfl rfl (by kernel_rfl) (by kernel_rfl) (by kernel_rfl) (fun _ _ _ h => h) (.inr ⟨by rfl, rfl⟩) hHeld ?_
        simp only [List.setIfInBounds_toArray, List.set_cons_zero, List.set_cons_succ]
        refine take_at (i := 17) 28 rfl rfl (by kernel_rfl) (by kernel_rfl) (by kernel_rfl) (fun _ _ _ h => h) (.inr ⟨by rfl, rfl⟩) hHeld ?_
        simp only [List.setIfInBounds_toArray, List.set_cons_zero, List.set_cons_succ]
        refine take_at (i := 18) 29 rfl rfl (by kernel_rfl) (by kernel_rfl) (by kernel_rfl) (fun _ _ _ h => h) (.inr ⟨by rfl, rfl⟩) hHeld ?_
        simp only [List.setIfInBounds_toArray, List.set_cons_zero, List.set_cons_succ]
        refine take_at (i := 19) 30 rfl rfl (by kernel_rfl) (by kernel_rfl) (by kernel_rfl) (fun _ _ _ h => h) (sure_yes (by rfl) (fun w => by go_simp; try with_reducible rfl)) hHeld ?_
        simp only [List.setIfInBounds_toArray, List.set_cons_zero, List.set_cons_succ]
        refine wpAnyH_done (by kernel_rfl) ?_ _
        go_wp2
        refine ⟨⟨k + 1, KK.out.1, by simp, row_kept HZ.out hHeld, by rw [HS.out]; exact row_kept HO.out hHeld, below_next HB.out hHeld⟩, ?_⟩
        simp [intOf]; exact KK.out.2
      | true =>
        rw [hm] at MY
        have hb := mayT_bd (d := (r, q)) hm
        simp only at hb
        obtain ⟨i, hi⟩ : ∃ i : Nat, r = (i : Int) := ⟨r.toNat, by omega⟩
        subst hi
        have hi32 : i < 32 := by omega
        have qi : (i : Int) < 32 := by omega
        obtain ⟨m, hme⟩ : ∃ m, m = allV (l.take k) i := ⟨_, rfl⟩
        have CM := Lib.hid (show wr.cell? ⟨w.heap.size + 1, i, none⟩ = some (.int .i64 m) by rw [hme]; exact nums_cell HO.out i hi32)
        by_cases hgt : m < q
        · have d1 : decide (q > m) = true := decide_eq_true hgt
          have HS := Lib.hid (show (nums 32 (allV (l.take k))).setIfInBounds i (.int .i64 q) = nums 32 (allV (l.take (k + 1))) from nums_set _ _ _ _ _ fun j _ => by
            rw [HA.out j, seen]
            by_cases hj : j = i
            · subst hj; rw [if_pos rfl, if_pos ⟨hm, rfl, by rw [← hme]; exact hgt⟩]
            · rw [if_neg hj, if_neg (fun h => hj (by have := h.2.1; simp only at this; omega))])
          clear hm HA hb hgt hme hi32
          go_wp2
          refine wp_region_held_drew (S := fun w' => Below wr.heap.size wr w') (by kernel_rfl) (drawS (Below.refl _ _)) (fun hHeld => ?_)
          generalize wr.drew = wd at hHeld ⊢
          refine take_at (i := 0) 11 rfl rfl (by kernel_rfl) (by kernel_rfl) (by kernel_rfl) (fun _ _ _ h => h) (sure_yes (by rfl) (fun w => by go_simp; try with_reducible rfl)) hHeld ?_
          simp only [List.setIfInBounds_toArray, List.set_cons_zero, List.set_cons_succ]
          refine take_at (i := 1) 12 rfl rfl (by kernel_rfl) (by kernel_rfl) (by kernel_rfl) (fun _ _ _ h => h) (sure_yes (by rfl) (fun w => by go_simp; try with_reducible rfl)) hHeld ?_
          simp only [List.setIfInBounds_toArray, List.set_cons_zero, List.set_cons_succ]
          refine take_at (i := 2) 13 rfl rfl (by kernel_rfl) (by kernel_rfl) (by kernel_rfl) (fun _ _ _ h => h) (sure_yes (by rfl) (fun w => by go_simp; try with_reducible rfl)) hHeld ?_
          simp only [List.setIfInBounds_toArray, List.set_cons_zero, List.set_cons_succ]
          refine take_at (i := 3) 14 rfl rfl (by kernel_rfl) (by kernel_rfl) (by kernel_rfl) (fun _ _ _ h => h) (dot_yields (by rfl) 24 (.tmp 13) rfl (ad.add (k * 2)) rfl (i : Int) q Tryd.underlying24 (by kernel_rfl) (fun w h => ⟨(World.cell?_of_block (h.block _ (World.block_lt_of_cell? _ _ C0.out))).trans C0.out, (World.cell?_of_block (h.block _ (World.block_lt_of_cell? _ _ C1.out))).trans C1.out⟩)) hHeld ?_
          simp only [List.setIfInBounds_toArray, List.set_cons_zero, List.set_cons_succ]
          refine wpAnyH_ready (rs := [4]) (by kernel_rfl) (by simp) ?_
          refine AllReadyH.cons rfl (fun K hK => ?_) AllReadyH.nil
          go_simp
          go_at_call 37
          refine (MY.out _).mono ?_
          rintro e w6 ⟨rfl, hb⟩
          dsimp only
          refine hK.out _ _ (below_next hHeld hb) (fun hHeld => ?_)
          clear hK K hb
          refine take_at (i := 5) 16 rfl rfl (by kernel_rfl) (by kernel_rfl) (by kernel_rfl) (fun _ _ _ h => h) (sure_yes (by rfl) (fun w => by go_simp; try with_reducible rfl)) hHeld ?_
          simp only [List.setIfInBounds_toArray, List.set_cons_zero, List.set_cons_succ]
          refine take_at (i := 6) 17 rfl rfl (by kernel_rfl) (by kernel_rfl) (by kernel_rfl) (fun _ _ _ h => h) (sure_yes (by rfl) (fun w => by go_simp; try with_reducible rfl)) hHeld ?_
          simp only [List.setIfInBounds_toArray, List.set_cons_zero, List.set_cons_succ]
          refine take_at (i := 7) 18 rfl rfl (by kernel_rfl) (by kernel_rfl) (by kernel_rfl) (fun _ _ _ h => h) (sure_yes (by rfl) (fun w => by go_simp; try with_reducible rfl)) hHeld ?_
          simp only [List.setIfInBounds_toArray, List.set_cons_zero, List.set_cons_succ]
          refine take_at (i := 8) 19 rfl rfl (by kernel_rfl) (by kernel_rfl) (by kernel_rfl) (fun _ _ _ h => h) (sure_yes (by rfl) (fun w => by go_simp; try with_reducible rfl)) hHeld ?_
          simp only [List.setIfInBounds_toArray, List.set_cons_zero, List.set_cons_succ]
          refine take_at (i := 9) 20 rfl rfl (by kernel_rfl) (by kernel_rfl) (by kernel_rfl) (fun _ _ _ h => h) (sure_yes (by rfl) (fun w => by go_simp; try with_reducible rfl)) hHeld ?_
          simp only [List.setIfInBounds_toArray, List.set_cons_zero, List.set_cons_succ]
          refine take_at (i := 11) 22 rfl rfl (by kernel_rfl) (by kernel_rfl) (by kernel_rfl) (fun _ _ _ h => h) (sure_yes (by rfl) (fun w => by go_simp; try with_reducible rfl)) hHeld ?_
          simp only [List.setIfInBounds_toArray, List.set_cons_zero, List.set_cons_succ]
          refine take_at (i := 12) 23 rfl rfl (by kernel_rfl) (by kernel_rfl) (by kernel_rfl) (fun _ _ _ h => h) (sure_yes (by rfl) (fun w => by go_simp; try with_reducible rfl)) hHeld ?_
          simp only [List.setIfInBounds_toArray, List.set_cons_zero, List.set_cons_succ]
          refine take_at (i := 13) 24 rfl rfl (by kernel_rfl) (by kernel_rfl) (by kernel_rfl) (fun _ _ _ h => h) (sure_yes (by rfl) (fun w => by go_simp; try with_reducible rfl)) hHeld ?_
          simp only [List.setIfInBounds_toArray, List.set_cons_zero, List.set_cons_succ]
          refine take_at (i := 14) 25 rfl rfl (by kernel_rfl) (by kernel_rfl) (by kernel_rfl) (fun _ _ _ h => h) (sure_yes (by rfl) (fun w => by go_simp; try with_reducible rfl)) hHeld ?_
          simp only [List.setIfInBounds_toArray, List.set_cons_zero, List.set_cons_succ]
          refine take_at (i := 10) 21 rfl rfl (by kernel_rfl) (by kernel_rfl) (by kernel_rfl) (fun _ _ _ h => h) (addr_yields (by rfl) 2 (.tmp 20) rfl (⟨(ad.add (k * 2)).block, (ad.add (k * 2)).off + 1, none⟩) rfl .i64 (q) Tryd.underlying2 (fun w h => (World.cell?_of_block (h.block _ (World.block_lt_of_cell? _ _ C1.out))).trans C1.out)) hHeld ?_
          simp only [List.setIfInBounds_toArray, List.set_cons_zero, List.set_cons_succ]
          refine take_at (i := 15) 26 rfl rfl (by kernel_rfl) (by kernel_rfl) (by kernel_rfl) (fun _ _ _ h => h) (addr_yields (by rfl) 3 (.tmp 25) rfl (ad.add (k * 2)) rfl .i64 ((i : Int)) Tryd.underlying3 (fun w h => (World.cell?_of_block (h.block _ (World.block_lt_of_cell? _ _ C0.out))).trans C0.out)) hHeld ?_
          simp only [List.setIfInBounds_toArray, List.set_cons_zero, List.set_cons_succ]
          refine take_at (i := 16) 27 rfl rfl (by kernel_rfl) (by kernel_rfl) (by kernel_rfl) (fun _ _ _ h => h) (sure_yes (by rfl) (fun w => by go_simp; try with_reducible rfl)) hHeld ?_
          simp only [List.setIfInBounds_toArray, List.set_cons_zero, List.set_cons_succ]
          refine take_at (i := 17) 28 rfl rfl (by kernel_rfl) (by kernel_rfl) (by kernel_rfl) (fun _ _ _ h => h) (addr_yields (by rfl) 2 (.tmp 27) rfl (⟨w.heap.size + 1, i, none⟩) rfl .i64 (m) Tryd.underlying2 (fun w h => (World.cell?_of_block (h.block _ (World.block_lt_of_cell? _ _ CM.out))).trans CM.out)) hHeld ?_
          simp only [List.setIfInBounds_toArray, List.set_cons_zero, List.set_cons_succ]
          refine take_at (i := 18) 29 rfl rfl (by kernel_rfl) (by kernel_rfl) (by kernel_rfl) (fun _ _ _ h => h) (sure_yes (by rfl) (fun w => by go_simp; try with_reducible rfl)) hHeld ?_
          simp only [List.setIfInBounds_toArray, List.set_cons_zero, List.set_cons_succ]
          refine take_at (i := 19) 30 rfl rfl (by kernel_rfl) (by kernel_rfl) (by kernel_rfl) (fun _ _ _ h => h) (sure_yes (by rfl) (fun w => by go_simp; try with_reducible rfl)) hHeld ?_
          simp only [List.setIfInBounds_toArray, List.set_cons_zero, List.set_cons_succ]
          refine wpAnyH_done (by kernel_rfl) ?_ _
          have c0 := (World.cell?_of_block (hHeld.block _ (World.block_lt_of_cell? _ _ C0.out))).trans C0.out
          have c1 := (World.cell?_of_block (hHeld.block _ (World.block_lt_of_cell? _ _ C1.out))).trans C1.out
          have HO6 := Lib.hid (row_kept HO.out hHeld)
          have HZ6 := Lib.hid (row_kept HZ.out hHeld)
          have HB6 := Lib.hid (below_next HB.out hHeld)
          clear hHeld C0 C1 CM HO HZ HB
          go_wp2
          go_still_tail 11, (by kernel_rfl)
          change wpList _ _ _ _ _ w6.drew
          have hz : w6.drew.heap[w.heap.size]? = _ := HZ6.out
          have ho : w6.drew.heap[w.heap.size + 1]? = _ := HO6.out
          have hb := below_draws HB6.out 1
          change Below _ _ w6.drew at hb
          clear HO6 HZ6 HB6 c0 c1
          generalize w6.drew = w7 at *
          go_wp2_with (first
            | (refine store_cell rfl 2 (.tmp 41) (.tmp 40) rfl rfl .i64 (w.heap.size + 1) i _ q 62 ho rfl rfl (by rw [nums_size]; omega) (by kernel_rfl) ?_; intro w8 hg8 hs8; rw [HS.out] at hg8; have H8 := Lib.hid (And.intro hg8 (And.intro ((hs8.block w.heap.size (by omega)).trans hz) (solo_below hb hs8 (by omega)))); clear hg8 hs8 hz ho hb))
          refine ⟨⟨k + 1, KK.out.1, by simp, H8.out.2.1, H8.out.1, H8.out.2.2⟩, ?_⟩
          simp [intOf]; exact KK.out.2
        · have d1 : decide (q > m) = false := decide_eq_false (by omega)
          have HS := Lib.hid (show nums 32 (allV (l.take (k + 1))) = nums 32 (allV (l.take k)) from nums_congr _ _ _ fun j _ => by
            rw [HA.out j, seen, if_neg (fun h => by
              obtain rfl : j = i := by have := h.2.1; simp only at this; omega
              rw [← hme] at h; exact hgt h.2.2)])
          clear hm HA hb hgt hme hi32
          go_wp2
          refine wp_region_held_drew (S := fun w' => Below wr.heap.size wr w') (by kernel_rfl) (drawS (Below.refl _ _)) (fun hHeld => ?_)
          generalize wr.drew = wd at hHeld ⊢
          refine take_at (i := 0) 11 rfl rfl (by kernel_rfl) (by kernel_rfl) (by kernel_rfl) (fun _ _ _ h => h) (sure_yes (by rfl) (fun w => by go_simp; try with_reducible rfl)) hHeld ?_
          simp only [List.setIfInBounds_toArray, List.set_cons_zero, List.set_cons_succ]
          refine take_at (i := 1) 12 rfl rfl (by kernel_rfl) (by kernel_rfl) (by kernel_rfl) (fun _ _ _ h => h) (sure_yes (by rfl) (fun w => by go_simp; try with_reducible rfl)) hHeld ?_
          simp only [List.setIfInBounds_toArray, List.set_cons_zero, List.set_cons_succ]
          refine take_at (i := 2) 13 rfl rfl (by kernel_rfl) (by kernel_rfl) (by kernel_rfl) (fun _ _ _ h => h) (sure_yes (by rfl) (fun w => by go_simp; try with_reducible rfl)) hHeld ?_
          simp only [List.setIfInBounds_toArray, List.set_cons_zero, List.set_cons_succ]
          refine take_at (i := 3) 14 rfl rfl (by kernel_rfl) (by kernel_rfl) (by kernel_rfl) (fun _ _ _ h => h) (dot_yields (by rfl) 24 (.tmp 13) rfl (ad.add (k * 2)) rfl (i : Int) q Tryd.underlying24 (by kernel_rfl) (fun w h => ⟨(World.cell?_of_block (h.block _ (World.block_lt_of_cell? _ _ C0.out))).trans C0.out, (World.cell?_of_block (h.block _ (World.block_lt_of_cell? _ _ C1.out))).trans C1.out⟩)) hHeld ?_
          simp only [List.setIfInBounds_toArray, List.set_cons_zero, List.set_cons_succ]
          refine wpAnyH_ready (rs := [4]) (by kernel_rfl) (by simp) ?_
          refine AllReadyH.cons rfl (fun K hK => ?_) AllReadyH.nil
          go_simp
          go_at_call 37
          refine (MY.out _).mono ?_
          rintro e w6 ⟨rfl, hb⟩
          dsimp only
          refine hK.out _ _ (below_next hHeld hb) (fun hHeld => ?_)
          clear hK K hb
          refine take_at (i := 5) 16 rfl rfl (by kernel_rfl) (by kernel_rfl) (by kernel_rfl) (fun _ _ _ h => h) (sure_yes (by rfl) (fun w => by go_simp; try with_reducible rfl)) hHeld ?_
          simp only [List.setIfInBounds_toArray, List.set_cons_zero, List.set_cons_succ]
          refine take_at (i := 6) 17 rfl rfl (by kernel_rfl) (by kernel_rfl) (by kernel_rfl) (fun _ _ _ h => h) (sure_yes (by rfl) (fun w => by go_simp; try with_reducible rfl)) hHeld ?_
          simp only [List.setIfInBounds_toArray, List.set_cons_zero, List.set_cons_succ]
          refine take_at (i := 7) 18 rfl rfl (by kernel_rfl) (by kernel_rfl) (by kernel_rfl) (fun _ _ _ h => h) (sure_yes (by rfl) (fun w => by go_simp; try with_reducible rfl)) hHeld ?_
          simp only [List.setIfInBounds_toArray, List.set_cons_zero, List.set_cons_succ]
          refine take_at (i := 8) 19 rfl rfl (by kernel_rfl) (by kernel_rfl) (by kernel_rfl) (fun _ _ _ h => h) (sure_yes (by rfl) (fun w => by go_simp; try with_reducible rfl)) hHeld ?_
          simp only [List.setIfInBounds_toArray, List.set_cons_zero, List.set_cons_succ]
          refine take_at (i := 9) 20 rfl rfl (by kernel_rfl) (by kernel_rfl) (by kernel_rfl) (fun _ _ _ h => h) (sure_yes (by rfl) (fun w => by go_simp; try with_reducible rfl)) hHeld ?_
          simp only [List.setIfInBounds_toArray, List.set_cons_zero, List.set_cons_succ]
          refine take_at (i := 11) 22 rfl rfl (by kernel_rfl) (by kernel_rfl) (by kernel_rfl) (fun _ _ _ h => h) (sure_yes (by rfl) (fun w => by go_simp; try with_reducible rfl)) hHeld ?_
          simp only [List.setIfInBounds_toArray, List.set_cons_zero, List.set_cons_succ]
          refine take_at (i := 12) 23 rfl rfl (by kernel_rfl) (by kernel_rfl) (by kernel_rfl) (fun _ _ _ h => h) (sure_yes (by rfl) (fun w => by go_simp; try with_reducible rfl)) hHeld ?_
          simp only [List.setIfInBounds_toArray, List.set_cons_zero, List.set_cons_succ]
          refine take_at (i := 13) 24 rfl rfl (by kernel_rfl) (by kernel_rfl) (by kernel_rfl) (fun _ _ _ h => h) (sure_yes (by rfl) (fun w => by go_simp; try with_reducible rfl)) hHeld ?_
          simp only [List.setIfInBounds_toArray, List.set_cons_zero, List.set_cons_succ]
          refine take_at (i := 14) 25 rfl rfl (by kernel_rfl) (by kernel_rfl) (by kernel_rfl) (fun _ _ _ h => h) (sure_yes (by rfl) (fun w => by go_simp; try with_reducible rfl)) hHeld ?_
          simp only [List.setIfInBounds_toArray, List.set_cons_zero, List.set_cons_succ]
          refine take_at (i := 10) 21 rfl rfl (by kernel_rfl) (by kernel_rfl) (by kernel_rfl) (fun _ _ _ h => h) (addr_yields (by rfl) 2 (.tmp 20) rfl (⟨(ad.add (k * 2)).block, (ad.add (k * 2)).off + 1, none⟩) rfl .i64 (q) Tryd.underlying2 (fun w h => (World.cell?_of_block (h.block _ (World.block_lt_of_cell? _ _ C1.out))).trans C1.out)) hHeld ?_
          simp only [List.setIfInBounds_toArray, List.set_cons_zero, List.set_cons_succ]
          refine take_at (i := 15) 26 rfl rfl (by kernel_rfl) (by kernel_rfl) (by kernel_rfl) (fun _ _ _ h => h) (addr_yields (by rfl) 3 (.tmp 25) rfl (ad.add (k * 2)) rfl .i64 ((i : Int)) Tryd.underlying3 (fun w h => (World.cell?_of_block (h.block _ (World.block_lt_of_cell? _ _ C0.out))).trans C0.out)) hHeld ?_
          simp only [List.setIfInBounds_toArray, List.set_cons_zero, List.set_cons_succ]
          refine take_at (i := 16) 27 rfl rfl (by kernel_rfl) (by kernel_rfl) (by kernel_rfl) (fun _ _ _ h => h) (sure_yes (by rfl) (fun w => by go_simp; try with_reducible rfl)) hHeld ?_
          simp only [List.setIfInBounds_toArray, List.set_cons_zero, List.set_cons_succ]
          refine take_at (i := 17) 28 rfl rfl (by kernel_rfl) (by kernel_rfl) (by kernel_rfl) (fun _ _ _ h => h) (addr_yields (by rfl) 2 (.tmp 27) rfl (⟨w.heap.size + 1, i, none⟩) rfl .i64 (m) Tryd.underlying2 (fun w h => (World.cell?_of_block (h.block _ (World.block_lt_of_cell? _ _ CM.out))).trans CM.out)) hHeld ?_
          simp only [List.setIfInBounds_toArray, List.set_cons_zero, List.set_cons_succ]
          refine take_at (i := 18) 29 rfl rfl (by kernel_rfl) (by kernel_rfl) (by kernel_rfl) (fun _ _ _ h => h) (sure_yes (by rfl) (fun w => by go_simp; try with_reducible rfl)) hHeld ?_
          simp only [List.setIfInBounds_toArray, List.set_cons_zero, List.set_cons_succ]
          refine take_at (i := 19) 30 rfl rfl (by kernel_rfl) (by kernel_rfl) (by kernel_rfl) (fun _ _ _ h => h) (sure_yes (by rfl) (fun w => by go_simp; try with_reducible rfl)) hHeld ?_
          simp only [List.setIfInBounds_toArray, List.set_cons_zero, List.set_cons_succ]
          refine wpAnyH_done (by kernel_rfl) ?_ _
          go_wp2
          refine ⟨⟨k + 1, KK.out.1, by simp, row_kept HZ.out hHeld, by rw [HS.out]; exact row_kept HO.out hHeld, below_next HB.out hHeld⟩, ?_⟩
          simp [intOf]; exact KK.out.2
    · have q0 : ¬ (k : Int) < (n : Int) := by omega
      have HE := Lib.hid (show l.take k = l by rw [show k = l.length by rw [← HN.out]; omega, List.take_length])
      rw [HE.out] at ho
      have HZ := Lib.hid hz
      have HO := Lib.hid ho
      have HB := Lib.hid hb
      clear hz ho hb
      go_wp2_with (first
        | (refine wpList_load_row rfl 62 (.tmp 3) rfl (w.heap.size + 1) rfl 62 _ (0, 0) _ HO.out Tryd.underlying62 rfl (by rw [nums_size]; kernel_rfl) ?_)
        | (refine wpList_store_row rfl 62 (.tmp 2) (.tmp 42) rfl w.heap.size _ rfl rfl 62 _ HZ.out (by rw [nums_size]; kernel_rfl) (by rw [nums_size, nums_size]) (nums_one _ _) ?_))
      exact bodyPost_ret (results_cell_row Tryd.results38 _ _ w.heap.size 62 _ (0, 0) _ rfl (setRow_heap _ _ _ _ _ _ HZ.out) Tryd.underlying62 rfl (by rw [nums_size]; kernel_rfl)) rfl ⟨rfl, below_setRow HB.out (Nat.le_refl _) _⟩
end Go.Proofs.YtcdjkjadbhejpaaDoor
namespace Go.Proofs.YtcdjkjadbhejpaaDoor
open Go.RowKit
/-- A dot loaded from an address whose two cells are known. -/
theorem load_dot10 {P : Program} {ops : Array Oper} {rest : List Oper} {o : Oper} {a : Act} {w : World} {Q : Exit → Act → World → Prop} (hw : Region.wanted o (yielded ops a.tmps) = true) (ty : TypeId) (x : Operand) (ho : o.op = .load ty x)
    (A : Addr) (hx : a.eval x = .pointer (some A)) (r q : Int) {fs : Array Field} (hu : P.underlying ty = some (.struct fs)) (hi : (P.info? ty).map (·.size) = some 2) (hc : w.cell? A = some (.int .i64 r) ∧ w.cell? ⟨A.block, A.off + 1, none⟩ = some (.int .i64 q))
    (h : wpList P ops Q rest (a.put o.dst (.agg #[.int .i64 r, .int .i64 q])) w) : wpList P ops Q (o :: rest) a w := by
  rcases dot_yields (S := fun w' => w' = w) hw ty x ho A hx r q hu hi (fun w' e => by rw [e]; exact hc) with ⟨-, hy⟩ | ⟨hn, -⟩
  · refine wpList_step fun K hK => ?_
    rw [if_pos hw]
    unfold Oper.wp
    rw [hy w rfl]
    exact hK _ _ h
  · rw [hw] at hn; cases hn
theorem infoDot : ∃ i, Tryd.prog.info? 24 = some i ∧ (i.zero.map (·.cells.size), i.size, i.bytes) = (some 2, 2, 16) := by
  have h : (Tryd.prog.info? 24).map (fun i => (i.zero.map (·.cells.size), i.size, i.bytes)) = some (some 2, 2, 16) := by kernel_rfl
  cases hi : Tryd.prog.info? 24 with
  | none => rw [hi] at h; cases h
  | some i => rw [hi] at h; exact ⟨i, rfl, Option.some.inj h⟩
set_option maxRecDepth 100000 in
theorem dot_built2 (r q : Int) : Tryd.prog.built 24 [(0, .int .i64 r), (1, .int .i64 q)] = some #[.int .i64 r, .int .i64 q] := by rfl
set_option maxRecDepth 100000 in
set_option maxHeartbeats 16000000 in
theorem refOf_typ (f : Nat → Int) (w : World) : Calls Tryd.prog 39 #[.agg (nums 32 f)] w fun e w' => ∃ v, e = .returned v ∧ TypDots w' v (ofV f) ∧ Below w.heap.size w w' := by
  obtain ⟨i0, hi, hz⟩ := infoDot
  have HX := Lib.hid (heap_last w (.cells (nums 32 f) 62 (0, 0)))
  have HB := Lib.hid ((Below.refl w.heap.size w).alloc (Nat.le_refl _) (.cells (nums 32 f) 62 (0, 0)))
  have HW := Lib.hid (show w.heap.size < (w.alloc (.cells (nums 32 f) 62 (0, 0))).heap.size by simp)
  go_enter Tryd.func39, Tryd.ntmps39
  go_wp2
  go_loopw [3, 4] (fun v c wr => ∃ k : Nat, k ≤ 32 ∧ c = .int .i64 (k : Int) ∧ wr.ownsRow (w.heap.size + 1) 24 2 v (ofN f k).length (dotsC (ofN f k)) ∧ wr.heap[w.heap.size]? = some (.cells (nums 32 f) 62 (0, 0)) ∧ w.heap.size < wr.heap.size ∧ Below w.heap.size w wr) (fun _ c _ => 32 - (intOf c).toNat)
  case atStart => exact ⟨0, by omega, rfl, dots_own_nil _ _ _, HX.out, HW.out, HB.out⟩
  case round =>
    clear HX HB HW
    obtain ⟨k, hk, rfl, ho, hx, hs, hb⟩ := hrel
    have HO := Lib.hid ho
    have HX := Lib.hid hx
    have HB := Lib.hid hb
    have HS := Lib.hid hs
    by_cases hlt : k < 32
    · have q0 : (k : Int) < 32 := by omega
      have c0 := nums_cell HX.out k hlt
      have HL := Lib.hid (ofN_length f k)
      have KK := Lib.hid (show k + 1 ≤ 32 ∧ 32 - (k + 1) < 32 - k by omega)
      obtain ⟨m, hm⟩ : ∃ m, m = f k := ⟨_, rfl⟩
      rw [← hm] at c0
      by_cases hp : 0 < m
      · have d1 : decide (m > 0) = true := decide_eq_true hp
        have HN := Lib.hid (show ofN f (k + 1) = ofN f k ++ [((k : Int), m)] by rw [ofN, if_pos (by rw [← hm]; exact hp), ← hm])
        clear hp hm ho hx hb hs hlt
        go_wp2_with (first
          | (refine build_on (by rfl) 24 #[(0, .tmp 14), (1, .tmp 17)] rfl _ _ (dot_built2 (k : Int) m) (by simp [Act.eval]) ?_)
          | (at_builtin; refine append_dot rfl (.tmp 13) (.tmp 19) 26 rfl (w.heap.size + 1) 24 i0 Tryd.underlying26 hi hz _ (ofN f k) ((k : Int), m) rfl (HO.out.alloc _) ⟨wr.heap.size, 0, none⟩ 1 rfl ⟨(cell_of_row _ _ 0 _ _ _ (heap_last wr _)).trans rfl, by rw [Addr.add_lit]; exact (cell_of_row _ _ (0 + 1) _ _ _ (heap_last wr _)).trans rfl⟩ (by have := HL.out; have := KK.out.1; omega) (by have := HS.out; simp <;> omega) ?_; intro v1 w1 ho hg; rw [← HN.out] at ho; have HO1 := Lib.hid ho; have HB1 := Lib.hid (below_grown (HB.out.alloc HB.out.size _) hg (by have := HS.out; simp <;> omega) (fun j hj => by have := (HO.out.lt j hj).1; omega)); have HX1 := Lib.hid (show w1.heap[w.heap.size]? = some (.cells (nums 32 f) 62 (0, 0)) from (hg.block w.heap.size (by have := HS.out; simp <;> omega) (fun h => by have := (HO.out.lt _ h.symm).1; omega)).trans (by rw [heap_at_alloc, if_neg (by have := HS.out; omega)]; exact HX.out)); have HS1 := Lib.hid (show w.heap.size < w1.heap.size from Nat.lt_of_lt_of_le HS.out (Nat.le_trans (by simp) hg.size)); clear ho hg))
        refine ⟨⟨k + 1, KK.out.1, by simp, HO1.out, HX1.out, HS1.out, HB1.out⟩, ?_⟩
        have := KK.out.2; simp [intOf]; omega
      · have d1 : decide (m > 0) = false := decide_eq_false hp
        have HN := Lib.hid (show ofN f (k + 1) = ofN f k by rw [ofN, if_neg (by rw [← hm]; exact hp), List.append_nil])
        clear hp hm ho hx hb hs hlt
        go_wp2
        refine ⟨⟨k + 1, KK.out.1, by simp, by rw [HN.out]; exact HO.out, HX.out, HS.out, HB.out⟩, ?_⟩
        have := KK.out.2; simp [intOf]; omega
    · have q0 : ¬ (k : Int) < 32 := by omega
      obtain rfl : k = 32 := by omega
      have HD := Lib.hid (typ_of_own HO.out)
      clear ho hx hb hs hlt
      go_wp2
      go_ret
      exact ⟨_, rfl, HD.out, HB.out⟩
/-- Two dots compared. -/
theorem dots_take {a b : List D2} {k : Nat} {d e : D2} (ha : a[k]? = some d) (hb : b[k]? = some e) (h : a.take k = b.take k) : (a.take (k + 1) = b.take (k + 1)) ↔ d = e := by
  rw [List.take_add_one, List.take_add_one, ha, hb, h]
  simp
set_option maxRecDepth 100000 in
set_option maxHeartbeats 16000000 in
theorem refEqual_any (a b : List D2) (ha : a.length < 2000000) (v u : Value) (w : World) (hv : HasDots w v a) (hu : HasDots w u b) : Calls Tryd.prog 19 #[v, u] w fun e w' => e = .returned (.bool (a == b)) ∧ Below w.heap.size w w' := by
  have HV := Lib.hid hv
  have HU := Lib.hid hu
  obtain ⟨n, hn⟩ : ∃ n, n = a.length := ⟨_, rfl⟩
  obtain ⟨m, hm⟩ : ∃ m, m = b.length := ⟨_, rfl⟩
  obtain ⟨ao, cap, rfl⟩ := dots_shape hv n hn
  obtain ⟨ao2, cap2, rfl⟩ := dots_shape hu m hm
  have HN := Lib.hid (And.intro hn hm)
  have hn4 : n < 2000000 := by omega
  clear hn hm hv hu ha
  by_cases hnm : n = m
  · subst hnm
    go_enter Tryd.func19, Tryd.ntmps19
    go_wp2
    go_loopw [5] (fun c wr => ∃ k : Nat, k ≤ n ∧ c = .int .i64 (k : Int) ∧ a.take k = b.take k ∧ Below w.heap.size w wr) (fun c _ => n - (intOf c).toNat)
    case atStart => exact ⟨0, Nat.zero_le _, rfl, rfl, Below.refl _ _⟩
    case round =>
      obtain ⟨k, hk, rfl, ht, hb⟩ := hrel
      have HT := Lib.hid ht
      have HB := Lib.hid hb
      clear ht
      by_cases hlt : k < n
      · have q0 : (k : Int) < (n : Int) := by omega
        obtain ⟨d, hd⟩ : ∃ d, a[k]? = some d := ⟨_, List.getElem?_eq_getElem (by rw [← HN.out.1]; exact hlt)⟩
        obtain ⟨d2, hd2⟩ : ∃ d, b[k]? = some d := ⟨_, List.getElem?_eq_getElem (by rw [← HN.out.2]; exact hlt)⟩
        have HD := Lib.hid (dots_take hd hd2 HT.out)
        obtain ⟨r, q⟩ := d
        obtain ⟨r', q'⟩ := d2
        obtain ⟨ad, cap', e, c0, c1⟩ := dots_at (dots_below HV.out hb) n k HN.out.1.symm _ hd
        cases e
        obtain ⟨ad2, cap2', e, c2, c3⟩ := dots_at (dots_below HU.out hb) n k HN.out.2.symm _ hd2
        cases e
        have C0 := Lib.hid c0
        have C1 := Lib.hid c1
        have D0 := Lib.hid c2
        have D1 := Lib.hid c3
        have KK := Lib.hid (show k + 1 ≤ n ∧ n - (k + 1) < n - k by omega)
        clear c0 c1 c2 c3 hb hd hd2
        by_cases hs : r = r' ∧ q = q'
        · obtain ⟨rfl, rfl⟩ := hs
          go_wp2
          refine wp_region_held_drew (S := fun w' => Below wr.heap.size wr w') (by kernel_rfl) (drawS (Below.refl _ _)) (fun hHeld => ?_)
          generalize wr.drew = wd at hHeld ⊢
          refine take_at (i := 0) 17 rfl rfl (by kernel_rfl) (by kernel_rfl) (by kernel_rfl) (fun _ _ _ h => h) (sure_yes (by rfl) (fun w => by go_simp; try with_reducible rfl)) hHeld ?_
          simp only [List.setIfInBounds_toArray, List.set_cons_zero, List.set_cons_succ]
          refine take_at (i := 1) 18 rfl rfl (by kernel_rfl) (by kernel_rfl) (by kernel_rfl) (fun _ _ _ h => h) (sure_yes (by rfl) (fun w => by go_simp; try with_reducible rfl)) hHeld ?_
          simp only [List.setIfInBounds_toArray, List.set_cons_zero, List.set_cons_succ]
          refine take_at (i := 2) 19 rfl rfl (by kernel_rfl) (by kernel_rfl) (by kernel_rfl) (fun _ _ _ h => h) (sure_yes (by rfl) (fun w => by go_simp; try with_reducible rfl)) hHeld ?_
          simp only [List.setIfInBounds_toArray, List.set_cons_zero, List.set_cons_succ]
          refine take_at (i := 4) 21 rfl rfl (by kernel_rfl) (by kernel_rfl) (by kernel_rfl) (fun _ _ _ h => h) (sure_yes (by rfl) (fun w => by go_simp; try with_reducible rfl)) hHeld ?_
          simp only [List.setIfInBounds_toArray, List.set_cons_zero, List.set_cons_succ]
          refine take_at (i := 5) 22 rfl rfl (by kernel_rfl) (by kernel_rfl) (by kernel_rfl) (fun _ _ _ h => h) (sure_yes (by rfl) (fun w => by go_simp; try with_reducible rfl)) hHeld ?_
          simp only [List.setIfInBounds_toArray, List.set_cons_zero, List.set_cons_succ]
          refine take_at (i := 6) 23 rfl rfl (by kernel_rfl) (by kernel_rfl) (by kernel_rfl) (fun _ _ _ h => h) (sure_yes (by rfl) (fun w => by go_simp; try with_reducible rfl)) hHeld ?_
          simp only [List.setIfInBounds_toArray, List.set_cons_zero, List.set_cons_succ]
          refine take_at (i := 3) 20 rfl rfl (by kernel_rfl) (by kernel_rfl) (by kernel_rfl) (fun _ _ _ h => h) (dot_yields (by rfl) 24 (.tmp 19) rfl (ad.add (k * 2)) rfl r q Tryd.underlying24 (by kernel_rfl) (fun w h => ⟨(World.cell?_of_block (h.block _ (World.block_lt_of_cell? _ _ C0.out))).trans C0.out, (World.cell?_of_block (h.block _ (World.block_lt_of_cell? _ _ C1.out))).trans C1.out⟩)) hHeld ?_
          simp only [List.setIfInBounds_toArray, List.set_cons_zero, List.set_cons_succ]
          refine take_at (i := 7) 24 rfl rfl (by kernel_rfl) (by kernel_rfl) (by kernel_rfl) (fun _ _ _ h => h) (dot_yields (by rfl) 24 (.tmp 23) rfl (ad2.add (k * 2)) rfl r q Tryd.underlying24 (by kernel_rfl) (fun w h => ⟨(World.cell?_of_block (h.block _ (World.block_lt_of_cell? _ _ D0.out))).trans D0.out, (World.cell?_of_block (h.block _ (World.block_lt_of_cell? _ _ D1.out))).trans D1.out⟩)) hHeld ?_
          simp only [List.setIfInBounds_toArray, List.set_cons_zero, List.set_cons_succ]
          refine take_at (i := 8) 25 rfl rfl (by kernel_rfl) (by kernel_rfl) (by kernel_rfl) (fun _ _ _ h => h) (sure_yes (by rfl) (fun w => by go_simp; try with_reducible rfl)) hHeld ?_
          simp only [List.setIfInBounds_toArray, List.set_cons_zero, List.set_cons_succ]
          refine wpAnyH_done (by kernel_rfl) ?_ _
          go_wp2
          refine ⟨⟨k + 1, KK.out.1, by simp, HD.out.2 (by simp), below_next HB.out hHeld⟩, ?_⟩
          have := KK.out.2; simp [intOf]; omega
        · have HF := Lib.hid (show (a == b) = false by
            rw [beq_eq_false_iff_ne]; intro h
            have := HD.out.1 (by rw [h])
            simp only [Prod.mk.injEq] at this; exact hs this)
          go_wp2
          refine wp_region_held_drew (S := fun w' => Below wr.heap.size wr w') (by kernel_rfl) (drawS (Below.refl _ _)) (fun hHeld => ?_)
          generalize wr.drew = wd at hHeld ⊢
          refine take_at (i := 0) 17 rfl rfl (by kernel_rfl) (by kernel_rfl) (by kernel_rfl) (fun _ _ _ h => h) (sure_yes (by rfl) (fun w => by go_simp; try with_reducible rfl)) hHeld ?_
          simp only [List.setIfInBounds_toArray, List.set_cons_zero, List.set_cons_succ]
          refine take_at (i := 1) 18 rfl rfl (by kernel_rfl) (by kernel_rfl) (by kernel_rfl) (fun _ _ _ h => h) (sure_yes (by rfl) (fun w => by go_simp; try with_reducible rfl)) hHeld ?_
          simp only [List.setIfInBounds_toArray, List.set_cons_zero, List.set_cons_succ]
          refine take_at (i := 2) 19 rfl rfl (by kernel_rfl) (by kernel_rfl) (by kernel_rfl) (fun _ _ _ h => h) (sure_yes (by rfl) (fun w => by go_simp; try with_reducible rfl)) hHeld ?_
          simp only [List.setIfInBounds_toArray, List.set_cons_zero, List.set_cons_succ]
          refine take_at (i := 4) 21 rfl rfl (by kernel_rfl) (by kernel_rfl) (by kernel_rfl) (fun _ _ _ h => h) (sure_yes (by rfl) (fun w => by go_simp; try with_reducible rfl)) hHeld ?_
          simp only [List.setIfInBounds_toArray, List.set_cons_zero, List.set_cons_succ]
          refine take_at (i := 5) 22 rfl rfl (by kernel_rfl) (by kernel_rfl) (by kernel_rfl) (fun _ _ _ h => h) (sure_yes (by rfl) (fun w => by go_simp; try with_reducible rfl)) hHeld ?_
          simp only [List.setIfInBounds_toArray, List.set_cons_zero, List.set_cons_succ]
          refine take_at (i := 6) 23 rfl rfl (by kernel_rfl) (by kernel_rfl) (by kernel_rfl) (fun _ _ _ h => h) (sure_yes (by rfl) (fun w => by go_simp; try with_reducible rfl)) hHeld ?_
          simp only [List.setIfInBounds_toArray, List.set_cons_zero, List.set_cons_succ]
          refine take_at (i := 3) 20 rfl rfl (by kernel_rfl) (by kernel_rfl) (by kernel_rfl) (fun _ _ _ h => h) (dot_yields (by rfl) 24 (.tmp 19) rfl (ad.add (k * 2)) rfl r q Tryd.underlying24 (by kernel_rfl) (fun w h => ⟨(World.cell?_of_block (h.block _ (World.block_lt_of_cell? _ _ C0.out))).trans C0.out, (World.cell?_of_block (h.block _ (World.block_lt_of_cell? _ _ C1.out))).trans C1.out⟩)) hHeld ?_
          simp only [List.setIfInBounds_toArray, List.set_cons_zero, List.set_cons_succ]
          refine take_at (i := 7) 24 rfl rfl (by kernel_rfl) (by kernel_rfl) (by kernel_rfl) (fun _ _ _ h => h) (dot_yields (by rfl) 24 (.tmp 23) rfl (ad2.add (k * 2)) rfl r' q' Tryd.underlying24 (by kernel_rfl) (fun w h => ⟨(World.cell?_of_block (h.block _ (World.block_lt_of_cell? _ _ D0.out))).trans D0.out, (World.cell?_of_block (h.block _ (World.block_lt_of_cell? _ _ D1.out))).trans D1.out⟩)) hHeld ?_
          simp only [List.setIfInBounds_toArray, List.set_cons_zero, List.set_cons_succ]
          refine take_at (i := 8) (v := Value.bool true) 25 rfl rfl (by kernel_rfl) (by kernel_rfl) (by kernel_rfl) (fun _ _ _ h => h) (sure_yes (by rfl) (fun w => by go_simp; by_cases h1 : r = r' <;> by_cases h2 : q = q' <;> simp_all)) hHeld ?_
          simp only [List.setIfInBounds_toArray, List.set_cons_zero, List.set_cons_succ]
          refine wpAnyH_done (by kernel_rfl) ?_ _
          go_wp2
          go_ret
          exact ⟨by rw [HF.out]; rfl, below_next HB.out hHeld⟩
      · have q0 : ¬ (k : Int) < (n : Int) := by omega
        have HE := Lib.hid (show (a == b) = true by
          have h := HT.out
          rw [show k = n by omega] at h
          rw [beq_iff_eq, ← List.take_length (l := a), ← List.take_length (l := b), ← HN.out.1, ← HN.out.2]; exact h)
        clear hb
        go_wp2
        go_ret
        exact ⟨by rw [HE.out]; rfl, HB.out⟩
  · have HF := Lib.hid (show (a == b) = false by
      rw [beq_eq_false_iff_ne]; intro h
      exact hnm (by rw [HN.out.1, HN.out.2, h]))
    have t1 : ((n : Int) != (m : Int)) = true := by rw [bne_iff_ne]; omega
    clear hnm
    go_enter Tryd.func19, Tryd.ntmps19
    go_wp2
    go_ret
    exact ⟨by rw [HF.out]; rfl, Below.refl _ _⟩
end Go.Proofs.YtcdjkjadbhejpaaDoor
namespace Go.Proofs.YtcdjkjadbhejpaaDoor
open Go.RowKit
/-- The cells of an event; v is the slice of what was known. -/
def evC (e : Ev) (v : Value) : Array Value := #[.int .i64 e.r, .int .i64 e.q, v, .int .i64 e.kind, .string (str e.path)] ++ row .u8 32 e.sum ++ #[.int .i64 e.size]
theorem evC_size (e : Ev) (v : Value) : (evC e v).size = 38 := by simp [evC, row_size]
theorem evC_at (e : Ev) (v : Value) : (evC e v)[0]? = some (.int .i64 e.r) ∧ (evC e v)[1]? = some (.int .i64 e.q) ∧ (evC e v)[2]? = some v ∧ (evC e v)[3]? = some (.int .i64 e.kind) ∧ (evC e v)[4]? = some (.string (str e.path)) ∧ (evC e v)[37]? = some (.int .i64 e.size) := by
  refine ⟨?_, ?_, ?_, ?_, ?_, ?_⟩
  iterate 5 simp [evC, row_size]
  unfold evC
  rw [Array.getElem?_append_right (by simp [row_size])]
  simp [row_size]
theorem evC_sum (e : Ev) (v : Value) (j : Nat) (u : Value) (h : (row .u8 32 e.sum).toList[j]? = some u) : (evC e v)[5 + j]? = some u := by
  have hj : j < 32 := by have := (List.getElem?_eq_some_iff.1 h).1; simpa [row_size] using this
  rw [Array.getElem?_toList] at h
  unfold evC
  rw [Array.getElem?_append_left (by simp [row_size]; omega), Array.getElem?_append_right (by simp)]
  simpa using h
theorem evC_one (e : Ev) (v : Value) (hv : v.oneCell' = true) : (evC e v).all (·.oneCell') = true := by
  have hr := row_one .u8 32 e.sum
  rw [Array.all_eq_true_iff_forall_mem] at hr ⊢
  intro x hx
  unfold evC at hx
  rcases Array.mem_append.1 hx with hx | hx
  · rcases Array.mem_append.1 hx with hx | hx
    · simp only [List.mem_toArray, List.mem_cons, List.not_mem_nil, or_false] at hx
      rcases hx with rfl | rfl | rfl | rfl | rfl
      · rfl
      · rfl
      · exact hv
      · rfl
      · rfl
    · exact hr x hx
  · simp only [List.mem_toArray, List.mem_cons, List.not_mem_nil, or_false] at hx
    subst hx; rfl
/-- A block that is an event. -/
def EvAt (w : World) (B : Nat) (T : TypeId) (e : Ev) (v : Value) : Prop := w.heap[B]? = some (.cells (evC e v) T (0, 0))
theorem evAt_kept {w w' : World} {B : Nat} {T : TypeId} {e : Ev} {v : Value} (h : EvAt w B T e v) (hb : Below w.heap.size w w') : EvAt w' B T e v :=
  (hb.block B (Array.getElem?_eq_some_iff.1 h).1).trans h
theorem evAt_cell {w : World} {B : Nat} {T : TypeId} {e : Ev} {v : Value} (h : EvAt w B T e v) (j : Nat) (u : Value) (hu : (evC e v)[j]? = some u) : w.cell? ⟨B, j, none⟩ = some u := by
  unfold EvAt at h
  simp only [World.cell?, h]
  exact hu
theorem evAt_cells {w : World} {B : Nat} {T : TypeId} {e : Ev} {v : Value} (h : EvAt w B T e v) :
    w.cell? ⟨B, 0, none⟩ = some (.int .i64 e.r) ∧ w.cell? ⟨B, 1, none⟩ = some (.int .i64 e.q) ∧ w.cell? ⟨B, 2, none⟩ = some v ∧ w.cell? ⟨B, 3, none⟩ = some (.int .i64 e.kind) ∧ w.cell? ⟨B, 4, none⟩ = some (.string (str e.path)) ∧ w.cell? ⟨B, 37, none⟩ = some (.int .i64 e.size) := by
  obtain ⟨h0, h1, h2, h3, h4, h5⟩ := evC_at e v
  exact ⟨evAt_cell h _ _ h0, evAt_cell h _ _ h1, evAt_cell h _ _ h2, evAt_cell h _ _ h3, evAt_cell h _ _ h4, evAt_cell h _ _ h5⟩
theorem evAt_dot {w : World} {B : Nat} {T : TypeId} {e : Ev} {v : Value} (h : EvAt w B T e v) : w.cell? ⟨B, 0, none⟩ = some (.int .i64 e.r) ∧ w.cell? ⟨(⟨B, 0, none⟩ : Addr).block, (⟨B, 0, none⟩ : Addr).off + 1, none⟩ = some (.int .i64 e.q) := ⟨(evAt_cells h).1, (evAt_cells h).2.1⟩
theorem evAt_sum {w : World} {B : Nat} {T : TypeId} {e : Ev} {v : Value} (h : EvAt w B T e v) : w.rangeAt B 5 (row .u8 32 e.sum).toList := fun j u hu => evAt_cell h _ _ (evC_sum e v j u hu)
theorem box_ev (w : World) (T : TypeId) (e : Ev) (v : Value) : EvAt (w.alloc (.cells (evC e v) T (0, 0))) w.heap.size T e v := heap_last _ _
/-- A row loaded out of the middle of a block, where the operation's guard lets it run. -/
theorem load_mid_on {P : Program} {ops : Array Oper} {rest : List Oper} {o : Oper} {a : Act} {w : World} {Q : Exit → Act → World → Prop} (hw : Region.wanted o (yielded ops a.tmps) = true) (ty : TypeId) (x : Operand) (ho : o.op = .load ty x)
    (b n : Nat) (hx : a.eval x = .pointer (some ⟨b, n, none⟩)) (cs : List Value) (d : TypeDesc) (hc : w.rangeAt b n cs) (hu : P.underlying ty = some d) (hd : d.isRow = true) (hi : (P.info? ty).map (·.size) = some cs.length)
    (h : wpList P ops Q rest (a.put o.dst (.agg cs.toArray)) w) : wpList P ops Q (o :: rest) a w := by
  rcases yieldsIf_load_mid (S := fun w' => w' = w) hw ty x ho b n hx cs d (fun w' e => by rw [e]; exact hc) hu hd hi with ⟨-, hy⟩ | ⟨hn, -⟩
  · refine wpList_step fun K hK => ?_
    rw [if_pos hw]
    unfold Oper.wp
    rw [hy w rfl]
    exact hK _ _ h
  · rw [hw] at hn; cases hn
theorem load_sum_on {P : Program} {ops : Array Oper} {rest : List Oper} {o : Oper} {a : Act} {w : World} {Q : Exit → Act → World → Prop} (hw : Region.wanted o (yielded ops a.tmps) = true) (ty : TypeId) (x : Operand) (ho : o.op = .load ty x)
    (b : Nat) (hx : a.eval x = .pointer (some ⟨b, 5, none⟩)) {T : TypeId} {e : Ev} {v : Value} {n : Nat} {u : TypeId} (hc : EvAt w b T e v) (hu : P.underlying ty = some (.array n u)) (hi : (P.info? ty).map (·.size) = some 32)
    (h : wpList P ops Q rest (a.put o.dst (rowV .u8 32 e.sum)) w) : wpList P ops Q (o :: rest) a w :=
  load_mid_on hw ty x ho b 5 hx (row .u8 32 e.sum).toList _ (evAt_sum hc) hu rfl (by rw [hi]; simp [row_size]) (by rwa [Array.toArray_toList])
/-- A whole event loaded. -/
theorem load_ev_on {P : Program} {ops : Array Oper} {rest : List Oper} {o : Oper} {a : Act} {w : World} {Q : Exit → Act → World → Prop} (hw : Region.wanted o (yielded ops a.tmps) = true) (ty : TypeId) (x : Operand) (ho : o.op = .load ty x)
    (b : Nat) (hx : a.eval x = .pointer (some ⟨b, 0, none⟩)) {T : TypeId} {e : Ev} {v : Value} {fs : Array Field} (hc : EvAt w b T e v) (hu : P.underlying ty = some (.struct fs)) (hi : (P.info? ty).map (·.size) = some 38)
    (h : wpList P ops Q rest (a.put o.dst (.agg (evC e v))) w) : wpList P ops Q (o :: rest) a w :=
  load_row_on hw ty x ho b hx T _ (0, 0) _ hc hu rfl (by rw [hi, evC_size]) h
/-- One cell loaded, where the operation's guard lets it run. -/
theorem load_str_on {P : Program} {ops : Array Oper} {rest : List Oper} {o : Oper} {a : Act} {w : World} {Q : Exit → Act → World → Prop} (hw : Region.wanted o (yielded ops a.tmps) = true) (ty : TypeId) (x : Operand) (ho : o.op = .load ty x)
    (A : Addr) (hx : a.eval x = .pointer (some A)) (s : ByteArray) (hu : P.underlying ty = some .string) (hc : w.cell? A = some (.string s))
    (h : wpList P ops Q rest (a.put o.dst (.string s)) w) : wpList P ops Q (o :: rest) a w := by
  have hy : (execOp a.eval o).run P w = .ok (.value (.string s)) w := by
    unfold execOp
    simp [ho, hx, Instr.loadAt, Instr.sureAddr, loadVar, isAgg, run_underlying hu, hc]
  refine wpList_step fun K hK => ?_
  rw [if_pos hw]
  unfold Oper.wp
  rw [hy]
  exact hK _ _ h
end Go.Proofs.YtcdjkjadbhejpaaDoor
namespace Go.Proofs.YtcdjkjadbhejpaaDoor
open Go.RowKit
/-- Events as the cells of a slice; each with the slice of what was known. -/
def evsC : List (Ev × Value) → List Value
  | [] => []
  | x :: t => (evC x.1 x.2).toList ++ evsC t
theorem evC_len (e : Ev) (v : Value) : (evC e v).toList.length = 38 := by rw [Array.length_toList, evC_size]
theorem evsC_length (us : List (Ev × Value)) : (evsC us).length = us.length * 38 := by
  induction us with
  | nil => rfl
  | cons x t ih => rw [evsC, List.length_append, evC_len, ih, List.length_cons]; omega
theorem evsC_append (us vs : List (Ev × Value)) : evsC (us ++ vs) = evsC us ++ evsC vs := by
  induction us with
  | nil => rfl
  | cons x t ih => rw [List.cons_append, evsC, evsC, ih, List.append_assoc]
theorem evsC_one (us : List (Ev × Value)) (h : ∀ x ∈ us, x.2.oneCell' = true) : ∀ u ∈ evsC us, u.oneCell' = true := by
  induction us with
  | nil => intro u hu; cases hu
  | cons x t ih =>
    intro u hu
    rw [evsC] at hu
    rcases List.mem_append.1 hu with hu | hu
    · exact (Array.all_eq_true_iff_forall_mem.1 (evC_one x.1 x.2 (h x (by simp)))) u (by simpa using hu)
    · exact ih (fun y hy => h y (by simp [hy])) u hu
theorem evsC_at (us : List (Ev × Value)) : ∀ k x, us[k]? = some x → ∀ j u, (evC x.1 x.2)[j]? = some u → (evsC us)[k * 38 + j]? = some u := by
  induction us with
  | nil => intro k x h; simp at h
  | cons y t ih =>
    intro k x h j u hu
    rw [evsC]
    cases k with
    | zero =>
      simp at h; subst h
      have hj : j < 38 := by have := (Array.getElem?_eq_some_iff.1 hu).1; rwa [evC_size] at this
      rw [List.getElem?_append_left (by rw [evC_len]; omega), Array.getElem?_toList, show 0 * 38 + j = j by omega]; exact hu
    | succ k =>
      rw [List.getElem?_append_right (by rw [evC_len]; omega), evC_len, show (k + 1) * 38 + j - 38 = k * 38 + j by omega]
      exact ih k x (by simpa using h) j u hu
/-- A slice value whose elements are these events. -/
def HasEvs (w : World) (v : Value) (l : List Ev) : Prop :=
  ∃ us : List (Ev × Value), us.map (·.1) = l ∧ (∀ x ∈ us, HasDots w x.2 x.1.deps) ∧ ∃ ao cap, v = .slice ao us.length cap ∧ (ao = none → us = [] ∧ cap = 0) ∧ ∀ ad, ao = some ad → us.length ≤ cap ∧ ∀ j u, (evsC us)[j]? = some u → w.cell? (ad.add j) = some u
theorem evs_nil (w : World) : HasEvs w (.slice none 0 0) [] := ⟨[], rfl, (fun _ h => by cases h), none, 0, rfl, fun _ => ⟨rfl, rfl⟩, fun _ h => by cases h⟩
theorem evs_below {w w' : World} {v : Value} {l : List Ev} (h : HasEvs w v l) (hb : Below w.heap.size w w') : HasEvs w' v l := by
  obtain ⟨us, h1, h2, ao, cap, rfl, hnil, hc⟩ := h
  refine ⟨us, h1, fun x hx => dots_below (h2 x hx) hb, ao, cap, rfl, hnil, fun ad had => ⟨(hc ad had).1, fun j u hu => ?_⟩⟩
  have h1 := (hc ad had).2 j u hu
  exact (World.cell?_of_block (hb.block (ad.add j).block (World.block_lt_of_cell? w _ h1))).trans h1
theorem addr_add2 (ad : Addr) (k j : Nat) : (ad.add k).add j = ad.add (k + j) := Go.Deep.add_add ad k j
/-- An event loaded from wherever its cells lie. -/
theorem ev_run {P : Program} {o : Oper} {a : Act} {w : World} (ty : TypeId) (x : Operand) (ho : o.op = .load ty x) (A : Addr) (hx : a.eval x = .pointer (some A)) {e : Ev} {v : Value} {fs : Array Field} (hu : P.underlying ty = some (.struct fs))
    (hi : (P.info? ty).map (·.size) = some 38) (hc : ∀ j u, (evC e v)[j]? = some u → w.cell? (A.add j) = some u) : (execOp a.eval o).run P w = .ok (.value (.agg (evC e v))) w := by
  have hl : (loadCells A (evC e v).toList.length).run P w = .ok (evC e v).toList.toArray w := run_loadCells_list (P := P) w A _ (fun j u hj => hc j u (by rwa [Array.getElem?_toList] at hj))
  rw [evC_len, Array.toArray_toList] at hl
  cases hq : P.info? ty with
  | none => simp [hq] at hi
  | some i =>
    have hs : i.size = 38 := by simpa [hq] using hi
    unfold execOp
    simp [ho, hx, Instr.loadAt, Instr.sureAddr, loadVar, isAgg, run_underlying hu, sizeOf, typeInfo, hq, hs, hl]
theorem evA_yields {P : Program} {ops : Array Oper} {S : World → Prop} {o : Oper} {a : Act} (hw : Region.wanted o (yielded ops a.tmps) = true) (ty : TypeId) (x : Operand) (ho : o.op = .load ty x) (A : Addr) (hx : a.eval x = .pointer (some A)) {e : Ev} {v : Value} {fs : Array Field}
    (hu : P.underlying ty = some (.struct fs)) (hi : (P.info? ty).map (·.size) = some 38) (hS : ∀ w, S w → ∀ j u, (evC e v)[j]? = some u → w.cell? (A.add j) = some u) : YieldsIf P ops S o (.agg (evC e v)) a :=
  .inl ⟨hw, fun w h => ev_run ty x ho A hx hu hi (hS w h)⟩
/-- A slice of events of the call's own, whose vectors lie in blocks of dots. -/
def OwnEvs (B : Nat) (w : World) (v : Value) (us : List (Ev × Value)) : Prop := w.ownsRow B 30 38 v us.length (evsC us) ∧ ∀ x ∈ us, TypDots w x.2 x.1.deps
theorem ownEvs_nil (B : Nat) (w : World) : OwnEvs B w (.slice none 0 0) [] := ⟨World.ownsRow_nil _ _ _ _, fun _ h => by cases h⟩
theorem evs_of_own {B : Nat} {w : World} {v : Value} {us : List (Ev × Value)} (h : OwnEvs B w v us) : HasEvs w v (us.map (·.1)) := by
  obtain ⟨h, ht⟩ := h
  rcases h.2 with ⟨rfl, h0⟩ | ⟨g, cap, cur, rfl, rest⟩
  · obtain rfl : us = [] := List.eq_nil_of_length_eq_zero h0
    exact evs_nil w
  · exact ⟨us, rfl, fun x hx => (ht x hx).1, some ⟨g, 0, none⟩, cap, rfl, (fun h => by cases h), fun ad had => ⟨rest.2.2.1, fun j u hu => by
      cases had; exact h.cells rfl j u hu⟩⟩
/-- One event appended to a slice of events of the call's own. -/
theorem append_ev {P : Program} {w : World} {ops : Array Oper} {rest : List Oper} {o : Oper} {a : Act} {Q : Exit → Act → World → Prop} (hgd : o.guard = none) (s x : Operand) (t : TypeId)
    (ho : o.op = .call { callee := .builtin .append, args := #[s, x], argTypes := #[t, t] })
    (base : Nat) (e : TypeId) (i : TypeInfo) (ht : P.underlying t = some (.slice e)) (hi : P.info? e = some i) (hz : (i.zero.map (·.cells.size), i.size, i.bytes) = (some 38, 38, 104))
    (v : Value) (us : List (Ev × Value)) (y : Ev × Value) (hs : a.eval s = v) (hown : w.ownsRow base e 38 v us.length (evsC us)) (hone : y.2.oneCell' = true) (ad : Addr) (c : Nat) (hx : a.eval x = .slice (some ad) 1 c)
    (hc : ∀ j u, (evC y.1 y.2)[j]? = some u → w.cell? (ad.add j) = some u) (hlen : us.length + 1 ≤ 100000) (hbase : base ≤ w.heap.size)
    (h : ∀ v' w', w'.ownsRow base e 38 v' (us ++ [y]).length (evsC (us ++ [y])) → w.grownBy w' v.ownBlock → wpList P ops Q rest (a.put o.dst v') w') : wpList P ops Q (o :: rest) a w := by
  simp only [Prod.mk.injEq] at hz
  obtain ⟨hz1, hz2, hz3⟩ := hz
  cases hzz : i.zero with
  | none => rw [hzz] at hz1; cases hz1
  | some z =>
    rw [hzz] at hz1
    simp only [Option.map_some, Option.some.injEq] at hz1
    have e1 : evsC [y] = (evC y.1 y.2).toList := by rw [evsC, evsC, List.append_nil]
    refine wpList_append_own w hgd s x t ho base e i z 38 104 ht hi hzz hz2 hz3 hz1 (by decide) v us.length (evsC us) hs hown ad 1 c (evsC [y]) hx (by rw [evsC_length]; rfl) (fun j u hj => ?_) (evsC_one [y] (fun q hq => by
      simp only [List.mem_singleton] at hq; rw [hq]; exact hone))
      (by unfold maxLen; omega) (by omega) hbase fun v' w' h1 h2 _ => h v' w' (by rw [evsC_append, List.length_append]; exact h1) h2
    rw [e1, Array.getElem?_toList] at hj
    exact hc j u hj
theorem infoEv : ∃ i, Tryd.prog.info? 30 = some i ∧ (i.zero.map (·.cells.size), i.size, i.bytes) = (some 38, 38, 104) := by
  have h : (Tryd.prog.info? 30).map (fun i => (i.zero.map (·.cells.size), i.size, i.bytes)) = some (some 38, 38, 104) := by kernel_rfl
  cases hi : Tryd.prog.info? 30 with
  | none => rw [hi] at h; cases h
  | some i => rw [hi] at h; exact ⟨i, rfl, Option.some.inj h⟩
end Go.Proofs.YtcdjkjadbhejpaaDoor
namespace Go.Proofs.YtcdjkjadbhejpaaDoor
open Go.RowKit
set_option maxRecDepth 100000 in
theorem ev_built (e : Ev) (ao : Option Addr) (n c : Nat) : Tryd.prog.built 30 [(0, .agg #[.int .i64 e.r, .int .i64 e.q]), (1, .slice ao n c), (2, .int .i64 e.kind), (3, .string (str e.path)), (4, .agg (row .u8 32 e.sum)), (5, .int .i64 e.size)] = some (evC e (.slice ao n c)) := by kernel_rfl
theorem build_yields {P : Program} {ops : Array Oper} {S : World → Prop} {o : Oper} {a : Act} (hw : Region.wanted o (yielded ops a.tmps) = true) (t : TypeId) (parts : Array (Nat × Operand)) (ho : o.op = .build t parts) (ps : List (Nat × Value)) (cs : Array Value)
    (hb : P.built t ps = some cs) (hp : (parts.map fun (i, x) => (i, a.eval x)).toList = ps) : YieldsIf P ops S o (.agg cs) a :=
  .inl ⟨hw, fun w _ => by
    subst hp
    unfold execOp
    simp only [ho, Sem.run_bind, run_build w t _ cs hb, Result.andThen_ok]
    rfl⟩
theorem store_ev_at {P : Program} {ops : Array Oper} {o : Oper} {a : Act} {w : World} {K : Act → World → Prop} {Q : Exit → Act → World → Prop} {E : Prop} (hd : o.dst = none) (hw : Region.wanted o (yielded ops a.tmps) = true) (ty : TypeId) (x y : Operand) (ho : o.op = .store ty x y)
    (g : Nat) (e e0 : Ev) (v v0 : Value) (hx : a.eval x = .pointer (some ⟨g, 0, none⟩)) (hy : a.eval y = .agg (evC e v)) (t : TypeId) (hg : EvAt w g t e0 v0) (hi : (P.info? ty).map (·.size) = some 38) (hv : v.oneCell' = true)
    (h : ∀ w', EvAt w' g t e v → Solo g w w' → K a w') : if Region.wanted o (yielded ops a.tmps) = true then Oper.wp P o a w K Q else E :=
  store_at hd hw ty x y ho g (evC e v) hx hy t _ hg (by rw [hi, evC_size]) (by rw [evC_size, evC_size]) (evC_one e v hv) (h _ (setRow_heap _ _ _ _ _ _ hg) (solo_setRow w g _))
theorem str_yields12 {P : Program} {ops : Array Oper} {S : World → Prop} {o : Oper} {a : Act} (hw : Region.wanted o (yielded ops a.tmps) = true) (ty : TypeId) (x : Operand) (ho : o.op = .load ty x)
    (ad : Addr) (hx : a.eval x = .pointer (some ad)) (s : ByteArray) (hu : P.underlying ty = some .string) (hS : ∀ w, S w → w.cell? ad = some (.string s)) : YieldsIf P ops S o (.string s) a :=
  .inl ⟨hw, fun w h => by
    have hc := hS w h
    unfold execOp
    simp [ho, hx, Instr.loadAt, Instr.sureAddr, loadVar, isAgg, run_underlying hu, hc]⟩
/-- An event stored by the one operation that is ready. -/
theorem ready_store_ev {P : Program} {md : Region.Mode} {ops : Array Oper} {Q : Exit → Act → World → Prop} {S : World → Prop} {fuel : Nat} {listed : Array Bool} {a : Act} {w : World} (i : Nat) (hr : Region.ready md ops listed = [i]) {o : Oper} (hoi : ops[i]? = some o)
    (hd : o.dst = none) (hw : Region.wanted o (yielded ops a.tmps) = true) (ty : TypeId) (x y : Operand) (ho : o.op = .store ty x y) (g : Nat) (e e0 : Ev) (v v0 : Value) (hx : a.eval x = .pointer (some ⟨g, 0, none⟩)) (hy : a.eval y = .agg (evC e v)) (t : TypeId)
    (hg : EvAt w g t e0 v0) (hi : (P.info? ty).map (·.size) = some 38) (hv : v.oneCell' = true)
    (h : ∀ w', EvAt w' g t e v → Solo g w w' → S w' ∧ wpAnyH P md ops Q S fuel (listed.setIfInBounds i true) a w') : wpAnyH P md ops Q S (fuel + 1) listed a w :=
  wpAnyH_ready hr (by simp) (AllReadyH.cons hoi (fun K hK => store_ev_at hd hw ty x y ho g e e0 v v0 hx hy t hg hi hv (fun w' h1 h2 => hK.out _ _ (h w' h1 h2).1 (fun _ => (h w' h1 h2).2))) AllReadyH.nil)
theorem dots_solo {w w' : World} {v : Value} {l : List D2} {g : Nat} (h : HasDots w v l) (hs : Solo g w w') (hne : l = [] ∨ v.ownBlock ≠ some g) : HasDots w' v l := by
  obtain ⟨ao, cap, rfl, hnil, hc⟩ := h
  refine ⟨ao, cap, rfl, hnil, fun ad had => ⟨(hc ad had).1, fun j u hu => ?_⟩⟩
  rcases hne with rfl | hne
  · simp [dotsC] at hu
  · have h1 := (hc ad had).2 j u hu
    refine (World.cell?_of_block (hs.block (ad.add j).block fun e => hne ?_)).trans h1
    rw [had]
    show some ad.block = some g
    rw [← e]; unfold Addr.add; split <;> rfl
theorem typ_solo {w w' : World} {v : Value} {l : List D2} {g : Nat} (h : TypDots w v l) (hs : Solo g w w') {cs : Array Value} {T : TypeId} {fr : Nat × Nat} (hg : w.heap[g]? = some (.cells cs T fr)) (hT : T ≠ 24) : TypDots w' v l := by
  have hne : l = [] ∨ v.ownBlock ≠ some g := h.2.elim .inl fun ⟨k, cs', fr', h1, h2⟩ => .inr fun e => by
    rw [h1] at e; cases e; rw [h2] at hg; cases hg; exact hT rfl
  refine ⟨dots_solo h.1 hs hne, h.2.elim .inl fun ⟨k, cs', fr', h1, h2⟩ => ?_⟩
  rcases hne with rfl | hne
  · exact .inl rfl
  · exact .inr ⟨k, cs', fr', h1, (hs.block k fun e => hne (by rw [h1, e])).trans h2⟩
set_option maxRecDepth 100000 in
theorem evSize : (Tryd.prog.info? 30).map (·.size) = some 38 := by kernel_rfl
set_option maxRecDepth 100000 in
theorem sumSize : (Tryd.prog.info? 28).map (·.size) = some 32 := by kernel_rfl
end Go.Proofs.YtcdjkjadbhejpaaDoor
namespace Go.Proofs.YtcdjkjadbhejpaaDoor
open Go.RowKit
theorem call_at1 {P : Program} {ops : Array Oper} {o : Oper} {a : Act} {w : World} {K : Act → World → Prop} {Q : Exit → Act → World → Prop} {E : Prop} (hw : Region.wanted o (yielded ops a.tmps) = true) (f : FuncId) (x : Operand) (t : TypeId)
    (ho : o.op = .call { callee := .value (.func f), args := #[x], argTypes := #[t] }) (v : Value) (hx : a.eval x = v) (eg : ∀ vs w, (callFunc f vs).run P w = .ok (.enter f vs) w) (Post : Ending → World → Prop) (hc : Calls P f #[v] w Post)
    (h : ∀ e w', Post e w' → ∃ r, e = .returned r ∧ K (a.put o.dst r) w') : if Region.wanted o (yielded ops a.tmps) = true then Oper.wp P o a w K Q else E := by
  rw [if_pos hw]
  have hr : (execOp a.eval o).run P w = .ok (.enter f #[v]) w := by
    have hv : a.eval (.func f) = .func (.func f) #[] #[] := rfl
    simp [execOp, ho, resolve, invoke, Deferred.ofValue, hx, hv, eg]
  unfold Oper.wp
  rw [hr]
  exact hc.mono fun e w' hp => by
    obtain ⟨r, rfl, hk⟩ := h e w' hp
    exact hk
theorem call_at2 {P : Program} {ops : Array Oper} {o : Oper} {a : Act} {w : World} {K : Act → World → Prop} {Q : Exit → Act → World → Prop} {E : Prop} (hw : Region.wanted o (yielded ops a.tmps) = true) (f : FuncId) (x y : Operand) (t u : TypeId)
    (ho : o.op = .call { callee := .value (.func f), args := #[x, y], argTypes := #[t, u] }) (v z : Value) (hx : a.eval x = v) (hy : a.eval y = z) (eg : ∀ vs w, (callFunc f vs).run P w = .ok (.enter f vs) w) (Post : Ending → World → Prop) (hc : Calls P f #[v, z] w Post)
    (h : ∀ e w', Post e w' → ∃ r, e = .returned r ∧ K (a.put o.dst r) w') : if Region.wanted o (yielded ops a.tmps) = true then Oper.wp P o a w K Q else E := by
  rw [if_pos hw]
  have hr : (execOp a.eval o).run P w = .ok (.enter f #[v, z]) w := by
    have hv : a.eval (.func f) = .func (.func f) #[] #[] := rfl
    simp [execOp, ho, resolve, invoke, Deferred.ofValue, hx, hy, hv, eg]
  unfold Oper.wp
  rw [hr]
  exact hc.mono fun e w' hp => by
    obtain ⟨r, rfl, hk⟩ := h e w' hp
    exact hk
/-- A call with one argument, by the one operation that is ready. -/
theorem ready_call1 {P : Program} {md : Region.Mode} {ops : Array Oper} {Q : Exit → Act → World → Prop} {S : World → Prop} {fuel : Nat} {listed : Array Bool} {ts : Array Value} {ds : List Deferred} {w : World} (i d : Nat) (hr : Region.ready md ops listed = [i]) {o : Oper} (hoi : ops[i]? = some o)
    (hd : o.dst = some d) (hw : Region.wanted o (yielded ops ts) = true) (f : FuncId) (x : Operand) (t : TypeId) (ho : o.op = .call { callee := .value (.func f), args := #[x], argTypes := #[t] }) (v : Value) (hx : Act.eval { tmps := ts, defers := ds } x = v)
    (eg : ∀ vs w, (callFunc f vs).run P w = .ok (.enter f vs) w) (Post : Ending → World → Prop) (hc : Calls P f #[v] w Post)
    (h : ∀ e w', Post e w' → ∃ r, e = .returned r ∧ S w' ∧ wpAnyH P md ops Q S fuel (listed.setIfInBounds i true) { tmps := ts.setIfInBounds d r, defers := ds } w') : wpAnyH P md ops Q S (fuel + 1) listed { tmps := ts, defers := ds } w :=
  wpAnyH_ready hr (by simp) (AllReadyH.cons hoi (fun K hK => call_at1 hw f x t ho v hx eg Post hc (fun e w' hp => by
    obtain ⟨r, e1, h1, h2⟩ := h e w' hp
    refine ⟨r, e1, ?_⟩
    rw [hd]
    exact hK.out _ _ h1 (fun _ => h2))) AllReadyH.nil)
/-- .. with two. -/
theorem ready_call2 {P : Program} {md : Region.Mode} {ops : Array Oper} {Q : Exit → Act → World → Prop} {S : World → Prop} {fuel : Nat} {listed : Array Bool} {ts : Array Value} {ds : List Deferred} {w : World} (i d : Nat) (hr : Region.ready md ops listed = [i]) {o : Oper} (hoi : ops[i]? = some o)
    (hd : o.dst = some d) (hw : Region.wanted o (yielded ops ts) = true) (f : FuncId) (x y : Operand) (t u : TypeId) (ho : o.op = .call { callee := .value (.func f), args := #[x, y], argTypes := #[t, u] }) (v z : Value) (hx : Act.eval { tmps := ts, defers := ds } x = v) (hy : Act.eval { tmps := ts, defers := ds } y = z)
    (eg : ∀ vs w, (callFunc f vs).run P w = .ok (.enter f vs) w) (Post : Ending → World → Prop) (hc : Calls P f #[v, z] w Post)
    (h : ∀ e w', Post e w' → ∃ r, e = .returned r ∧ S w' ∧ wpAnyH P md ops Q S fuel (listed.setIfInBounds i true) { tmps := ts.setIfInBounds d r, defers := ds } w') : wpAnyH P md ops Q S (fuel + 1) listed { tmps := ts, defers := ds } w :=
  wpAnyH_ready hr (by simp) (AllReadyH.cons hoi (fun K hK => call_at2 hw f x y t u ho v z hx hy eg Post hc (fun e w' hp => by
    obtain ⟨r, e1, h1, h2⟩ := h e w' hp
    refine ⟨r, e1, ?_⟩
    rw [hd]
    exact hK.out _ _ h1 (fun _ => h2))) AllReadyH.nil)
end Go.Proofs.YtcdjkjadbhejpaaDoor
namespace Go.Proofs.YtcdjkjadbhejpaaDoor
open Go.RowKit
/-- A number of 64 bits. -/
def I64 (a : Int) : Prop := -9223372036854775808 ≤ a ∧ a < 9223372036854775808
end Go.Proofs.YtcdjkjadbhejpaaDoor
namespace Go.Proofs.YtcdjkjadbhejpaaDoor
open Go.RowKit
def HoldsU (w : World) (v : Value) (us : List (Ev × Value)) : Prop :=
  ∃ ao cap, v = .slice ao us.length cap ∧ (ao = none → us = [] ∧ cap = 0) ∧ ∀ ad, ao = some ad → us.length ≤ cap ∧ ∀ j u, (evsC us)[j]? = some u → w.cell? (ad.add j) = some u
def DepsU (w : World) (us : List (Ev × Value)) : Prop := ∀ x ∈ us, HasDots w x.2 x.1.deps
def FitE (e : Ev) : Prop := I64 e.r ∧ I64 e.q ∧ e.deps.length < 2000000 ∧ e.path.length < 1152921504606846976
def FitU (us : List (Ev × Value)) : Prop := ∀ x ∈ us, FitE x.1
theorem evs_of_u {w : World} {v : Value} {us : List (Ev × Value)} (h : HoldsU w v us) (hd : DepsU w us) : HasEvs w v (us.map (·.1)) := ⟨us, rfl, hd, h⟩
theorem u_of_evs {w : World} {v : Value} {l : List Ev} (h : HasEvs w v l) : ∃ us, us.map (·.1) = l ∧ DepsU w us ∧ HoldsU w v us := h
theorem holdsU_below {w w' : World} {v : Value} {us : List (Ev × Value)} (h : HoldsU w v us) (hb : Below w.heap.size w w') : HoldsU w' v us := by
  obtain ⟨ao, cap, rfl, hnil, hc⟩ := h
  refine ⟨ao, cap, rfl, hnil, fun ad had => ⟨(hc ad had).1, fun j u hu => ?_⟩⟩
  have h1 := (hc ad had).2 j u hu
  exact (World.cell?_of_block (hb.block (ad.add j).block (World.block_lt_of_cell? w _ h1))).trans h1
theorem depsU_below {w w' : World} {us : List (Ev × Value)} (h : DepsU w us) (hb : Below w.heap.size w w') : DepsU w' us := fun x hx => dots_below (h x hx) hb
theorem holdsU_nil (w : World) : HoldsU w (.slice none 0 0) [] := ⟨none, 0, rfl, fun _ => ⟨rfl, rfl⟩, fun _ h => by cases h⟩
theorem holdsU_own {B : Nat} {e : TypeId} {w : World} {v : Value} {us : List (Ev × Value)} (h : w.ownsRow B e 38 v us.length (evsC us)) : HoldsU w v us := by
  rcases h.2 with ⟨rfl, h0⟩ | ⟨g, cap, cur, rfl, rest⟩
  · obtain rfl : us = [] := List.eq_nil_of_length_eq_zero h0
    exact holdsU_nil w
  · exact ⟨some ⟨g, 0, none⟩, cap, rfl, (fun h => by cases h), fun ad had => ⟨rest.2.2.1, fun j u hu => by
      cases had; exact h.cells rfl j u hu⟩⟩
theorem holdsU_shape {w : World} {v : Value} {us : List (Ev × Value)} (h : HoldsU w v us) (n : Nat) (hn : n = us.length) : ∃ ao cap, v = .slice ao n cap := by
  obtain ⟨ao, cap, rfl, -⟩ := h
  exact ⟨ao, cap, by rw [hn]⟩
theorem holdsU_at {w : World} {v : Value} {us : List (Ev × Value)} (h : HoldsU w v us) (n k : Nat) (hn : us.length = n) (x : Ev × Value) (hx : us[k]? = some x) : ∃ ad cap, v = .slice (some ad) n cap ∧ ∀ j u, (evC x.1 x.2)[j]? = some u → w.cell? ((ad.add (k * 38)).add j) = some u := by
  obtain ⟨ao, cap, rfl, hnil, hc⟩ := h
  cases ao with
  | none => obtain ⟨rfl, _⟩ := hnil rfl; simp at hx
  | some ad => exact ⟨ad, cap, by rw [hn], fun j y hy => by rw [addr_add2]; exact (hc ad rfl).2 _ _ (evsC_at us k x hx j y hy)⟩
theorem depsU_one {w : World} {us : List (Ev × Value)} (hd : DepsU w us) : ∀ x ∈ us, x.2.oneCell' = true := fun x hx => by
  obtain ⟨ao, cap, e⟩ := dots_shape (hd x hx) _ rfl
  rw [e]; rfl
/-- An event loaded from wherever its cells lie. -/
theorem load_evA_on {P : Program} {ops : Array Oper} {rest : List Oper} {o : Oper} {a : Act} {w : World} {Q : Exit → Act → World → Prop} (hw : Region.wanted o (yielded ops a.tmps) = true) (ty : TypeId) (x : Operand) (ho : o.op = .load ty x) (A : Addr) (hx : a.eval x = .pointer (some A)) {e : Ev} {v : Value} {fs : Array Field}
    (hu : P.underlying ty = some (.struct fs)) (hi : (P.info? ty).map (·.size) = some 38) (hc : ∀ j u, (evC e v)[j]? = some u → w.cell? (A.add j) = some u)
    (h : wpList P ops Q rest (a.put o.dst (.agg (evC e v))) w) : wpList P ops Q (o :: rest) a w := by
  refine wpList_step fun K hK => ?_
  rw [if_pos hw]
  unfold Oper.wp
  rw [ev_run ty x ho A hx hu hi hc]
  exact hK _ _ h
/-- Events appended to a slice of events of the call's own. -/
theorem append_evs {P : Program} {w : World} {ops : Array Oper} {rest : List Oper} {o : Oper} {a : Act} {Q : Exit → Act → World → Prop} (hgd : o.guard = none) (s x : Operand) (t : TypeId)
    (ho : o.op = .call { callee := .builtin .append, args := #[s, x], argTypes := #[t, t] })
    (base : Nat) (e : TypeId) (i : TypeInfo) (ht : P.underlying t = some (.slice e)) (hi : P.info? e = some i) (hz : (i.zero.map (·.cells.size), i.size, i.bytes) = (some 38, 38, 104))
    (v : Value) (us ys : List (Ev × Value)) (hs : a.eval s = v) (hown : w.ownsRow base e 38 v us.length (evsC us)) (hone : ∀ y ∈ ys, y.2.oneCell' = true) (ad : Addr) (m c : Nat) (hx : a.eval x = .slice (some ad) m c) (hm : m = ys.length)
    (hc : ∀ j u, (evsC ys)[j]? = some u → w.cell? (ad.add j) = some u) (hlen : us.length + ys.length ≤ 100000) (hbase : base ≤ w.heap.size)
    (h : ∀ v' w', w'.ownsRow base e 38 v' (us ++ ys).length (evsC (us ++ ys)) → w.grownBy w' v.ownBlock → wpList P ops Q rest (a.put o.dst v') w') : wpList P ops Q (o :: rest) a w := by
  simp only [Prod.mk.injEq] at hz
  obtain ⟨hz1, hz2, hz3⟩ := hz
  subst hm
  cases hzz : i.zero with
  | none => rw [hzz] at hz1; cases hz1
  | some z =>
    rw [hzz] at hz1
    simp only [Option.map_some, Option.some.injEq] at hz1
    refine wpList_append_own w hgd s x t ho base e i z 38 104 ht hi hzz hz2 hz3 hz1 (by decide) v us.length (evsC us) hs hown ad ys.length c (evsC ys) hx (by rw [evsC_length]) hc (evsC_one ys hone)
      (by unfold maxLen; omega) (by omega) hbase fun v' w' h1 h2 _ => h v' w' (by rw [evsC_append, List.length_append]; exact h1) h2
set_option maxRecDepth 100000 in
theorem ev_deps (e : Ev) (v u : Value) : (evC e v).setIfInBounds 2 u = evC e u := by kernel_rfl
theorem ev_depsL (e : Ev) (v u : Value) : (evC e v).toList.set 2 u = (evC e u).toList := by
  have := congrArg Array.toList (ev_deps e v u)
  rwa [Array.toList_setIfInBounds] at this
theorem set_lo {A B A' : List Value} (u : Value) (i : Nat) (hA : i < A.length) (h : A.set i u = A') : (A ++ B).set i u = A' ++ B := by
  rw [List.set_append, if_pos hA, h]
theorem set_hi {A B B' : List Value} (u : Value) (i j : Nat) (hA : i = A.length + j) (h : B.set j u = B') : (A ++ B).set i u = A ++ B' := by
  rw [List.set_append, if_neg (by omega), show i - A.length = j by omega, h]
theorem evsC_set : ∀ (us : List (Ev × Value)) (k : Nat) (e : Ev) (v u : Value), us[k]? = some (e, v) → (evsC us).set (k * 38 + 2) u = evsC (us.set k (e, u))
  | [], k, _, _, _, h => by simp at h
  | y :: t, 0, e, v, u, h => by
    simp at h; subst h
    exact set_lo u _ (by rw [evC_len]; omega) (ev_depsL e v u)
  | y :: t, k + 1, e, v, u, h => set_hi u _ (k * 38 + 2) (by rw [evC_len]; omega) (evsC_set t k e v u (by simpa using h))
/-- What was known stored anew in an event of a slice of the call's own. -/
theorem store_deps {P : Program} {ops : Array Oper} {rest : List Oper} {o : Oper} {a : Act} {w : World} {Q : Exit → Act → World → Prop} (hgd : o.guard = none) (hd : o.dst = none) (ty : TypeId) (x y : Operand) (ho : o.op = .store ty x y)
    (base : Nat) (e : TypeId) (g n cap k : Nat) (us : List (Ev × Value)) (hown : w.ownsRow base e 38 (.slice (some ⟨g, 0, none⟩) n cap) n (evsC us)) (ev : Ev) (v0 : Value) (hk : us[k]? = some (ev, v0)) (off : Nat) (hoff : off = k * 38 + 2) (hx : a.eval x = .pointer (some ⟨g, off, none⟩))
    (ao : Option Addr) (m c : Nat) (hy : a.eval y = .slice ao m c) (hi : (P.info? ty).map (·.size) = some 1)
    (h : ∀ w', w'.ownsRow base e 38 (.slice (some ⟨g, 0, none⟩) n cap) n (evsC (us.set k (ev, .slice ao m c))) → Solo g w w' → wpList P ops Q rest a w') : wpList P ops Q (o :: rest) a w := by
  subst hoff
  refine wpList_plain hgd fun K hK => ?_
  have hkl : k < us.length := (List.getElem?_eq_some_iff.1 hk).1
  have hl := hown.1
  rw [evsC_length] at hl
  have hjn : k * 38 + 2 < n * 38 := by omega
  have hcell : w.cell? ⟨g, k * 38 + 2, none⟩ = some v0 := by
    rw [hown.cellAt _ hjn]
    exact evsC_at us k (ev, v0) hk 2 v0 (evC_at ev v0).2.2.1
  have hfro : w.frozen? ⟨g, k * 38 + 2, none⟩ = false := hown.frozenAt _
  have hadd : (⟨g, k * 38 + 2, none⟩ : Addr).add 0 = ⟨g, k * 38 + 2, none⟩ := by unfold Addr.add; rw [if_pos rfl]
  obtain ⟨h1, h2⟩ := hown.stored (k * 38 + 2) (.slice ao m c)
  have hst : (storeVar ty ⟨g, k * 38 + 2, none⟩ (.slice ao m c)).run P w = .ok () (w.setCell ⟨g, k * 38 + 2, none⟩ (.slice ao m c)) := by
    cases hq : P.info? ty with
    | none => simp [hq] at hi
    | some i =>
      have hs : i.size = 1 := by simpa [hq] using hi
      simp [storeVar, sizeOf, typeInfo, hq, Value.cells, hs, storeCells, hadd, run_store P w _ _ _ (show (Value.slice ao m c).oneCell' = true from rfl), hcell, hfro]
  have hsolo : Solo g w (w.setCell ⟨g, k * 38 + 2, none⟩ (.slice ao m c)) := ⟨h2.os, h2.tape, h2.output, by simp, fun j hj => heap_setCell_other w ⟨g, k * 38 + 2, none⟩ j _ (fun e => hj e)⟩
  rw [evsC_set us k ev v0 _ hk] at h1
  have h' := h _ h1 hsolo
  unfold Oper.wp execOp
  simp only [ho, hx, hy, Instr.storeAt, Instr.sureAddr, Sem.run_bind, Sem.run_pure, Result.andThen_ok, hst]
  simpa [Oper.upon, hd, Act.put] using hK _ _ h'
set_option maxRecDepth 100000 in
theorem ev_slice1M (e : Ev) (ao : Option Addr) (n c : Nat) : Tryd.prog.builtSlice 30 1 [(0, .agg (evC e (.slice ao n c)))] = some (evC e (.slice ao n c)) := by kernel_rfl
/-- A slice of one event, made. -/
theorem build_evM {ops : Array Oper} {rest : List Oper} {o : Oper} {a : Act} {w : World} {Q : Exit → Act → World → Prop} (hg : o.guard = none) (d : Nat) (hd : o.dst = some d) (x : Operand) (ho : o.op = .buildSlice 22 1 #[(0, x)])
    (N : Nat) (hN : w.heap.size = N) (e : Ev) (ao : Option Addr) (n c : Nat) (hx : a.eval x = .agg (evC e (.slice ao n c)))
    (h : ∀ w', EvAt w' N 30 e (.slice ao n c) → Below w.heap.size w w' → w'.heap.size = N + 1 → wpList Tryd.prog ops Q rest (a.put (some d) (.slice (some ⟨N, 0, none⟩) 1 1)) w') : wpList Tryd.prog ops Q (o :: rest) a w := by
  refine Go.Great.wpList_buildSliceTo hg 22 30 1 #[(0, x)] ho N hN (some d) hd Tryd.underlying22 (evC e (.slice ao n c)) ?_ (h _ ?_ ((Below.refl _ _).alloc (Nat.le_refl _) _) ?_)
  · have hp : ((#[(0, x)] : Array (Nat × Operand)).map fun (i, x) => (i, a.eval x)).toList = [(0, .agg (evC e (.slice ao n c)))] := by simp [hx]
    rw [hp]; exact ev_slice1M e ao n c
  · rw [← hN]; exact heap_last _ _
  · rw [size_of_alloc, hN]
theorem own_belowM {w w' : World} {base : Nat} {e : TypeId} {size : Nat} {v : Value} {n : Nat} {xs : List Value} (h : w.ownsRow base e size v n xs) (hb : Below w.heap.size w w') : w'.ownsRow base e size v n xs := by
  refine ⟨h.1, ?_⟩
  rcases h.2 with h0 | ⟨b, cap, cur, rfl, h1, h2, rest⟩
  · exact .inl h0
  · exact .inr ⟨b, cap, cur, rfl, h1, (hb.block b (Array.getElem?_eq_some_iff.1 h2).1).trans h2, rest⟩
theorem own_blockM {w : World} {base : Nat} {e : TypeId} {size : Nat} {v : Value} {n : Nat} {xs : List Value} (h : w.ownsRow base e size v n xs) : ∀ b, v.ownBlock = some b → base ≤ b ∧ b < w.heap.size ∧ ∃ cs, w.heap[b]? = some (.cells cs e (0, 0)) := by
  intro b hb
  rcases h.2 with ⟨rfl, -⟩ | ⟨g, cap, cur, rfl, h1, h2, -⟩
  · cases hb
  · cases hb; exact ⟨h1, (Array.getElem?_eq_some_iff.1 h2).1, cur, h2⟩
theorem evsC_one1 (e : Ev) (v : Value) : evsC [(e, v)] = (evC e v).toList := by rw [evsC, evsC, List.append_nil]
theorem evAt_one {w : World} {N : Nat} {T : TypeId} {e : Ev} {v : Value} (h : EvAt w N T e v) : ∀ j u, (evsC [(e, v)])[j]? = some u → w.cell? ((⟨N, 0, none⟩ : Addr).add j) = some u := fun j u hu => by
  rw [evsC_one1, Array.getElem?_toList] at hu
  rw [Addr.add_lit, Nat.zero_add]
  exact evAt_cell h j u hu
end Go.Proofs.YtcdjkjadbhejpaaDoor
