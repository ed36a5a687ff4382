/-
Texts that all claims of this seat share, part 2: Ref10Of, Events, EvSlices, EvLaws, Ready, DotFace, HeadsMem, Float, DotHold, DotSmall, VecCounts, Law09Orders.
-/
import Derived.Deep.MidRow
import Derived.Deep.Slices
import Derived.Laws.AppendOwn
import Derived.Laws.OwnMore
import Derived.Deep.AppendLies
import Derived.OwnWalk
import Derived.Great.Walk
import Derived.Laws.FloatArith
import Derived.WalkLawsBesides
import Derived.Test.YtcdjkjadbhejpaaGreatDoorPk1
namespace Go.Proofs.YtcdjkjadbhejpaaGreatDoor
open Go.RowKit
/-- A dot loaded from an address whose two cells are known. -/
theorem load_dot10 {P : Program} {ops : Array Oper} {rest : List Oper} {o : Oper} {a : Act} {w : World} {Q : Exit → Act → World → Prop} (hw : Region.wanted o (yielded ops a.tmps) = true) (ty : TypeId) (x : Operand) (ho : o.op = .load ty x)
    (A : Addr) (hx : a.eval x = .pointer (some A)) (r q : Int) {fs : Array Field} (hu : P.underlying ty = some (.struct fs)) (hi : (P.info? ty).map (·.size) = some 2) (hc : w.cell? A = some (.int .i64 r) ∧ w.cell? ⟨A.block, A.off + 1, none⟩ = some (.int .i64 q))
    (h : wpList P ops Q rest (a.put o.dst (.agg #[.int .i64 r, .int .i64 q])) w) : wpList P ops Q (o :: rest) a w := by
  rcases dot_yields (S := fun w' => w' = w) hw ty x ho A hx r q hu hi (fun w' e => by rw [e]; exact hc) with ⟨-, hy⟩ | ⟨hn, -⟩
  · refine wpList_step fun K hK => ?_
    rw [if_pos hw]
    unfold Oper.wp
    rw [hy w rfl]
    exact hK _ _ h
  · rw [hw] at hn; cases hn
theorem infoDot : ∃ i, Tryz.prog.info? 24 = some i ∧ (i.zero.map (·.cells.size), i.size, i.bytes) = (some 2, 2, 16) := by
  have h : (Tryz.prog.info? 24).map (fun i => (i.zero.map (·.cells.size), i.size, i.bytes)) = some (some 2, 2, 16) := by kernel_rfl
  cases hi : Tryz.prog.info? 24 with
  | none => rw [hi] at h; cases h
  | some i => rw [hi] at h; exact ⟨i, rfl, Option.some.inj h⟩
set_option maxRecDepth 100000 in
theorem dot_built2 (r q : Int) : Tryz.prog.built 24 [(0, .int .i64 r), (1, .int .i64 q)] = some #[.int .i64 r, .int .i64 q] := by rfl
set_option maxRecDepth 100000 in
set_option maxHeartbeats 16000000 in
theorem refOf_typ (f : Nat → Int) (w : World) : Calls Tryz.prog 93 #[.agg (nums 32 f)] w fun e w' => ∃ v, e = .returned v ∧ TypDots w' v (ofV f) ∧ Below w.heap.size w w' := by
  obtain ⟨i0, hi, hz⟩ := infoDot
  have HX := Lib.hid (heap_last w (.cells (nums 32 f) 123 (0, 0)))
  have HB := Lib.hid ((Below.refl w.heap.size w).alloc (Nat.le_refl _) (.cells (nums 32 f) 123 (0, 0)))
  have HW := Lib.hid (show w.heap.size < (w.alloc (.cells (nums 32 f) 123 (0, 0))).heap.size by simp)
  go_enter Tryz.func93, Tryz.ntmps93
  go_wp2
  go_loopw [3, 4] (fun v c wr => ∃ k : Nat, k ≤ 32 ∧ c = .int .i64 (k : Int) ∧ wr.ownsRow (w.heap.size + 1) 24 2 v (ofN f k).length (dotsC (ofN f k)) ∧ wr.heap[w.heap.size]? = some (.cells (nums 32 f) 123 (0, 0)) ∧ w.heap.size < wr.heap.size ∧ Below w.heap.size w wr) (fun _ c _ => 32 - (intOf c).toNat)
  case atStart => exact ⟨0, by omega, rfl, dots_own_nil _ _ _, HX.out, HW.out, HB.out⟩
  case round =>
    clear HX HB HW
    obtain ⟨k, hk, rfl, ho, hx, hs, hb⟩ := hrel
    have HO := Lib.hid ho
    have HX := Lib.hid hx
    have HB := Lib.hid hb
    have HS := Lib.hid hs
    by_cases hlt : k < 32
    · have q0 : (k : Int) < 32 := by omega
      have c0 := nums_cell HX.out k hlt
      have HL := Lib.hid (ofN_length f k)
      have KK := Lib.hid (show k + 1 ≤ 32 ∧ 32 - (k + 1) < 32 - k by omega)
      obtain ⟨m, hm⟩ : ∃ m, m = f k := ⟨_, rfl⟩
      rw [← hm] at c0
      by_cases hp : 0 < m
      · have d1 : decide (m > 0) = true := decide_eq_true hp
        have HN := Lib.hid (show ofN f (k + 1) = ofN f k ++ [((k : Int), m)] by rw [ofN, if_pos (by rw [← hm]; exact hp), ← hm])
        clear hp hm ho hx hb hs hlt
        go_wp2_with (first
          | (refine build_on (by rfl) 24 #[(0, .tmp 14), (1, .tmp 17)] rfl _ _ (dot_built2 (k : Int) m) (by simp [Act.eval]) ?_)
          | (at_builtin; refine append_dot rfl (.tmp 13) (.tmp 19) 26 rfl (w.heap.size + 1) 24 i0 Tryz.underlying26 hi hz _ (ofN f k) ((k : Int), m) rfl (HO.out.alloc _) ⟨wr.heap.size, 0, none⟩ 1 rfl ⟨(cell_of_row _ _ 0 _ _ _ (heap_last wr _)).trans rfl, by rw [Addr.add_lit]; exact (cell_of_row _ _ (0 + 1) _ _ _ (heap_last wr _)).trans rfl⟩ (by have := HL.out; have := KK.out.1; omega) (by have := HS.out; simp <;> omega) ?_; intro v1 w1 ho hg; rw [← HN.out] at ho; have HO1 := Lib.hid ho; have HB1 := Lib.hid (below_grown (HB.out.alloc HB.out.size _) hg (by have := HS.out; simp <;> omega) (fun j hj => by have := (HO.out.lt j hj).1; omega)); have HX1 := Lib.hid (show w1.heap[w.heap.size]? = some (.cells (nums 32 f) 123 (0, 0)) from (hg.block w.heap.size (by have := HS.out; simp <;> omega) (fun h => by have := (HO.out.lt _ h.symm).1; omega)).trans (by rw [heap_at_alloc, if_neg (by have := HS.out; omega)]; exact HX.out)); have HS1 := Lib.hid (show w.heap.size < w1.heap.size from Nat.lt_of_lt_of_le HS.out (Nat.le_trans (by simp) hg.size)); clear ho hg))
        refine ⟨⟨k + 1, KK.out.1, by simp, HO1.out, HX1.out, HS1.out, HB1.out⟩, ?_⟩
        have := KK.out.2; simp [intOf]; omega
      · have d1 : decide (m > 0) = false := decide_eq_false hp
        have HN := Lib.hid (show ofN f (k + 1) = ofN f k by rw [ofN, if_neg (by rw [← hm]; exact hp), List.append_nil])
        clear hp hm ho hx hb hs hlt
        go_wp2
        refine ⟨⟨k + 1, KK.out.1, by simp, by rw [HN.out]; exact HO.out, HX.out, HS.out, HB.out⟩, ?_⟩
        have := KK.out.2; simp [intOf]; omega
    · have q0 : ¬ (k : Int) < 32 := by omega
      obtain rfl : k = 32 := by omega
      have HD := Lib.hid (typ_of_own HO.out)
      clear ho hx hb hs hlt
      go_wp2
      go_ret
      exact ⟨_, rfl, HD.out, HB.out⟩
/-- Two dots compared. -/
theorem dots_take {a b : List D2} {k : Nat} {d e : D2} (ha : a[k]? = some d) (hb : b[k]? = some e) (h : a.take k = b.take k) : (a.take (k + 1) = b.take (k + 1)) ↔ d = e := by
  rw [List.take_add_one, List.take_add_one, ha, hb, h]
  simp
set_option maxRecDepth 100000 in
set_option maxHeartbeats 16000000 in
theorem refEqual_any (a b : List D2) (ha : a.length < 2000000) (v u : Value) (w : World) (hv : HasDots w v a) (hu : HasDots w u b) : Calls Tryz.prog 78 #[v, u] w fun e w' => e = .returned (.bool (a == b)) ∧ Below w.heap.size w w' := by
  have HV := Lib.hid hv
  have HU := Lib.hid hu
  obtain ⟨n, hn⟩ : ∃ n, n = a.length := ⟨_, rfl⟩
  obtain ⟨m, hm⟩ : ∃ m, m = b.length := ⟨_, rfl⟩
  obtain ⟨ao, cap, rfl⟩ := dots_shape hv n hn
  obtain ⟨ao2, cap2, rfl⟩ := dots_shape hu m hm
  have HN := Lib.hid (And.intro hn hm)
  have hn4 : n < 2000000 := by omega
  clear hn hm hv hu ha
  by_cases hnm : n = m
  · subst hnm
    go_enter Tryz.func78, Tryz.ntmps78
    go_wp2
    go_loopw [5] (fun c wr => ∃ k : Nat, k ≤ n ∧ c = .int .i64 (k : Int) ∧ a.take k = b.take k ∧ Below w.heap.size w wr) (fun c _ => n - (intOf c).toNat)
    case atStart => exact ⟨0, Nat.zero_le _, rfl, rfl, Below.refl _ _⟩
    case round =>
      obtain ⟨k, hk, rfl, ht, hb⟩ := hrel
      have HT := Lib.hid ht
      have HB := Lib.hid hb
      clear ht
      by_cases hlt : k < n
      · have q0 : (k : Int) < (n : Int) := by omega
        obtain ⟨d, hd⟩ : ∃ d, a[k]? = some d := ⟨_, List.getElem?_eq_getElem (by rw [← HN.out.1]; exact hlt)⟩
        obtain ⟨d2, hd2⟩ : ∃ d, b[k]? = some d := ⟨_, List.getElem?_eq_getElem (by rw [← HN.out.2]; exact hlt)⟩
        have HD := Lib.hid (dots_take hd hd2 HT.out)
        obtain ⟨r, q⟩ := d
        obtain ⟨r', q'⟩ := d2
        obtain ⟨ad, cap', e, c0, c1⟩ := dots_at (dots_below HV.out hb) n k HN.out.1.symm _ hd
        cases e
        obtain ⟨ad2, cap2', e, c2, c3⟩ := dots_at (dots_below HU.out hb) n k HN.out.2.symm _ hd2
        cases e
        have C0 := Lib.hid c0
        have C1 := Lib.hid c1
        have D0 := Lib.hid c2
        have D1 := Lib.hid c3
        have KK := Lib.hid (show k + 1 ≤ n ∧ n - (k + 1) < n - k by omega)
        clear c0 c1 c2 c3 hb hd hd2
        by_cases hs : r = r' ∧ q = q'
        · obtain ⟨rfl, rfl⟩ := hs
          go_wp2
          refine wp_region_held_drew (S := fun w' => Below wr.heap.size wr w') (by kernel_rfl) (drawS (Below.refl _ _)) (fun hHeld => ?_)
          generalize wr.drew = wd at hHeld ⊢
          refine take_at (i := 0) 17 rfl rfl (by kernel_rfl) (by kernel_rfl) (by kernel_rfl) (fun _ _ _ h => h) (sure_yes (by rfl) (fun w => by go_simp; try with_reducible rfl)) hHeld ?_
          simp only [List.setIfInBounds_toArray, List.set_cons_zero, List.set_cons_succ]
          refine take_at (i := 1) 18 rfl rfl (by kernel_rfl) (by kernel_rfl) (by kernel_rfl) (fun _ _ _ h => h) (sure_yes (by rfl) (fun w => by go_simp; try with_reducible rfl)) hHeld ?_
          simp only [List.setIfInBounds_toArray, List.set_cons_zero, List.set_cons_succ]
          refine take_at (i := 2) 19 rfl rfl (by kernel_rfl) (by kernel_rfl) (by kernel_rfl) (fun _ _ _ h => h) (sure_yes (by rfl) (fun w => by go_simp; try with_reducible rfl)) hHeld ?_
          simp only [List.setIfInBounds_toArray, List.set_cons_zero, List.set_cons_succ]
          refine take_at (i := 4) 21 rfl rfl (by kernel_rfl) (by kernel_rfl) (by kernel_rfl) (fun _ _ _ h => h) (sure_yes (by rfl) (fun w => by go_simp; try with_reducible rfl)) hHeld ?_
          simp only [List.setIfInBounds_toArray, List.set_cons_zero, List.set_cons_succ]
          refine take_at (i := 5) 22 rfl rfl (by kernel_rfl) (by kernel_rfl) (by kernel_rfl) (fun _ _ _ h => h) (sure_yes (by rfl) (fun w => by go_simp; try with_reducible rfl)) hHeld ?_
          simp only [List.setIfInBounds_toArray, List.set_cons_zero, List.set_cons_succ]
          refine take_at (i := 6) 23 rfl rfl (by kernel_rfl) (by kernel_rfl) (by kernel_rfl) (fun _ _ _ h => h) (sure_yes (by rfl) (fun w => by go_simp; try with_reducible rfl)) hHeld ?_
          simp only [List.setIfInBounds_toArray, List.set_cons_zero, List.set_cons_succ]
          refine take_at (i := 3) 20 rfl rfl (by kernel_rfl) (by kernel_rfl) (by kernel_rfl) (fun _ _ _ h => h) (dot_yields (by rfl) 24 (.tmp 19) rfl (ad.add (k * 2)) rfl r q Tryz.underlying24 (by kernel_rfl) (fun w h => ⟨(World.cell?_of_block (h.block _ (World.block_lt_of_cell? _ _ C0.out))).trans C0.out, (World.cell?_of_block (h.block _ (World.block_lt_of_cell? _ _ C1.out))).trans C1.out⟩)) hHeld ?_
          simp only [List.setIfInBounds_toArray, List.set_cons_zero, List.set_cons_succ]
          refine take_at (i := 7) 24 rfl rfl (by kernel_rfl) (by kernel_rfl) (by kernel_rfl) (fun _ _ _ h => h) (dot_yields (by rfl) 24 (.tmp 23) rfl (ad2.add (k * 2)) rfl r q Tryz.underlying24 (by kernel_rfl) (fun w h => ⟨(World.cell?_of_block (h.block _ (World.block_lt_of_cell? _ _ D0.out))).trans D0.out, (World.cell?_of_block (h.block _ (World.block_lt_of_cell? _ _ D1.out))).trans D1.out⟩)) hHeld ?_
          simp only [List.setIfInBounds_toArray, List.set_cons_zero, List.set_cons_succ]
          refine take_at (i := 8) 25 rfl rfl (by kernel_rfl) (by kernel_rfl) (by kernel_rfl) (fun _ _ _ h => h) (sure_yes (by rfl) (fun w => by go_simp; try with_reducible rfl)) hHeld ?_
          simp only [List.setIfInBounds_toArray, List.set_cons_zero, List.set_cons_succ]
          refine wpAnyH_done (by kernel_rfl) ?_ _
          go_wp2
          refine ⟨⟨k + 1, KK.out.1, by simp, HD.out.2 (by simp), below_next HB.out hHeld⟩, ?_⟩
          have := KK.out.2; simp [intOf]; omega
        · have HF := Lib.hid (show (a == b) = false by
            rw [beq_eq_false_iff_ne]; intro h
            have := HD.out.1 (by rw [h])
            simp only [Prod.mk.injEq] at this; exact hs this)
          go_wp2
          refine wp_region_held_drew (S := fun w' => Below wr.heap.size wr w') (by kernel_rfl) (drawS (Below.refl _ _)) (fun hHeld => ?_)
          generalize wr.drew = wd at hHeld ⊢
          refine take_at (i := 0) 17 rfl rfl (by kernel_rfl) (by kernel_rfl) (by kernel_rfl) (fun _ _ _ h => h) (sure_yes (by rfl) (fun w => by go_simp; try with_reducible rfl)) hHeld ?_
          simp only [List.setIfInBounds_toArray, List.set_cons_zero, List.set_cons_succ]
          refine take_at (i := 1) 18 rfl rfl (by kernel_rfl) (by kernel_rfl) (by kernel_rfl) (fun _ _ _ h => h) (sure_yes (by rfl) (fun w => by go_simp; try with_reducible rfl)) hHeld ?_
          simp only [List.setIfInBounds_toArray, List.set_cons_zero, List.set_cons_succ]
          refine take_at (i := 2) 19 rfl rfl (by kernel_rfl) (by kernel_rfl) (by kernel_rfl) (fun _ _ _ h => h) (sure_yes (by rfl) (fun w => by go_simp; try with_reducible rfl)) hHeld ?_
          simp only [List.setIfInBounds_toArray, List.set_cons_zero, List.set_cons_succ]
          refine take_at (i := 4) 21 rfl rfl (by kernel_rfl) (by kernel_rfl) (by kernel_rfl) (fun _ _ _ h => h) (sure_yes (by rfl) (fun w => by go_simp; try with_reducible rfl)) hHeld ?_
          simp only [List.setIfInBounds_toArray, List.set_cons_zero, List.set_cons_succ]
          refine take_at (i := 5) 22 rfl rfl (by kernel_rfl) (by kernel_rfl) (by kernel_rfl) (fun _ _ _ h => h) (sure_yes (by rfl) (fun w => by go_simp; try with_reducible rfl)) hHeld ?_
          simp only [List.setIfInBounds_toArray, List.set_cons_zero, List.set_cons_succ]
          refine take_at (i := 6) 23 rfl rfl (by kernel_rfl) (by kernel_rfl) (by kernel_rfl) (fun _ _ _ h => h) (sure_yes (by rfl) (fun w => by go_simp; try with_reducible rfl)) hHeld ?_
          simp only [List.setIfInBounds_toArray, List.set_cons_zero, List.set_cons_succ]
          refine take_at (i := 3) 20 rfl rfl (by kernel_rfl) (by kernel_rfl) (by kernel_rfl) (fun _ _ _ h => h) (dot_yields (by rfl) 24 (.tmp 19) rfl (ad.add (k * 2)) rfl r q Tryz.underlying24 (by kernel_rfl) (fun w h => ⟨(World.cell?_of_block (h.block _ (World.block_lt_of_cell? _ _ C0.out))).trans C0.out, (World.cell?_of_block (h.block _ (World.block_lt_of_cell? _ _ C1.out))).trans C1.out⟩)) hHeld ?_
          simp only [List.setIfInBounds_toArray, List.set_cons_zero, List.set_cons_succ]
          refine take_at (i := 7) 24 rfl rfl (by kernel_rfl) (by kernel_rfl) (by kernel_rfl) (fun _ _ _ h => h) (dot_yields (by rfl) 24 (.tmp 23) rfl (ad2.add (k * 2)) rfl r' q' Tryz.underlying24 (by kernel_rfl) (fun w h => ⟨(World.cell?_of_block (h.block _ (World.block_lt_of_cell? _ _ D0.out))).trans D0.out, (World.cell?_of_block (h.block _ (World.block_lt_of_cell? _ _ D1.out))).trans D1.out⟩)) hHeld ?_
          simp only [List.setIfInBounds_toArray, List.set_cons_zero, List.set_cons_succ]
          refine take_at (i := 8) (v := Value.bool true) 25 rfl rfl (by kernel_rfl) (by kernel_rfl) (by kernel_rfl) (fun _ _ _ h => h) (sure_yes (by rfl) (fun w => by go_simp; by_cases h1 : r = r' <;> by_cases h2 : q = q' <;> simp_all)) hHeld ?_
          simp only [List.setIfInBounds_toArray, List.set_cons_zero, List.set_cons_succ]
          refine wpAnyH_done (by kernel_rfl) ?_ _
          go_wp2
          go_ret
          exact ⟨by rw [HF.out]; rfl, below_next HB.out hHeld⟩
      · have q0 : ¬ (k : Int) < (n : Int) := by omega
        have HE := Lib.hid (show (a == b) = true by
          have h := HT.out
          rw [show k = n by omega] at h
          rw [beq_iff_eq, ← List.take_length (l := a), ← List.take_length (l := b), ← HN.out.1, ← HN.out.2]; exact h)
        clear hb
        go_wp2
        go_ret
        exact ⟨by rw [HE.out]; rfl, HB.out⟩
  · have HF := Lib.hid (show (a == b) = false by
      rw [beq_eq_false_iff_ne]; intro h
      exact hnm (by rw [HN.out.1, HN.out.2, h]))
    have t1 : ((n : Int) != (m : Int)) = true := by rw [bne_iff_ne]; omega
    clear hnm
    go_enter Tryz.func78, Tryz.ntmps78
    go_wp2
    go_ret
    exact ⟨by rw [HF.out]; rfl, Below.refl _ _⟩
end Go.Proofs.YtcdjkjadbhejpaaGreatDoor
namespace Go.Proofs.YtcdjkjadbhejpaaGreatDoor
open Go.RowKit
/-- The cells of an event; v is the slice of what was known. -/
def evC (e : Ev) (v : Value) : Array Value := #[.int .i64 e.r, .int .i64 e.q, v, .int .i64 e.kind, .string (str e.path)] ++ row .u8 32 e.sum ++ #[.int .i64 e.size]
theorem evC_size (e : Ev) (v : Value) : (evC e v).size = 38 := by simp [evC, row_size]
theorem evC_at (e : Ev) (v : Value) : (evC e v)[0]? = some (.int .i64 e.r) ∧ (evC e v)[1]? = some (.int .i64 e.q) ∧ (evC e v)[2]? = some v ∧ (evC e v)[3]? = some (.int .i64 e.kind) ∧ (evC e v)[4]? = some (.string (str e.path)) ∧ (evC e v)[37]? = some (.int .i64 e.size) := by
  refine ⟨?_, ?_, ?_, ?_, ?_, ?_⟩
  iterate 5 simp [evC, row_size]
  unfold evC
  rw [Array.getElem?_append_right (by simp [row_size])]
  simp [row_size]
theorem evC_sum (e : Ev) (v : Value) (j : Nat) (u : Value) (h : (row .u8 32 e.sum).toList[j]? = some u) : (evC e v)[5 + j]? = some u := by
  have hj : j < 32 := by have := (List.getElem?_eq_some_iff.1 h).1; simpa [row_size] using this
  rw [Array.getElem?_toList] at h
  unfold evC
  rw [Array.getElem?_append_left (by simp [row_size]; omega), Array.getElem?_append_right (by simp)]
  simpa using h
theorem evC_one (e : Ev) (v : Value) (hv : v.oneCell' = true) : (evC e v).all (·.oneCell') = true := by
  have hr := row_one .u8 32 e.sum
  rw [Array.all_eq_true_iff_forall_mem] at hr ⊢
  intro x hx
  unfold evC at hx
  rcases Array.mem_append.1 hx with hx | hx
  · rcases Array.mem_append.1 hx with hx | hx
    · simp only [List.mem_toArray, List.mem_cons, List.not_mem_nil, or_false] at hx
      rcases hx with rfl | rfl | rfl | rfl | rfl
      · rfl
      · rfl
      · exact hv
      · rfl
      · rfl
    · exact hr x hx
  · simp only [List.mem_toArray, List.mem_cons, List.not_mem_nil, or_false] at hx
    subst hx; rfl
/-- A block that is an event. -/
def EvAt (w : World) (B : Nat) (T : TypeId) (e : Ev) (v : Value) : Prop := w.heap[B]? = some (.cells (evC e v) T (0, 0))
theorem evAt_kept {w w' : World} {B : Nat} {T : TypeId} {e : Ev} {v : Value} (h : EvAt w B T e v) (hb : Below w.heap.size w w') : EvAt w' B T e v :=
  (hb.block B (Array.getElem?_eq_some_iff.1 h).1).trans h
theorem evAt_cell {w : World} {B : Nat} {T : TypeId} {e : Ev} {v : Value} (h : EvAt w B T e v) (j : Nat) (u : Value) (hu : (evC e v)[j]? = some u) : w.cell? ⟨B, j, none⟩ = some u := by
  unfold EvAt at h
  simp only [World.cell?, h]
  exact hu
theorem evAt_cells {w : World} {B : Nat} {T : TypeId} {e : Ev} {v : Value} (h : EvAt w B T e v) :
    w.cell? ⟨B, 0, none⟩ = some (.int .i64 e.r) ∧ w.cell? ⟨B, 1, none⟩ = some (.int .i64 e.q) ∧ w.cell? ⟨B, 2, none⟩ = some v ∧ w.cell? ⟨B, 3, none⟩ = some (.int .i64 e.kind) ∧ w.cell? ⟨B, 4, none⟩ = some (.string (str e.path)) ∧ w.cell? ⟨B, 37, none⟩ = some (.int .i64 e.size) := by
  obtain ⟨h0, h1, h2, h3, h4, h5⟩ := evC_at e v
  exact ⟨evAt_cell h _ _ h0, evAt_cell h _ _ h1, evAt_cell h _ _ h2, evAt_cell h _ _ h3, evAt_cell h _ _ h4, evAt_cell h _ _ h5⟩
theorem evAt_dot {w : World} {B : Nat} {T : TypeId} {e : Ev} {v : Value} (h : EvAt w B T e v) : w.cell? ⟨B, 0, none⟩ = some (.int .i64 e.r) ∧ w.cell? ⟨(⟨B, 0, none⟩ : Addr).block, (⟨B, 0, none⟩ : Addr).off + 1, none⟩ = some (.int .i64 e.q) := ⟨(evAt_cells h).1, (evAt_cells h).2.1⟩
theorem evAt_sum {w : World} {B : Nat} {T : TypeId} {e : Ev} {v : Value} (h : EvAt w B T e v) : w.rangeAt B 5 (row .u8 32 e.sum).toList := fun j u hu => evAt_cell h _ _ (evC_sum e v j u hu)
theorem box_ev (w : World) (T : TypeId) (e : Ev) (v : Value) : EvAt (w.alloc (.cells (evC e v) T (0, 0))) w.heap.size T e v := heap_last _ _
/-- A row loaded out of the middle of a block, where the operation's guard lets it run. -/
theorem load_mid_on {P : Program} {ops : Array Oper} {rest : List Oper} {o : Oper} {a : Act} {w : World} {Q : Exit → Act → World → Prop} (hw : Region.wanted o (yielded ops a.tmps) = true) (ty : TypeId) (x : Operand) (ho : o.op = .load ty x)
    (b n : Nat) (hx : a.eval x = .pointer (some ⟨b, n, none⟩)) (cs : List Value) (d : TypeDesc) (hc : w.rangeAt b n cs) (hu : P.underlying ty = some d) (hd : d.isRow = true) (hi : (P.info? ty).map (·.size) = some cs.length)
    (h : wpList P ops Q rest (a.put o.dst (.agg cs.toArray)) w) : wpList P ops Q (o :: rest) a w := by
  rcases yieldsIf_load_mid (S := fun w' => w' = w) hw ty x ho b n hx cs d (fun w' e => by rw [e]; exact hc) hu hd hi with ⟨-, hy⟩ | ⟨hn, -⟩
  · refine wpList_step fun K hK => ?_
    rw [if_pos hw]
    unfold Oper.wp
    rw [hy w rfl]
    exact hK _ _ h
  · rw [hw] at hn; cases hn
theorem load_sum_on {P : Program} {ops : Array Oper} {rest : List Oper} {o : Oper} {a : Act} {w : World} {Q : Exit → Act → World → Prop} (hw : Region.wanted o (yielded ops a.tmps) = true) (ty : TypeId) (x : Operand) (ho : o.op = .load ty x)
    (b : Nat) (hx : a.eval x = .pointer (some ⟨b, 5, none⟩)) {T : TypeId} {e : Ev} {v : Value} {n : Nat} {u : TypeId} (hc : EvAt w b T e v) (hu : P.underlying ty = some (.array n u)) (hi : (P.info? ty).map (·.size) = some 32)
    (h : wpList P ops Q rest (a.put o.dst (rowV .u8 32 e.sum)) w) : wpList P ops Q (o :: rest) a w :=
  load_mid_on hw ty x ho b 5 hx (row .u8 32 e.sum).toList _ (evAt_sum hc) hu rfl (by rw [hi]; simp [row_size]) (by rwa [Array.toArray_toList])
/-- A whole event loaded. -/
theorem load_ev_on {P : Program} {ops : Array Oper} {rest : List Oper} {o : Oper} {a : Act} {w : World} {Q : Exit → Act → World → Prop} (hw : Region.wanted o (yielded ops a.tmps) = true) (ty : TypeId) (x : Operand) (ho : o.op = .load ty x)
    (b : Nat) (hx : a.eval x = .pointer (some ⟨b, 0, none⟩)) {T : TypeId} {e : Ev} {v : Value} {fs : Array Field} (hc : EvAt w b T e v) (hu : P.underlying ty = some (.struct fs)) (hi : (P.info? ty).map (·.size) = some 38)
    (h : wpList P ops Q rest (a.put o.dst (.agg (evC e v))) w) : wpList P ops Q (o :: rest) a w :=
  load_row_on hw ty x ho b hx T _ (0, 0) _ hc hu rfl (by rw [hi, evC_size]) h
/-- One cell loaded, where the operation's guard lets it run. -/
theorem load_str_on {P : Program} {ops : Array Oper} {rest : List Oper} {o : Oper} {a : Act} {w : World} {Q : Exit → Act → World → Prop} (hw : Region.wanted o (yielded ops a.tmps) = true) (ty : TypeId) (x : Operand) (ho : o.op = .load ty x)
    (A : Addr) (hx : a.eval x = .pointer (some A)) (s : ByteArray) (hu : P.underlying ty = some .string) (hc : w.cell? A = some (.string s))
    (h : wpList P ops Q rest (a.put o.dst (.string s)) w) : wpList P ops Q (o :: rest) a w := by
  have hy : (execOp a.eval o).run P w = .ok (.value (.string s)) w := by
    unfold execOp
    simp [ho, hx, Instr.loadAt, Instr.sureAddr, loadVar, isAgg, run_underlying hu, hc]
  refine wpList_step fun K hK => ?_
  rw [if_pos hw]
  unfold Oper.wp
  rw [hy]
  exact hK _ _ h
end Go.Proofs.YtcdjkjadbhejpaaGreatDoor
namespace Go.Proofs.YtcdjkjadbhejpaaGreatDoor
open Go.RowKit
/-- Events as the cells of a slice; each with the slice of what was known. -/
def evsC : List (Ev × Value) → List Value
  | [] => []
  | x :: t => (evC x.1 x.2).toList ++ evsC t
theorem evC_len (e : Ev) (v : Value) : (evC e v).toList.length = 38 := by rw [Array.length_toList, evC_size]
theorem evsC_length (us : List (Ev × Value)) : (evsC us).length = us.length * 38 := by
  induction us with
  | nil => rfl
  | cons x t ih => rw [evsC, List.length_append, evC_len, ih, List.length_cons]; omega
theorem evsC_append (us vs : List (Ev × Value)) : evsC (us ++ vs) = evsC us ++ evsC vs := by
  induction us with
  | nil => rfl
  | cons x t ih => rw [List.cons_append, evsC, evsC, ih, List.append_assoc]
theorem evsC_one (us : List (Ev × Value)) (h : ∀ x ∈ us, x.2.oneCell' = true) : ∀ u ∈ evsC us, u.oneCell' = true := by
  induction us with
  | nil => intro u hu; cases hu
  | cons x t ih =>
    intro u hu
    rw [evsC] at hu
    rcases List.mem_append.1 hu with hu | hu
    · exact (Array.all_eq_true_iff_forall_mem.1 (evC_one x.1 x.2 (h x (by simp)))) u (by simpa using hu)
    · exact ih (fun y hy => h y (by simp [hy])) u hu
theorem evsC_at (us : List (Ev × Value)) : ∀ k x, us[k]? = some x → ∀ j u, (evC x.1 x.2)[j]? = some u → (evsC us)[k * 38 + j]? = some u := by
  induction us with
  | nil => intro k x h; simp at h
  | cons y t ih =>
    intro k x h j u hu
    rw [evsC]
    cases k with
    | zero =>
      simp at h; subst h
      have hj : j < 38 := by have := (Array.getElem?_eq_some_iff.1 hu).1; rwa [evC_size] at this
      rw [List.getElem?_append_left (by rw [evC_len]; omega), Array.getElem?_toList, show 0 * 38 + j = j by omega]; exact hu
    | succ k =>
      rw [List.getElem?_append_right (by rw [evC_len]; omega), evC_len, show (k + 1) * 38 + j - 38 = k * 38 + j by omega]
      exact ih k x (by simpa using h) j u hu
/-- A slice value whose elements are these events. -/
def HasEvs (w : World) (v : Value) (l : List Ev) : Prop :=
  ∃ us : List (Ev × Value), us.map (·.1) = l ∧ (∀ x ∈ us, HasDots w x.2 x.1.deps) ∧ ∃ ao cap, v = .slice ao us.length cap ∧ (ao = none → us = [] ∧ cap = 0) ∧ ∀ ad, ao = some ad → us.length ≤ cap ∧ ∀ j u, (evsC us)[j]? = some u → w.cell? (ad.add j) = some u
theorem evs_nil (w : World) : HasEvs w (.slice none 0 0) [] := ⟨[], rfl, (fun _ h => by cases h), none, 0, rfl, fun _ => ⟨rfl, rfl⟩, fun _ h => by cases h⟩
theorem evs_below {w w' : World} {v : Value} {l : List Ev} (h : HasEvs w v l) (hb : Below w.heap.size w w') : HasEvs w' v l := by
  obtain ⟨us, h1, h2, ao, cap, rfl, hnil, hc⟩ := h
  refine ⟨us, h1, fun x hx => dots_below (h2 x hx) hb, ao, cap, rfl, hnil, fun ad had => ⟨(hc ad had).1, fun j u hu => ?_⟩⟩
  have h1 := (hc ad had).2 j u hu
  exact (World.cell?_of_block (hb.block (ad.add j).block (World.block_lt_of_cell? w _ h1))).trans h1
theorem addr_add2 (ad : Addr) (k j : Nat) : (ad.add k).add j = ad.add (k + j) := Go.Deep.add_add ad k j
/-- An event loaded from wherever its cells lie. -/
theorem ev_run {P : Program} {o : Oper} {a : Act} {w : World} (ty : TypeId) (x : Operand) (ho : o.op = .load ty x) (A : Addr) (hx : a.eval x = .pointer (some A)) {e : Ev} {v : Value} {fs : Array Field} (hu : P.underlying ty = some (.struct fs))
    (hi : (P.info? ty).map (·.size) = some 38) (hc : ∀ j u, (evC e v)[j]? = some u → w.cell? (A.add j) = some u) : (execOp a.eval o).run P w = .ok (.value (.agg (evC e v))) w := by
  have hl : (loadCells A (evC e v).toList.length).run P w = .ok (evC e v).toList.toArray w := run_loadCells_list (P := P) w A _ (fun j u hj => hc j u (by rwa [Array.getElem?_toList] at hj))
  rw [evC_len, Array.toArray_toList] at hl
  cases hq : P.info? ty with
  | none => simp [hq] at hi
  | some i =>
    have hs : i.size = 38 := by simpa [hq] using hi
    unfold execOp
    simp [ho, hx, Instr.loadAt, Instr.sureAddr, loadVar, isAgg, run_underlying hu, sizeOf, typeInfo, hq, hs, hl]
theorem evA_yields {P : Program} {ops : Array Oper} {S : World → Prop} {o : Oper} {a : Act} (hw : Region.wanted o (yielded ops a.tmps) = true) (ty : TypeId) (x : Operand) (ho : o.op = .load ty x) (A : Addr) (hx : a.eval x = .pointer (some A)) {e : Ev} {v : Value} {fs : Array Field}
    (hu : P.underlying ty = some (.struct fs)) (hi : (P.info? ty).map (·.size) = some 38) (hS : ∀ w, S w → ∀ j u, (evC e v)[j]? = some u → w.cell? (A.add j) = some u) : YieldsIf P ops S o (.agg (evC e v)) a :=
  .inl ⟨hw, fun w h => ev_run ty x ho A hx hu hi (hS w h)⟩
/-- A slice of events of the call's own, whose vectors lie in blocks of dots. -/
def OwnEvs (B : Nat) (w : World) (v : Value) (us : List (Ev × Value)) : Prop := w.ownsRow B 30 38 v us.length (evsC us) ∧ ∀ x ∈ us, TypDots w x.2 x.1.deps
theorem ownEvs_nil (B : Nat) (w : World) : OwnEvs B w (.slice none 0 0) [] := ⟨World.ownsRow_nil _ _ _ _, fun _ h => by cases h⟩
theorem evs_of_own {B : Nat} {w : World} {v : Value} {us : List (Ev × Value)} (h : OwnEvs B w v us) : HasEvs w v (us.map (·.1)) := by
  obtain ⟨h, ht⟩ := h
  rcases h.2 with ⟨rfl, h0⟩ | ⟨g, cap, cur, rfl, rest⟩
  · obtain rfl : us = [] := List.eq_nil_of_length_eq_zero h0
    exact evs_nil w
  · exact ⟨us, rfl, fun x hx => (ht x hx).1, some ⟨g, 0, none⟩, cap, rfl, (fun h => by cases h), fun ad had => ⟨rest.2.2.1, fun j u hu => by
      cases had; exact h.cells rfl j u hu⟩⟩
/-- One event appended to a slice of events of the call's own. -/
theorem append_ev {P : Program} {w : World} {ops : Array Oper} {rest : List Oper} {o : Oper} {a : Act} {Q : Exit → Act → World → Prop} (hgd : o.guard = none) (s x : Operand) (t : TypeId)
    (ho : o.op = .call { callee := .builtin .append, args := #[s, x], argTypes := #[t, t] })
    (base : Nat) (e : TypeId) (i : TypeInfo) (ht : P.underlying t = some (.slice e)) (hi : P.info? e = some i) (hz : (i.zero.map (·.cells.size), i.size, i.bytes) = (some 38, 38, 104))
    (v : Value) (us : List (Ev × Value)) (y : Ev × Value) (hs : a.eval s = v) (hown : w.ownsRow base e 38 v us.length (evsC us)) (hone : y.2.oneCell' = true) (ad : Addr) (c : Nat) (hx : a.eval x = .slice (some ad) 1 c)
    (hc : ∀ j u, (evC y.1 y.2)[j]? = some u → w.cell? (ad.add j) = some u) (hlen : us.length + 1 ≤ 100000) (hbase : base ≤ w.heap.size)
    (h : ∀ v' w', w'.ownsRow base e 38 v' (us ++ [y]).length (evsC (us ++ [y])) → w.grownBy w' v.ownBlock → wpList P ops Q rest (a.put o.dst v') w') : wpList P ops Q (o :: rest) a w := by
  simp only [Prod.mk.injEq] at hz
  obtain ⟨hz1, hz2, hz3⟩ := hz
  cases hzz : i.zero with
  | none => rw [hzz] at hz1; cases hz1
  | some z =>
    rw [hzz] at hz1
    simp only [Option.map_some, Option.some.injEq] at hz1
    have e1 : evsC [y] = (evC y.1 y.2).toList := by rw [evsC, evsC, List.append_nil]
    refine wpList_append_own w hgd s x t ho base e i z 38 104 ht hi hzz hz2 hz3 hz1 (by decide) v us.length (evsC us) hs hown ad 1 c (evsC [y]) hx (by rw [evsC_length]; rfl) (fun j u hj => ?_) (evsC_one [y] (fun q hq => by
      simp only [List.mem_singleton] at hq; rw [hq]; exact hone))
      (by unfold maxLen; omega) (by omega) hbase fun v' w' h1 h2 _ => h v' w' (by rw [evsC_append, List.length_append]; exact h1) h2
    rw [e1, Array.getElem?_toList] at hj
    exact hc j u hj
theorem infoEv : ∃ i, Tryz.prog.info? 30 = some i ∧ (i.zero.map (·.cells.size), i.size, i.bytes) = (some 38, 38, 104) := by
  have h : (Tryz.prog.info? 30).map (fun i => (i.zero.map (·.cells.size), i.size, i.bytes)) = some (some 38, 38, 104) := by kernel_rfl
  cases hi : Tryz.prog.info? 30 with
  | none => rw [hi] at h; cases h
  | some i => rw [hi] at h; exact ⟨i, rfl, Option.some.inj h⟩
end Go.Proofs.YtcdjkjadbhejpaaGreatDoor
namespace Go.Proofs.YtcdjkjadbhejpaaGreatDoor
open Go.RowKit
set_option maxRecDepth 100000 in
theorem ev_built (e : Ev) (ao : Option Addr) (n c : Nat) : Tryz.prog.built 30 [(0, .agg #[.int .i64 e.r, .int .i64 e.q]), (1, .slice ao n c), (2, .int .i64 e.kind), (3, .string (str e.path)), (4, .agg (row .u8 32 e.sum)), (5, .int .i64 e.size)] = some (evC e (.slice ao n c)) := by kernel_rfl
theorem build_yields {P : Program} {ops : Array Oper} {S : World → Prop} {o : Oper} {a : Act} (hw : Region.wanted o (yielded ops a.tmps) = true) (t : TypeId) (parts : Array (Nat × Operand)) (ho : o.op = .build t parts) (ps : List (Nat × Value)) (cs : Array Value)
    (hb : P.built t ps = some cs) (hp : (parts.map fun (i, x) => (i, a.eval x)).toList = ps) : YieldsIf P ops S o (.agg cs) a :=
  .inl ⟨hw, fun w _ => by
    subst hp
    unfold execOp
    simp only [ho, Sem.run_bind, run_build w t _ cs hb, Result.andThen_ok]
    rfl⟩
theorem store_ev_at {P : Program} {ops : Array Oper} {o : Oper} {a : Act} {w : World} {K : Act → World → Prop} {Q : Exit → Act → World → Prop} {E : Prop} (hd : o.dst = none) (hw : Region.wanted o (yielded ops a.tmps) = true) (ty : TypeId) (x y : Operand) (ho : o.op = .store ty x y)
    (g : Nat) (e e0 : Ev) (v v0 : Value) (hx : a.eval x = .pointer (some ⟨g, 0, none⟩)) (hy : a.eval y = .agg (evC e v)) (t : TypeId) (hg : EvAt w g t e0 v0) (hi : (P.info? ty).map (·.size) = some 38) (hv : v.oneCell' = true)
    (h : ∀ w', EvAt w' g t e v → Solo g w w' → K a w') : if Region.wanted o (yielded ops a.tmps) = true then Oper.wp P o a w K Q else E :=
  store_at hd hw ty x y ho g (evC e v) hx hy t _ hg (by rw [hi, evC_size]) (by rw [evC_size, evC_size]) (evC_one e v hv) (h _ (setRow_heap _ _ _ _ _ _ hg) (solo_setRow w g _))
theorem str_yields12 {P : Program} {ops : Array Oper} {S : World → Prop} {o : Oper} {a : Act} (hw : Region.wanted o (yielded ops a.tmps) = true) (ty : TypeId) (x : Operand) (ho : o.op = .load ty x)
    (ad : Addr) (hx : a.eval x = .pointer (some ad)) (s : ByteArray) (hu : P.underlying ty = some .string) (hS : ∀ w, S w → w.cell? ad = some (.string s)) : YieldsIf P ops S o (.string s) a :=
  .inl ⟨hw, fun w h => by
    have hc := hS w h
    unfold execOp
    simp [ho, hx, Instr.loadAt, Instr.sureAddr, loadVar, isAgg, run_underlying hu, hc]⟩
/-- An event stored by the one operation that is ready. -/
theorem ready_store_ev {P : Program} {md : Region.Mode} {ops : Array Oper} {Q : Exit → Act → World → Prop} {S : World → Prop} {fuel : Nat} {listed : Array Bool} {a : Act} {w : World} (i : Nat) (hr : Region.ready md ops listed = [i]) {o : Oper} (hoi : ops[i]? = some o)
    (hd : o.dst = none) (hw : Region.wanted o (yielded ops a.tmps) = true) (ty : TypeId) (x y : Operand) (ho : o.op = .store ty x y) (g : Nat) (e e0 : Ev) (v v0 : Value) (hx : a.eval x = .pointer (some ⟨g, 0, none⟩)) (hy : a.eval y = .agg (evC e v)) (t : TypeId)
    (hg : EvAt w g t e0 v0) (hi : (P.info? ty).map (·.size) = some 38) (hv : v.oneCell' = true)
    (h : ∀ w', EvAt w' g t e v → Solo g w w' → S w' ∧ wpAnyH P md ops Q S fuel (listed.setIfInBounds i true) a w') : wpAnyH P md ops Q S (fuel + 1) listed a w :=
  wpAnyH_ready hr (by simp) (AllReadyH.cons hoi (fun K hK => store_ev_at hd hw ty x y ho g e e0 v v0 hx hy t hg hi hv (fun w' h1 h2 => hK.out _ _ (h w' h1 h2).1 (fun _ => (h w' h1 h2).2))) AllReadyH.nil)
theorem dots_solo {w w' : World} {v : Value} {l : List D2} {g : Nat} (h : HasDots w v l) (hs : Solo g w w') (hne : l = [] ∨ v.ownBlock ≠ some g) : HasDots w' v l := by
  obtain ⟨ao, cap, rfl, hnil, hc⟩ := h
  refine ⟨ao, cap, rfl, hnil, fun ad had => ⟨(hc ad had).1, fun j u hu => ?_⟩⟩
  rcases hne with rfl | hne
  · simp [dotsC] at hu
  · have h1 := (hc ad had).2 j u hu
    refine (World.cell?_of_block (hs.block (ad.add j).block fun e => hne ?_)).trans h1
    rw [had]
    show some ad.block = some g
    rw [← e]; unfold Addr.add; split <;> rfl
theorem typ_solo {w w' : World} {v : Value} {l : List D2} {g : Nat} (h : TypDots w v l) (hs : Solo g w w') {cs : Array Value} {T : TypeId} {fr : Nat × Nat} (hg : w.heap[g]? = some (.cells cs T fr)) (hT : T ≠ 24) : TypDots w' v l := by
  have hne : l = [] ∨ v.ownBlock ≠ some g := h.2.elim .inl fun ⟨k, cs', fr', h1, h2⟩ => .inr fun e => by
    rw [h1] at e; cases e; rw [h2] at hg; cases hg; exact hT rfl
  refine ⟨dots_solo h.1 hs hne, h.2.elim .inl fun ⟨k, cs', fr', h1, h2⟩ => ?_⟩
  rcases hne with rfl | hne
  · exact .inl rfl
  · exact .inr ⟨k, cs', fr', h1, (hs.block k fun e => hne (by rw [h1, e])).trans h2⟩
set_option maxRecDepth 100000 in
theorem evSize : (Tryz.prog.info? 30).map (·.size) = some 38 := by kernel_rfl
set_option maxRecDepth 100000 in
theorem sumSize : (Tryz.prog.info? 28).map (·.size) = some 32 := by kernel_rfl
end Go.Proofs.YtcdjkjadbhejpaaGreatDoor
namespace Go.Proofs.YtcdjkjadbhejpaaGreatDoor
open Go.RowKit
theorem call_at1 {P : Program} {ops : Array Oper} {o : Oper} {a : Act} {w : World} {K : Act → World → Prop} {Q : Exit → Act → World → Prop} {E : Prop} (hw : Region.wanted o (yielded ops a.tmps) = true) (f : FuncId) (x : Operand) (t : TypeId)
    (ho : o.op = .call { callee := .value (.func f), args := #[x], argTypes := #[t] }) (v : Value) (hx : a.eval x = v) (eg : ∀ vs w, (callFunc f vs).run P w = .ok (.enter f vs) w) (Post : Ending → World → Prop) (hc : Calls P f #[v] w Post)
    (h : ∀ e w', Post e w' → ∃ r, e = .returned r ∧ K (a.put o.dst r) w') : if Region.wanted o (yielded ops a.tmps) = true then Oper.wp P o a w K Q else E := by
  rw [if_pos hw]
  have hr : (execOp a.eval o).run P w = .ok (.enter f #[v]) w := by
    have hv : a.eval (.func f) = .func (.func f) #[] #[] := rfl
    simp [execOp, ho, resolve, invoke, Deferred.ofValue, hx, hv, eg]
  unfold Oper.wp
  rw [hr]
  exact hc.mono fun e w' hp => by
    obtain ⟨r, rfl, hk⟩ := h e w' hp
    exact hk
theorem call_at2 {P : Program} {ops : Array Oper} {o : Oper} {a : Act} {w : World} {K : Act → World → Prop} {Q : Exit → Act → World → Prop} {E : Prop} (hw : Region.wanted o (yielded ops a.tmps) = true) (f : FuncId) (x y : Operand) (t u : TypeId)
    (ho : o.op = .call { callee := .value (.func f), args := #[x, y], argTypes := #[t, u] }) (v z : Value) (hx : a.eval x = v) (hy : a.eval y = z) (eg : ∀ vs w, (callFunc f vs).run P w = .ok (.enter f vs) w) (Post : Ending → World → Prop) (hc : Calls P f #[v, z] w Post)
    (h : ∀ e w', Post e w' → ∃ r, e = .returned r ∧ K (a.put o.dst r) w') : if Region.wanted o (yielded ops a.tmps) = true then Oper.wp P o a w K Q else E := by
  rw [if_pos hw]
  have hr : (execOp a.eval o).run P w = .ok (.enter f #[v, z]) w := by
    have hv : a.eval (.func f) = .func (.func f) #[] #[] := rfl
    simp [execOp, ho, resolve, invoke, Deferred.ofValue, hx, hy, hv, eg]
  unfold Oper.wp
  rw [hr]
  exact hc.mono fun e w' hp => by
    obtain ⟨r, rfl, hk⟩ := h e w' hp
    exact hk
/-- A call with one argument, by the one operation that is ready. -/
theorem ready_call1 {P : Program} {md : Region.Mode} {ops : Array Oper} {Q : Exit → Act → World → Prop} {S : World → Prop} {fuel : Nat} {listed : Array Bool} {ts : Array Value} {ds : List Deferred} {w : World} (i d : Nat) (hr : Region.ready md ops listed = [i]) {o : Oper} (hoi : ops[i]? = some o)
    (hd : o.dst = some d) (hw : Region.wanted o (yielded ops ts) = true) (f : FuncId) (x : Operand) (t : TypeId) (ho : o.op = .call { callee := .value (.func f), args := #[x], argTypes := #[t] }) (v : Value) (hx : Act.eval { tmps := ts, defers := ds } x = v)
    (eg : ∀ vs w, (callFunc f vs).run P w = .ok (.enter f vs) w) (Post : Ending → World → Prop) (hc : Calls P f #[v] w Post)
    (h : ∀ e w', Post e w' → ∃ r, e = .returned r ∧ S w' ∧ wpAnyH P md ops Q S fuel (listed.setIfInBounds i true) { tmps := ts.setIfInBounds d r, defers := ds } w') : wpAnyH P md ops Q S (fuel + 1) listed { tmps := ts, defers := ds } w :=
  wpAnyH_ready hr (by simp) (AllReadyH.cons hoi (fun K hK => call_at1 hw f x t ho v hx eg Post hc (fun e w' hp => by
    obtain ⟨r, e1, h1, h2⟩ := h e w' hp
    refine ⟨r, e1, ?_⟩
    rw [hd]
    exact hK.out _ _ h1 (fun _ => h2))) AllReadyH.nil)
/-- .. with two. -/
theorem ready_call2 {P : Program} {md : Region.Mode} {ops : Array Oper} {Q : Exit → Act → World → Prop} {S : World → Prop} {fuel : Nat} {listed : Array Bool} {ts : Array Value} {ds : List Deferred} {w : World} (i d : Nat) (hr : Region.ready md ops listed = [i]) {o : Oper} (hoi : ops[i]? = some o)
    (hd : o.dst = some d) (hw : Region.wanted o (yielded ops ts) = true) (f : FuncId) (x y : Operand) (t u : TypeId) (ho : o.op = .call { callee := .value (.func f), args := #[x, y], argTypes := #[t, u] }) (v z : Value) (hx : Act.eval { tmps := ts, defers := ds } x = v) (hy : Act.eval { tmps := ts, defers := ds } y = z)
    (eg : ∀ vs w, (callFunc f vs).run P w = .ok (.enter f vs) w) (Post : Ending → World → Prop) (hc : Calls P f #[v, z] w Post)
    (h : ∀ e w', Post e w' → ∃ r, e = .returned r ∧ S w' ∧ wpAnyH P md ops Q S fuel (listed.setIfInBounds i true) { tmps := ts.setIfInBounds d r, defers := ds } w') : wpAnyH P md ops Q S (fuel + 1) listed { tmps := ts, defers := ds } w :=
  wpAnyH_ready hr (by simp) (AllReadyH.cons hoi (fun K hK => call_at2 hw f x y t u ho v z hx hy eg Post hc (fun e w' hp => by
    obtain ⟨r, e1, h1, h2⟩ := h e w' hp
    refine ⟨r, e1, ?_⟩
    rw [hd]
    exact hK.out _ _ h1 (fun _ => h2))) AllReadyH.nil)
end Go.Proofs.YtcdjkjadbhejpaaGreatDoor
namespace Go.Proofs.YtcdjkjadbhejpaaGreatDoor
open Go.RowKit
/-- A number of 64 bits. -/
def I64 (a : Int) : Prop := -9223372036854775808 ≤ a ∧ a < 9223372036854775808
end Go.Proofs.YtcdjkjadbhejpaaGreatDoor
namespace Go.Proofs.YtcdjkjadbhejpaaGreatDoor
open Go.RowKit
def HoldsU (w : World) (v : Value) (us : List (Ev × Value)) : Prop :=
  ∃ ao cap, v = .slice ao us.length cap ∧ (ao = none → us = [] ∧ cap = 0) ∧ ∀ ad, ao = some ad → us.length ≤ cap ∧ ∀ j u, (evsC us)[j]? = some u → w.cell? (ad.add j) = some u
def DepsU (w : World) (us : List (Ev × Value)) : Prop := ∀ x ∈ us, HasDots w x.2 x.1.deps
def FitE (e : Ev) : Prop := I64 e.r ∧ I64 e.q ∧ e.deps.length < 2000000 ∧ e.path.length < 1152921504606846976
def FitU (us : List (Ev × Value)) : Prop := ∀ x ∈ us, FitE x.1
theorem evs_of_u {w : World} {v : Value} {us : List (Ev × Value)} (h : HoldsU w v us) (hd : DepsU w us) : HasEvs w v (us.map (·.1)) := ⟨us, rfl, hd, h⟩
theorem u_of_evs {w : World} {v : Value} {l : List Ev} (h : HasEvs w v l) : ∃ us, us.map (·.1) = l ∧ DepsU w us ∧ HoldsU w v us := h
theorem holdsU_below {w w' : World} {v : Value} {us : List (Ev × Value)} (h : HoldsU w v us) (hb : Below w.heap.size w w') : HoldsU w' v us := by
  obtain ⟨ao, cap, rfl, hnil, hc⟩ := h
  refine ⟨ao, cap, rfl, hnil, fun ad had => ⟨(hc ad had).1, fun j u hu => ?_⟩⟩
  have h1 := (hc ad had).2 j u hu
  exact (World.cell?_of_block (hb.block (ad.add j).block (World.block_lt_of_cell? w _ h1))).trans h1
theorem depsU_below {w w' : World} {us : List (Ev × Value)} (h : DepsU w us) (hb : Below w.heap.size w w') : DepsU w' us := fun x hx => dots_below (h x hx) hb
theorem holdsU_nil (w : World) : HoldsU w (.slice none 0 0) [] := ⟨none, 0, rfl, fun _ => ⟨rfl, rfl⟩, fun _ h => by cases h⟩
theorem holdsU_own {B : Nat} {e : TypeId} {w : World} {v : Value} {us : List (Ev × Value)} (h : w.ownsRow B e 38 v us.length (evsC us)) : HoldsU w v us := by
  rcases h.2 with ⟨rfl, h0⟩ | ⟨g, cap, cur, rfl, rest⟩
  · obtain rfl : us = [] := List.eq_nil_of_length_eq_zero h0
    exact holdsU_nil w
  · exact ⟨some ⟨g, 0, none⟩, cap, rfl, (fun h => by cases h), fun ad had => ⟨rest.2.2.1, fun j u hu => by
      cases had; exact h.cells rfl j u hu⟩⟩
theorem holdsU_shape {w : World} {v : Value} {us : List (Ev × Value)} (h : HoldsU w v us) (n : Nat) (hn : n = us.length) : ∃ ao cap, v = .slice ao n cap := by
  obtain ⟨ao, cap, rfl, -⟩ := h
  exact ⟨ao, cap, by rw [hn]⟩
theorem holdsU_at {w : World} {v : Value} {us : List (Ev × Value)} (h : HoldsU w v us) (n k : Nat) (hn : us.length = n) (x : Ev × Value) (hx : us[k]? = some x) : ∃ ad cap, v = .slice (some ad) n cap ∧ ∀ j u, (evC x.1 x.2)[j]? = some u → w.cell? ((ad.add (k * 38)).add j) = some u := by
  obtain ⟨ao, cap, rfl, hnil, hc⟩ := h
  cases ao with
  | none => obtain ⟨rfl, _⟩ := hnil rfl; simp at hx
  | some ad => exact ⟨ad, cap, by rw [hn], fun j y hy => by rw [addr_add2]; exact (hc ad rfl).2 _ _ (evsC_at us k x hx j y hy)⟩
theorem depsU_one {w : World} {us : List (Ev × Value)} (hd : DepsU w us) : ∀ x ∈ us, x.2.oneCell' = true := fun x hx => by
  obtain ⟨ao, cap, e⟩ := dots_shape (hd x hx) _ rfl
  rw [e]; rfl
theorem dots_oneH {w : World} {v : Value} {l : List D2} (h : HasDots w v l) : v.oneCell' = true := by
  obtain ⟨ao, cap, e⟩ := dots_shape h _ rfl
  rw [e]; rfl
/-- An event loaded from wherever its cells lie. -/
theorem load_evA_on {P : Program} {ops : Array Oper} {rest : List Oper} {o : Oper} {a : Act} {w : World} {Q : Exit → Act → World → Prop} (hw : Region.wanted o (yielded ops a.tmps) = true) (ty : TypeId) (x : Operand) (ho : o.op = .load ty x) (A : Addr) (hx : a.eval x = .pointer (some A)) {e : Ev} {v : Value} {fs : Array Field}
    (hu : P.underlying ty = some (.struct fs)) (hi : (P.info? ty).map (·.size) = some 38) (hc : ∀ j u, (evC e v)[j]? = some u → w.cell? (A.add j) = some u)
    (h : wpList P ops Q rest (a.put o.dst (.agg (evC e v))) w) : wpList P ops Q (o :: rest) a w := by
  refine wpList_step fun K hK => ?_
  rw [if_pos hw]
  unfold Oper.wp
  rw [ev_run ty x ho A hx hu hi hc]
  exact hK _ _ h
/-- Events appended to a slice of events of the call's own. -/
theorem append_evs {P : Program} {w : World} {ops : Array Oper} {rest : List Oper} {o : Oper} {a : Act} {Q : Exit → Act → World → Prop} (hgd : o.guard = none) (s x : Operand) (t : TypeId)
    (ho : o.op = .call { callee := .builtin .append, args := #[s, x], argTypes := #[t, t] })
    (base : Nat) (e : TypeId) (i : TypeInfo) (ht : P.underlying t = some (.slice e)) (hi : P.info? e = some i) (hz : (i.zero.map (·.cells.size), i.size, i.bytes) = (some 38, 38, 104))
    (v : Value) (us ys : List (Ev × Value)) (hs : a.eval s = v) (hown : w.ownsRow base e 38 v us.length (evsC us)) (hone : ∀ y ∈ ys, y.2.oneCell' = true) (ad : Addr) (m c : Nat) (hx : a.eval x = .slice (some ad) m c) (hm : m = ys.length)
    (hc : ∀ j u, (evsC ys)[j]? = some u → w.cell? (ad.add j) = some u) (hlen : us.length + ys.length ≤ 100000) (hbase : base ≤ w.heap.size)
    (h : ∀ v' w', w'.ownsRow base e 38 v' (us ++ ys).length (evsC (us ++ ys)) → w.grownBy w' v.ownBlock → wpList P ops Q rest (a.put o.dst v') w') : wpList P ops Q (o :: rest) a w := by
  simp only [Prod.mk.injEq] at hz
  obtain ⟨hz1, hz2, hz3⟩ := hz
  subst hm
  cases hzz : i.zero with
  | none => rw [hzz] at hz1; cases hz1
  | some z =>
    rw [hzz] at hz1
    simp only [Option.map_some, Option.some.injEq] at hz1
    refine wpList_append_own w hgd s x t ho base e i z 38 104 ht hi hzz hz2 hz3 hz1 (by decide) v us.length (evsC us) hs hown ad ys.length c (evsC ys) hx (by rw [evsC_length]) hc (evsC_one ys hone)
      (by unfold maxLen; omega) (by omega) hbase fun v' w' h1 h2 _ => h v' w' (by rw [evsC_append, List.length_append]; exact h1) h2
set_option maxRecDepth 100000 in
theorem ev_deps (e : Ev) (v u : Value) : (evC e v).setIfInBounds 2 u = evC e u := by kernel_rfl
theorem ev_depsL (e : Ev) (v u : Value) : (evC e v).toList.set 2 u = (evC e u).toList := by
  have := congrArg Array.toList (ev_deps e v u)
  rwa [Array.toList_setIfInBounds] at this
theorem set_lo {A B A' : List Value} (u : Value) (i : Nat) (hA : i < A.length) (h : A.set i u = A') : (A ++ B).set i u = A' ++ B := by
  rw [List.set_append, if_pos hA, h]
theorem set_hi {A B B' : List Value} (u : Value) (i j : Nat) (hA : i = A.length + j) (h : B.set j u = B') : (A ++ B).set i u = A ++ B' := by
  rw [List.set_append, if_neg (by omega), show i - A.length = j by omega, h]
theorem evsC_set : ∀ (us : List (Ev × Value)) (k : Nat) (e : Ev) (v u : Value), us[k]? = some (e, v) → (evsC us).set (k * 38 + 2) u = evsC (us.set k (e, u))
  | [], k, _, _, _, h => by simp at h
  | y :: t, 0, e, v, u, h => by
    simp at h; subst h
    exact set_lo u _ (by rw [evC_len]; omega) (ev_depsL e v u)
  | y :: t, k + 1, e, v, u, h => set_hi u _ (k * 38 + 2) (by rw [evC_len]; omega) (evsC_set t k e v u (by simpa using h))
/-- What was known stored anew in an event of a slice of the call's own. -/
theorem store_deps {P : Program} {ops : Array Oper} {rest : List Oper} {o : Oper} {a : Act} {w : World} {Q : Exit → Act → World → Prop} (hgd : o.guard = none) (hd : o.dst = none) (ty : TypeId) (x y : Operand) (ho : o.op = .store ty x y)
    (base : Nat) (e : TypeId) (g n cap k : Nat) (us : List (Ev × Value)) (hown : w.ownsRow base e 38 (.slice (some ⟨g, 0, none⟩) n cap) n (evsC us)) (ev : Ev) (v0 : Value) (hk : us[k]? = some (ev, v0)) (off : Nat) (hoff : off = k * 38 + 2) (hx : a.eval x = .pointer (some ⟨g, off, none⟩))
    (ao : Option Addr) (m c : Nat) (hy : a.eval y = .slice ao m c) (hi : (P.info? ty).map (·.size) = some 1)
    (h : ∀ w', w'.ownsRow base e 38 (.slice (some ⟨g, 0, none⟩) n cap) n (evsC (us.set k (ev, .slice ao m c))) → Solo g w w' → wpList P ops Q rest a w') : wpList P ops Q (o :: rest) a w := by
  subst hoff
  refine wpList_plain hgd fun K hK => ?_
  have hkl : k < us.length := (List.getElem?_eq_some_iff.1 hk).1
  have hl := hown.1
  rw [evsC_length] at hl
  have hjn : k * 38 + 2 < n * 38 := by omega
  have hcell : w.cell? ⟨g, k * 38 + 2, none⟩ = some v0 := by
    rw [hown.cellAt _ hjn]
    exact evsC_at us k (ev, v0) hk 2 v0 (evC_at ev v0).2.2.1
  have hfro : w.frozen? ⟨g, k * 38 + 2, none⟩ = false := hown.frozenAt _
  have hadd : (⟨g, k * 38 + 2, none⟩ : Addr).add 0 = ⟨g, k * 38 + 2, none⟩ := by unfold Addr.add; rw [if_pos rfl]
  obtain ⟨h1, h2⟩ := hown.stored (k * 38 + 2) (.slice ao m c)
  have hst : (storeVar ty ⟨g, k * 38 + 2, none⟩ (.slice ao m c)).run P w = .ok () (w.setCell ⟨g, k * 38 + 2, none⟩ (.slice ao m c)) := by
    cases hq : P.info? ty with
    | none => simp [hq] at hi
    | some i =>
      have hs : i.size = 1 := by simpa [hq] using hi
      simp [storeVar, sizeOf, typeInfo, hq, Value.cells, hs, storeCells, hadd, run_store P w _ _ _ (show (Value.slice ao m c).oneCell' = true from rfl), hcell, hfro]
  have hsolo : Solo g w (w.setCell ⟨g, k * 38 + 2, none⟩ (.slice ao m c)) := ⟨h2.os, h2.tape, h2.output, by simp, fun j hj => heap_setCell_other w ⟨g, k * 38 + 2, none⟩ j _ (fun e => hj e)⟩
  rw [evsC_set us k ev v0 _ hk] at h1
  have h' := h _ h1 hsolo
  unfold Oper.wp execOp
  simp only [ho, hx, hy, Instr.storeAt, Instr.sureAddr, Sem.run_bind, Sem.run_pure, Result.andThen_ok, hst]
  simpa [Oper.upon, hd, Act.put] using hK _ _ h'
set_option maxRecDepth 100000 in
theorem ev_slice1M (e : Ev) (ao : Option Addr) (n c : Nat) : Tryz.prog.builtSlice 30 1 [(0, .agg (evC e (.slice ao n c)))] = some (evC e (.slice ao n c)) := by kernel_rfl
/-- A slice of one event, made. -/
theorem build_evM {ops : Array Oper} {rest : List Oper} {o : Oper} {a : Act} {w : World} {Q : Exit → Act → World → Prop} (hg : o.guard = none) (d : Nat) (hd : o.dst = some d) (x : Operand) (ho : o.op = .buildSlice 22 1 #[(0, x)])
    (N : Nat) (hN : w.heap.size = N) (e : Ev) (ao : Option Addr) (n c : Nat) (hx : a.eval x = .agg (evC e (.slice ao n c)))
    (h : ∀ w', EvAt w' N 30 e (.slice ao n c) → Below w.heap.size w w' → w'.heap.size = N + 1 → wpList Tryz.prog ops Q rest (a.put (some d) (.slice (some ⟨N, 0, none⟩) 1 1)) w') : wpList Tryz.prog ops Q (o :: rest) a w := by
  refine Go.Great.wpList_buildSliceTo hg 22 30 1 #[(0, x)] ho N hN (some d) hd Tryz.underlying22 (evC e (.slice ao n c)) ?_ (h _ ?_ ((Below.refl _ _).alloc (Nat.le_refl _) _) ?_)
  · have hp : ((#[(0, x)] : Array (Nat × Operand)).map fun (i, x) => (i, a.eval x)).toList = [(0, .agg (evC e (.slice ao n c)))] := by simp [hx]
    rw [hp]; exact ev_slice1M e ao n c
  · rw [← hN]; exact heap_last _ _
  · rw [size_of_alloc, hN]
theorem own_belowM {w w' : World} {base : Nat} {e : TypeId} {size : Nat} {v : Value} {n : Nat} {xs : List Value} (h : w.ownsRow base e size v n xs) (hb : Below w.heap.size w w') : w'.ownsRow base e size v n xs := by
  refine ⟨h.1, ?_⟩
  rcases h.2 with h0 | ⟨b, cap, cur, rfl, h1, h2, rest⟩
  · exact .inl h0
  · exact .inr ⟨b, cap, cur, rfl, h1, (hb.block b (Array.getElem?_eq_some_iff.1 h2).1).trans h2, rest⟩
theorem own_blockM {w : World} {base : Nat} {e : TypeId} {size : Nat} {v : Value} {n : Nat} {xs : List Value} (h : w.ownsRow base e size v n xs) : ∀ b, v.ownBlock = some b → base ≤ b ∧ b < w.heap.size ∧ ∃ cs, w.heap[b]? = some (.cells cs e (0, 0)) := by
  intro b hb
  rcases h.2 with ⟨rfl, -⟩ | ⟨g, cap, cur, rfl, h1, h2, -⟩
  · cases hb
  · cases hb; exact ⟨h1, (Array.getElem?_eq_some_iff.1 h2).1, cur, h2⟩
theorem evsC_one1 (e : Ev) (v : Value) : evsC [(e, v)] = (evC e v).toList := by rw [evsC, evsC, List.append_nil]
theorem evAt_one {w : World} {N : Nat} {T : TypeId} {e : Ev} {v : Value} (h : EvAt w N T e v) : ∀ j u, (evsC [(e, v)])[j]? = some u → w.cell? ((⟨N, 0, none⟩ : Addr).add j) = some u := fun j u hu => by
  rw [evsC_one1, Array.getElem?_toList] at hu
  rw [Addr.add_lit, Nat.zero_add]
  exact evAt_cell h j u hu
end Go.Proofs.YtcdjkjadbhejpaaGreatDoor
namespace Go.Proofs.YtcdjkjadbhejpaaGreatDoor
open Ieee
def frac : Nat := 2 ^ 52
theorem frac_pos : 0 < frac := Nat.two_pow_pos _
/-- What the rungs of double floats stand for, in units of the least. -/
def rungV (r : Nat) : Nat := if r < frac then r else (frac + r % frac) * 2 ^ (r / frac - 1)
def rungExp (r : Nat) : Nat := if r < frac then 0 else r / frac - 1
def rungMant (r : Nat) : Nat := if r < frac then r else frac + r % frac
theorem rungV_eq (r : Nat) : rungV r = rungMant r * 2 ^ rungExp r := by
  unfold rungV rungMant rungExp
  split <;> simp
def sgn (s : Bool) (n : Nat) : Int := if s then -(n : Int) else n
theorem read_word (s : Bool) (r : Nat) (h : r < double.infRung) : double.read (double.word s r) = .number s (rungMant r) (double.leastPlace + (rungExp r : Nat)) := by
  have hw := double.infRung_lt
  have hq : r < double.signWeight := Nat.lt_trans h hw
  have hpos : 0 < double.signWeight := Nat.lt_of_le_of_lt (Nat.zero_le _) hq
  have e1 : (double.word s r / double.signWeight % 2 == 1) = s := by
    cases s with
    | false => simp [Format.word, Nat.div_eq_of_lt hq]
    | true =>
      have : (double.signWeight + r) / double.signWeight = 1 := by rw [Nat.add_div_left _ hpos, Nat.div_eq_of_lt hq]
      simp [Format.word, this]
  have e2 : double.word s r % double.signWeight = r := by
    cases s with
    | false => simp [Format.word, Nat.mod_eq_of_lt hq]
    | true => simp [Format.word, Nat.mod_eq_of_lt hq]
  unfold Format.read
  simp only [e1, e2]
  have hb : double.binade = frac := rfl
  rw [hb]
  unfold rungMant rungExp
  split
  · simp
  · first | rfl | (rw [if_pos h])
theorem order_words (s t : Bool) (r q : Nat) (hr : r < double.infRung) (hq : q < double.infRung) :
    double.order (double.word s r) (double.word t q) = some (compare (sgn s (rungV r)) (sgn t (rungV q))) := by
  unfold Format.order
  rw [read_word s r hr, read_word t q hq, rungV_eq, rungV_eq]
  generalize rungMant r = m
  generalize rungMant q = n
  generalize rungExp r = i
  generalize rungExp q = j
  generalize double.leastPlace = L
  unfold Datum.order
  simp only
  congr 1
  have key : ∀ (c : Nat) (x y : Int), compare x y = compare (x * (2 ^ c : Nat)) (y * (2 ^ c : Nat)) := by
    intro c x y
    have hp : (0 : Int) < ((2 ^ c : Nat) : Int) := by exact_mod_cast Nat.two_pow_pos c
    generalize ((2 ^ c : Nat) : Int) = C at hp
    simp only [compare, compareOfLessAndEq]
    have a : (x * C < y * C) ↔ x < y := Int.mul_lt_mul_right hp
    have b : (x * C = y * C) ↔ x = y := by
      constructor
      · exact fun h => Int.eq_of_mul_eq_mul_right (by omega) h
      · exact fun h => by rw [h]
    simp only [a, b]
  have sg : ∀ (s : Bool) (m k c : Nat), signed s m k * ((2 ^ c : Nat) : Int) = sgn s (m * 2 ^ (k + c)) := by
    intro s m k c
    unfold signed sgn
    rw [Nat.shiftLeft_eq, Nat.pow_add, ← Nat.mul_assoc]
    cases s <;> simp [Int.neg_mul]
  rw [key (min i j), sg, sg]
  have h1 : (L + (i : Int) - min (L + (i : Int)) (L + (j : Int))).toNat + min i j = i := by omega
  have h2 : (L + (j : Int) - min (L + (i : Int)) (L + (j : Int))).toNat + min i j = j := by omega
  rw [h1, h2]
/-- The rung of the float nearest to a number. -/
def kept (n : Nat) : Nat := Toward.even.cut false (n <<< (52 - n.log2)) (n.log2 - 52)
def rungN (n : Nat) : Nat := if n = 0 then 0 else (1022 + n.log2) * frac + kept n
theorem nearest_num (n : Int) (h : rungN n.natAbs < double.infRung) : FloatKind.f64.nearest n = double.word (decide (n < 0)) (rungN n.natAbs) := by
  unfold FloatKind.nearest FloatKind.encode Format.write FloatKind.format
  simp only
  unfold Format.nearest
  by_cases h0 : n.natAbs = 0
  · rw [if_pos h0, h0]; rfl
  · rw [if_neg h0]
    have hl : double.leastPlace = -1074 := by decide
    have hf : double.fractionBits = 52 := rfl
    have hb : double.binade = frac := rfl
    rw [hl, hf, hb]
    have e1 : max (0 + (n.natAbs.log2 : Int) - (52 : Nat)) (-1074) = (n.natAbs.log2 : Int) - 52 := by omega
    simp only [e1]
    have e2 : (0 - ((n.natAbs.log2 : Int) - 52)).toNat = 52 - n.natAbs.log2 := by omega
    have e3 : ((n.natAbs.log2 : Int) - 52 - 0).toNat = n.natAbs.log2 - 52 := by omega
    have e4 : ((n.natAbs.log2 : Int) - 52 - -1074).toNat = 1022 + n.natAbs.log2 := by omega
    rw [e2, e3, e4]
    have h1 : (1022 + n.natAbs.log2) * frac + Toward.even.cut (decide (n < 0)) (n.natAbs <<< (52 - n.natAbs.log2)) (n.natAbs.log2 - 52) = rungN n.natAbs := by
      rw [rungN, if_neg h0]; rfl
    rw [h1, Nat.min_eq_left (Nat.le_of_lt h)]
theorem cut_even (s : Bool) (n d : Nat) (hd : d ≤ n.log2 + 2) : Toward.even.cut s n d = n / 2 ^ d + (decide (2 ^ d < 2 * (n % 2 ^ d)) || (2 ^ d == 2 * (n % 2 ^ d) && n / 2 ^ d % 2 == 1)).toNat := by
  unfold Toward.cut
  simp only [Nat.shiftLeft_eq, Nat.one_mul, Nat.min_eq_left hd]
/-- A number of 53 digits at most is kept whole. -/
theorem kept_small (n : Nat) (h : n.log2 ≤ 52) : kept n = n * 2 ^ (52 - n.log2) := by
  unfold kept
  rw [show n.log2 - 52 = 0 by omega, cut_even _ _ _ (Nat.zero_le _), Nat.shiftLeft_eq]
  simp [Nat.mod_one]
theorem kept_big (n : Nat) (h : 52 ≤ n.log2) : kept n = n / 2 ^ (n.log2 - 52) + (decide (2 ^ (n.log2 - 52) < 2 * (n % 2 ^ (n.log2 - 52))) || (2 ^ (n.log2 - 52) == 2 * (n % 2 ^ (n.log2 - 52)) && n / 2 ^ (n.log2 - 52) % 2 == 1)).toNat := by
  unfold kept
  rw [show 52 - n.log2 = 0 by omega, Nat.shiftLeft_zero, cut_even _ _ _ (by omega)]
theorem kept_bounds (n : Nat) (h0 : n ≠ 0) : frac ≤ kept n ∧ kept n ≤ 2 * frac := by
  have l1 := Nat.log2_self_le h0
  have l2 : n < 2 ^ (n.log2 + 1) := Nat.lt_log2_self
  rcases Nat.le_total n.log2 52 with h | h
  · rw [kept_small n h]
    have e : frac = 2 ^ n.log2 * 2 ^ (52 - n.log2) := by rw [← Nat.pow_add, frac]; congr 1; omega
    have e2 : 2 * frac = 2 ^ (n.log2 + 1) * 2 ^ (52 - n.log2) := by rw [e, Nat.pow_succ, Nat.mul_comm (2 ^ n.log2) 2, Nat.mul_assoc]
    rw [e2, e]
    exact ⟨Nat.mul_le_mul_right _ l1, Nat.mul_le_mul_right _ (Nat.le_of_lt l2)⟩
  · rw [kept_big n h]
    have hp : 0 < 2 ^ (n.log2 - 52) := Nat.two_pow_pos _
    have e : frac * 2 ^ (n.log2 - 52) = 2 ^ n.log2 := by rw [frac, ← Nat.pow_add]; congr 1; omega
    have e2 : (2 * frac) * 2 ^ (n.log2 - 52) = 2 ^ (n.log2 + 1) := by rw [Nat.mul_assoc, e, Nat.pow_succ, Nat.mul_comm]
    have a : frac ≤ n / 2 ^ (n.log2 - 52) := (Nat.le_div_iff_mul_le hp).2 (by rw [e]; exact l1)
    have b : n / 2 ^ (n.log2 - 52) < 2 * frac := (Nat.div_lt_iff_lt_mul hp).2 (by rw [e2]; exact l2)
    have c : ∀ x : Bool, x.toNat ≤ 1 := by decide
    have := c (decide (2 ^ (n.log2 - 52) < 2 * (n % 2 ^ (n.log2 - 52))) || (2 ^ (n.log2 - 52) == 2 * (n % 2 ^ (n.log2 - 52)) && n / 2 ^ (n.log2 - 52) % 2 == 1))
    omega
/-- Rounding rises. -/
theorem round_mono (p n m : Nat) (h : n ≤ m) :
    n / p + (decide (p < 2 * (n % p)) || (p == 2 * (n % p) && n / p % 2 == 1)).toNat ≤ m / p + (decide (p < 2 * (m % p)) || (p == 2 * (m % p) && m / p % 2 == 1)).toNat := by
  have c : ∀ x : Bool, x.toNat ≤ 1 := by decide
  have e : n / p ≤ m / p := Nat.div_le_div_right h
  rcases Nat.lt_or_eq_of_le e with e | e
  · have := c (decide (p < 2 * (n % p)) || (p == 2 * (n % p) && n / p % 2 == 1))
    omega
  · have a := Nat.div_add_mod n p
    have b := Nat.div_add_mod m p
    rw [e] at a ⊢
    have hm : n % p ≤ m % p := by omega
    refine Nat.add_le_add_left ?_ _
    generalize n % p = x at *
    generalize m % p = y at *
    generalize m / p % 2 = z at *
    by_cases h1 : p < 2 * y
    · simp [h1]; exact c _
    · have h2 : ¬ p < 2 * x := by omega
      simp only [h1, h2, decide_false, Bool.false_or]
      by_cases h3 : p = 2 * x
      · have : p = 2 * y := by omega
        rw [show (p == 2 * x) = true from by simpa using h3, show (p == 2 * y) = true from by simpa using this]
        exact Nat.le_refl _
      · rw [show (p == 2 * x) = false from by simpa using h3]; simp
theorem rungN_mono {n m : Nat} (h : n ≤ m) : rungN n ≤ rungN m := by
  unfold rungN
  by_cases h0 : n = 0
  · rw [if_pos h0]; exact Nat.zero_le _
  · rw [if_neg h0, if_neg (by omega)]
    have hm : m ≠ 0 := by omega
    have b1 := kept_bounds n h0
    have b2 := kept_bounds m hm
    have hl : n.log2 ≤ m.log2 := by
      rcases Nat.lt_or_ge m.log2 n.log2 with hc | hc
      · exfalso
        have l1 := Nat.log2_self_le h0
        have l2 : m < 2 ^ (m.log2 + 1) := Nat.lt_log2_self
        have : 2 ^ (m.log2 + 1) ≤ 2 ^ n.log2 := Nat.pow_le_pow_right (by decide) hc
        omega
      · exact hc
    rcases Nat.lt_or_eq_of_le hl with hl | hl
    · have : (1022 + n.log2) * frac + frac ≤ (1022 + m.log2) * frac := by
        rw [← Nat.succ_mul]; exact Nat.mul_le_mul_right _ (by omega)
      omega
    · rw [hl]
      refine Nat.add_le_add_left ?_ _
      rcases Nat.le_total m.log2 52 with h1 | h1
      · rw [kept_small n (by omega), kept_small m h1, hl]; exact Nat.mul_le_mul_right _ h
      · rw [kept_big n (by omega), kept_big m h1, hl]; exact round_mono _ _ _ h
/-- A number of 64 bits has a finite rung. -/
theorem rungN_lt (n : Nat) (h : n ≤ 9223372036854775808) : rungN n < double.infRung := by
  have h1 := rungN_mono h
  have h2 : rungN 9223372036854775808 < double.infRung := by decide +kernel
  omega
/-- What a float of a number stands for, in units of the least. -/
def floatV (a : Int) : Int := sgn (decide (a < 0)) (rungV (rungN a.natAbs))
theorem order_nums (a b : Int) (ha : a.natAbs ≤ 9223372036854775808) (hb : b.natAbs ≤ 9223372036854775808) :
    FloatKind.f64.format.order (FloatKind.f64.nearest a) (FloatKind.f64.nearest b) = some (compare (floatV a) (floatV b)) := by
  have h1 := rungN_lt _ ha
  have h2 := rungN_lt _ hb
  rw [nearest_num a h1, nearest_num b h2]
  exact order_words _ _ _ _ h1 h2
theorem rungV_small (k : Nat) (hk : k = 1074) (n : Nat) (h : n < 9007199254740992) : rungV (rungN n) = n * 2 ^ k := by
  by_cases h0 : n = 0
  · subst h0; simp [rungN, rungV, frac_pos]
  · have l1 := Nat.log2_self_le h0
    have hl : n.log2 ≤ 52 := by
      rcases Nat.lt_or_ge 52 n.log2 with hc | hc
      · exfalso
        have : 2 ^ 53 ≤ 2 ^ n.log2 := Nat.pow_le_pow_right (by decide) hc
        omega
      · exact hc
    have hb : n < 2 ^ (n.log2 + 1) := Nat.lt_log2_self
    have k1 := kept_small n hl
    have kb := kept_bounds n h0
    have k2 : kept n < 2 * frac := by
      have e : frac = 2 ^ n.log2 * 2 ^ (52 - n.log2) := by rw [← Nat.pow_add, frac]; congr 1; omega
      have e2 : 2 * frac = 2 ^ (n.log2 + 1) * 2 ^ (52 - n.log2) := by rw [e, Nat.pow_succ, Nat.mul_comm (2 ^ n.log2) 2, Nat.mul_assoc]
      rw [k1, e2]
      exact Nat.mul_lt_mul_of_pos_right hb (Nat.two_pow_pos _)
    have hp := frac_pos
    obtain ⟨f, hf⟩ : ∃ f, kept n = frac + f := ⟨kept n - frac, by omega⟩
    have hf2 : f < frac := by omega
    have hr : rungN n = f + frac * (1022 + n.log2 + 1) := by
      rw [rungN, if_neg h0, hf, Nat.mul_comm frac, Nat.succ_mul]; omega
    have d1 : rungN n / frac = 1022 + n.log2 + 1 := by rw [hr, Nat.add_mul_div_left _ _ hp, Nat.div_eq_of_lt hf2, Nat.zero_add]
    have d2 : rungN n % frac = f := by rw [hr, Nat.add_mul_mod_self_left, Nat.mod_eq_of_lt hf2]
    have d3 : ¬ rungN n < frac := by
      intro hc
      have := Nat.div_eq_of_lt hc
      omega
    rw [rungV, if_neg d3, d1, d2, ← hf, k1, Nat.mul_assoc, ← Nat.pow_add]
    congr 2
    omega
theorem floatV_small (k : Nat) (hk : k = 1074) (a : Int) (h : a.natAbs < 9007199254740992) : floatV a = a * ((2 ^ k : Nat) : Int) := by
  unfold floatV sgn
  rw [rungV_small k hk _ h]
  generalize (2 : Nat) ^ k = B
  by_cases h1 : a < 0
  · simp only [h1, decide_true, if_true]
    rw [Int.natCast_mul, ← Int.neg_mul]
    congr 1
    omega
  · simp only [h1, decide_false, Bool.false_eq_true, if_false]
    rw [Int.natCast_mul]
    congr 1
    omega
theorem floatV_lt {a b : Int} (ha : a.natAbs < 9007199254740992) (hb : b.natAbs < 9007199254740992) : floatV a < floatV b ↔ a < b := by
  obtain ⟨k, hk⟩ : ∃ k, k = 1074 := ⟨_, rfl⟩
  rw [floatV_small k hk a ha, floatV_small k hk b hb]
  have hp : (0 : Int) < ((2 ^ k : Nat) : Int) := Int.natCast_pos.2 (Nat.two_pow_pos _)
  exact Int.mul_lt_mul_right hp
end Go.Proofs.YtcdjkjadbhejpaaGreatDoor
namespace Go.Proofs.YtcdjkjadbhejpaaGreatDoor
open Go.RowKit
/-- A whole number below 2^53. -/
def Sm (a : Int) : Prop := a.natAbs < 9007199254740992
def cmpI (a b : Int) : Int := if a < b then -1 else if b < a then 1 else 0
theorem compare_lt {x y : Int} (h : x < y) : compare x y = .lt := by simp [compare, compareOfLessAndEq, h]
theorem compare_eq (x : Int) : compare x x = .eq := by simp [compare, compareOfLessAndEq]
theorem compare_gt {x y : Int} (h : y < x) : compare x y = .gt := by
  have h1 : ¬ x < y := by omega
  have h2 : ¬ x = y := by omega
  simp [compare, compareOfLessAndEq, h1, h2]
theorem fl_order (a b : Int) (ha : Sm a) (hb : Sm b) : FloatKind.f64.format.order (floatOfInt .f64 a) (floatOfInt .f64 b) = some (compare a b) := by
  unfold Sm at ha hb
  have h := order_nums a b (by omega) (by omega)
  rw [show floatOfInt .f64 a = FloatKind.f64.nearest a from rfl, show floatOfInt .f64 b = FloatKind.f64.nearest b from rfl, h]
  rcases Int.lt_trichotomy a b with c | c | c
  · rw [compare_lt c, compare_lt ((floatV_lt ha hb).2 c)]
  · subst c; rw [compare_eq, compare_eq]
  · rw [compare_gt c, compare_gt ((floatV_lt hb ha).2 c)]
theorem isNaN_num (a : Int) (ha : Sm a) (w : World) : Calls Tryz.prog 154 #[.float .f64 (floatOfInt .f64 a)] w fun e w' => e = .returned (.bool false) ∧ w = w' := by
  have h1 := fl_order a a ha ha
  rw [compare_eq] at h1
  clear ha
  generalize floatOfInt .f64 a = x at *
  go_enter Tryz.func154, Tryz.ntmps154
  go_wp2
  go_ret
  exact ⟨rfl, rfl⟩
theorem cmpFloat_num (a b : Int) (ha : Sm a) (hb : Sm b) (w : World) : Calls Tryz.prog 122 #[.float .f64 (floatOfInt .f64 a), .float .f64 (floatOfInt .f64 b)] w fun e w' => e = .returned (.int .i64 (cmpI a b)) ∧ w = w' := by
  have N1 := Lib.hid (isNaN_num a ha)
  have N2 := Lib.hid (isNaN_num b hb)
  have h1 := fl_order a b ha hb
  clear ha hb
  generalize floatOfInt .f64 a = x at *
  generalize floatOfInt .f64 b = y at *
  rcases Int.lt_trichotomy a b with c | c | c
  · rw [compare_lt c] at h1
    have HR := Lib.hid (show cmpI a b = -1 by rw [cmpI, if_pos c])
    clear c
    go_enter Tryz.func122, Tryz.ntmps122
    go_upto_region 2 with (first | (go_at_call 154; refine (N1.out _).mono ?_; rintro e w1 ⟨rfl, rfl⟩))
    go_wp2_with (first | (go_at_call 154; refine (N2.out _).mono ?_; rintro e w1 ⟨rfl, rfl⟩))
    go_ret
    exact ⟨by rw [HR.out]; try rfl, rfl⟩
  · subst c
    rw [compare_eq] at h1
    have HR := Lib.hid (show cmpI a a = 0 by rw [cmpI, if_neg (by omega), if_neg (by omega)])
    go_enter Tryz.func122, Tryz.ntmps122
    go_upto_region 2 with (first | (go_at_call 154; refine (N1.out _).mono ?_; rintro e w1 ⟨rfl, rfl⟩))
    go_wp2_with (first | (go_at_call 154; refine (N2.out _).mono ?_; rintro e w1 ⟨rfl, rfl⟩))
    go_ret
    exact ⟨by rw [HR.out]; try rfl, rfl⟩
  · rw [compare_gt c] at h1
    have HR := Lib.hid (show cmpI a b = 1 by rw [cmpI, if_neg (by omega), if_pos c])
    clear c
    go_enter Tryz.func122, Tryz.ntmps122
    go_upto_region 2 with (first | (go_at_call 154; refine (N1.out _).mono ?_; rintro e w1 ⟨rfl, rfl⟩))
    go_wp2_with (first | (go_at_call 154; refine (N2.out _).mono ?_; rintro e w1 ⟨rfl, rfl⟩))
    go_ret
    exact ⟨by rw [HR.out]; try rfl, rfl⟩
/-- The first number that isn't 0. -/
def orI (x0 x1 x2 x3 : Int) : Int := if x0 ≠ 0 then x0 else if x1 ≠ 0 then x1 else if x2 ≠ 0 then x2 else x3
def four (x0 x1 x2 x3 : Int) : Array Value := #[.int .i64 x0, .int .i64 x1, .int .i64 x2, .int .i64 x3]
/-- The k-th of four. -/
def nth4 (x0 x1 x2 x3 : Int) (k : Nat) : Int := if k = 0 then x0 else if k = 1 then x1 else if k = 2 then x2 else x3
theorem nth4_cell (x0 x1 x2 x3 : Int) {w : World} {g k : Nat} {T : TypeId} (h : w.heap[g]? = some (.cells (four x0 x1 x2 x3) T (0, 0))) (hk : k < 4) : w.cell? ⟨g, k, none⟩ = some (.int .i64 (nth4 x0 x1 x2 x3 k)) := by
  rw [cell_of_row _ _ k _ _ _ h]
  match k, hk with
  | 0, _ => rfl
  | 1, _ => rfl
  | 2, _ => rfl
  | 3, _ => rfl
set_option maxRecDepth 100000 in
set_option maxHeartbeats 4000000 in
theorem or_any (x0 x1 x2 x3 : Int) (g : Nat) (T : TypeId) (w : World) (h : w.heap[g]? = some (.cells (four x0 x1 x2 x3) T (0, 0))) : Calls Tryz.prog 110 #[.slice (some ⟨g, 0, none⟩) 4 4] w fun e w' => e = .returned (.int .i64 (orI x0 x1 x2 x3)) ∧ w = w' := by
  have HC := Lib.hid (fun k hk => nth4_cell x0 x1 x2 x3 (k := k) h hk)
  clear h
  go_enter Tryz.func110, Tryz.ntmps110
  go_wp2
  go_loopw [8] (fun i wr => w = wr ∧ ∃ k : Nat, k ≤ 4 ∧ i = .int .i64 k ∧ ∀ j, j < k → nth4 x0 x1 x2 x3 j = 0) (fun i _ => 4 - (intOf i).toNat)
  case atStart => exact ⟨rfl, 0, by omega, rfl, fun j hj => by omega⟩
  case round =>
    obtain ⟨rfl, k, hk, rfl, hall⟩ := hrel
    have HA := Lib.hid hall
    clear hall
    by_cases hlt : k < 4
    · have q1 : (k : Int) < 4 := by omega
      have hc := HC.out k hlt
      obtain ⟨x, hx⟩ : ∃ x, nth4 x0 x1 x2 x3 k = x := ⟨_, rfl⟩
      rw [hx] at hc
      have HX := Lib.hid hx
      clear hx
      by_cases h0 : x = 0
      · subst h0
        have hk1 : wrap64 ((k : Int) + 1) = ((k + 1 : Nat) : Int) := by rw [wrap64]; omega
        go_wp2
        go_roundw
        case rel => exact ⟨trivial, k + 1, by omega, by go_num, fun j h2 => by
          rcases Nat.lt_or_ge j k with h | h
          · exact HA.out j h
          · obtain rfl : j = k := by omega
            exact HX.out⟩
        case measure => simp [intOf]; omega
      · have t0 : (x != 0) = true := bne_iff_ne.2 h0
        have HR := Lib.hid (show orI x0 x1 x2 x3 = x by
          have a := HA.out
          have b := HX.out
          unfold nth4 at a b
          unfold orI
          match k, hlt with
          | 0, _ => simp at b; subst b; simp [h0]
          | 1, _ => have a0 := a 0 (by omega); simp at a0 b; subst b; simp [h0, a0]
          | 2, _ => have a0 := a 0 (by omega); have a1 := a 1 (by omega); simp at a0 a1 b; subst b; simp [h0, a0, a1]
          | 3, _ => have a0 := a 0 (by omega); have a1 := a 1 (by omega); have a2 := a 2 (by omega); simp at a0 a1 a2 b; subst b; simp [a0, a1, a2])
        clear h0
        go_wp2
        go_ret
        exact ⟨by rw [HR.out]; try rfl, rfl⟩
    · obtain rfl : k = 4 := by omega
      have HR := Lib.hid (show orI x0 x1 x2 x3 = 0 by
        have a := HA.out
        have a0 := a 0 (by omega)
        have a1 := a 1 (by omega)
        have a2 := a 2 (by omega)
        have a3 := a 3 (by omega)
        unfold nth4 at a0 a1 a2 a3
        simp at a0 a1 a2 a3
        unfold orI
        simp [a0, a1, a2, a3])
      clear hlt
      go_wp2
      go_ret
      exact ⟨by rw [HR.out]; try rfl, rfl⟩
def hiI (a : Int) : Int := a / 4294967296
def loI (a : Int) : Int := a % 4294967296
theorem hiI_sm {a : Int} (h : I64 a) : Sm (hiI a) := by unfold I64 at h; unfold Sm hiI; omega
theorem loI_sm (a : Int) : Sm (loI a) := by unfold Sm loI; omega
set_option maxRecDepth 100000 in
set_option maxHeartbeats 4000000 in
theorem halves_any (r q : Int) (w : World) : Calls Tryz.prog 121 #[.agg #[.int .i64 r, .int .i64 q]] w fun e w' => e = .returned (.tuple #[.complex .f64 (floatOfInt .f64 (hiI r)) (floatOfInt .f64 (hiI q)), .complex .f64 (floatOfInt .f64 (loI r)) (floatOfInt .f64 (loI q))]) ∧ Below w.heap.size w w' := by
  have h1 := one_box w r q
  obtain ⟨c1, c2⟩ := dot_cells h1
  have B0 := Lib.hid ((Below.refl w.heap.size w).alloc (Nat.le_refl _) (dotO r q))
  clear h1
  unfold dotO at *
  go_enter Tryz.func121, Tryz.ntmps121
  go_upto_region 1 with fail
  generalize w.alloc (.cells #[.int .i64 r, .int .i64 q] 24 (0, 0)) = W0 at *
  go_quiet (fail)
  have B1 := Lib.hid (below_draws B0.out nq)
  generalize W0.drewN nq = W1 at *
  clear c1 c2 B0
  go_wp2
  go_ret2
  exact ⟨rfl, B1.out⟩
/-- Halves held against halves are numbers held against each other. -/
theorem hold_or (r q r' q' : Int) : orI (cmpI (hiI r) (hiI r')) (cmpI (loI r) (loI r')) (cmpI (hiI q) (hiI q')) (cmpI (loI q) (loI q')) = cmpD r q r' q' := by
  have key : ∀ a b : Int, (hiI a < hiI b ∧ a < b) ∨ (hiI b < hiI a ∧ b < a) ∨ (hiI a = hiI b ∧ ((loI a < loI b ∧ a < b) ∨ (loI b < loI a ∧ b < a) ∨ (loI a = loI b ∧ a = b))) := by
    intro a b; unfold hiI loI; omega
  have k1 := key r r'
  have k2 := key q q'
  unfold orI cmpI cmpD
  generalize hiI r = a1 at *
  generalize hiI r' = a2 at *
  generalize hiI q = a3 at *
  generalize hiI q' = a4 at *
  generalize loI r = b1 at *
  generalize loI r' = b2 at *
  generalize loI q = b3 at *
  generalize loI q' = b4 at *
  rcases k1 with ⟨h1, h2⟩ | ⟨h1, h2⟩ | ⟨h1, ⟨h3, h2⟩ | ⟨h3, h2⟩ | ⟨h3, h2⟩⟩
  · rw [if_pos h1, if_pos (by decide), if_neg (by omega), if_pos (by omega)]
  · rw [if_neg (show ¬ a1 < a2 by omega), if_pos h1, if_pos (by decide), if_neg (by omega), if_neg (by omega)]
  · subst h1
    rw [if_neg (show ¬ a1 < a1 by omega), if_neg (show ¬ a1 < a1 by omega), if_pos h3, if_neg (by decide), if_pos (by decide), if_neg (by omega), if_pos (by omega)]
  · subst h1
    rw [if_neg (show ¬ a1 < a1 by omega), if_neg (show ¬ a1 < a1 by omega), if_neg (show ¬ b1 < b2 by omega), if_pos h3, if_neg (by decide), if_pos (by decide), if_neg (by omega), if_neg (by omega)]
  · subst h1; subst h3; subst h2
    rw [if_neg (show ¬ a1 < a1 by omega), if_neg (show ¬ a1 < a1 by omega), if_neg (show ¬ b1 < b1 by omega), if_neg (show ¬ b1 < b1 by omega), if_neg (by decide), if_neg (by decide)]
    rcases k2 with ⟨h1, h2⟩ | ⟨h1, h2⟩ | ⟨h1, ⟨h3, h2⟩ | ⟨h3, h2⟩ | ⟨h3, h2⟩⟩
    · rw [if_pos h1, if_pos (by decide), if_neg (by omega), if_pos (by omega)]
    · rw [if_neg (show ¬ a3 < a4 by omega), if_pos h1, if_pos (by decide), if_neg (by omega), if_neg (by omega)]
    · subst h1
      rw [if_neg (show ¬ a3 < a3 by omega), if_neg (show ¬ a3 < a3 by omega), if_pos h3, if_neg (by decide), if_neg (by omega), if_pos (by omega)]
    · subst h1
      rw [if_neg (show ¬ a3 < a3 by omega), if_neg (show ¬ a3 < a3 by omega), if_neg (show ¬ b3 < b4 by omega), if_pos h3, if_neg (by decide), if_neg (by omega), if_neg (by omega)]
    · subst h1; subst h3; subst h2
      rw [if_neg (show ¬ a3 < a3 by omega), if_neg (show ¬ a3 < a3 by omega), if_neg (show ¬ b3 < b3 by omega), if_neg (show ¬ b3 < b3 by omega), if_neg (by decide), if_pos ⟨rfl, rfl⟩]
set_option maxRecDepth 100000 in
set_option maxHeartbeats 8000000 in
theorem compare_any (r q r' q' : Int) (hr : I64 r) (hq : I64 q) (hr' : I64 r') (hq' : I64 q') (w : World) : Calls Tryz.prog 96 #[.agg #[.int .i64 r, .int .i64 q], .agg #[.int .i64 r', .int .i64 q']] w fun e w' => e = .returned (.int .i64 (cmpD r q r' q')) ∧ Below w.heap.size w w' := by
  obtain ⟨h1, h2⟩ := two_boxes w r q r' q'
  have H1 := Lib.hid h1
  have H2 := Lib.hid h2
  have B0 := Lib.hid (((Below.refl w.heap.size w).alloc (Nat.le_refl _) (dotO r q)).alloc (by simp) (dotO r' q'))
  have HO := Lib.hid (hold_or r q r' q')
  have HV1 := Lib.hid (halves_any r q)
  have HV2 := Lib.hid (halves_any r' q')
  have F1 := Lib.hid (cmpFloat_num (hiI r) (hiI r') (hiI_sm hr) (hiI_sm hr'))
  have F2 := Lib.hid (cmpFloat_num (loI r) (loI r') (loI_sm r) (loI_sm r'))
  have F3 := Lib.hid (cmpFloat_num (hiI q) (hiI q') (hiI_sm hq) (hiI_sm hq'))
  have F4 := Lib.hid (cmpFloat_num (loI q) (loI q') (loI_sm q) (loI_sm q'))
  clear h1 h2 hr hq hr' hq'
  generalize cmpI (hiI r) (hiI r') = x0 at *
  generalize cmpI (loI r) (loI r') = x1 at *
  generalize cmpI (hiI q) (hiI q') = x2 at *
  generalize cmpI (loI q) (loI q') = x3 at *
  generalize floatOfInt .f64 (hiI r) = a1 at *
  generalize floatOfInt .f64 (hiI r') = a2 at *
  generalize floatOfInt .f64 (loI r) = a3 at *
  generalize floatOfInt .f64 (loI r') = a4 at *
  generalize floatOfInt .f64 (hiI q) = a5 at *
  generalize floatOfInt .f64 (hiI q') = a6 at *
  generalize floatOfInt .f64 (loI q) = a7 at *
  generalize floatOfInt .f64 (loI q') = a8 at *
  unfold dotO at *
  go_enter Tryz.func96, Tryz.ntmps96
  go_upto_region 1 with fail
  generalize (w.alloc (.cells #[.int .i64 r, .int .i64 q] 24 (0, 0))).alloc (.cells #[.int .i64 r', .int .i64 q'] 24 (0, 0)) = W0 at *
  go_upto_region 2 with (first
    | (refine load_row_on (by rfl) 24 (.tmp 2) rfl w.heap.size rfl 24 _ (0, 0) _ H1.out Tryz.underlying24 rfl (by kernel_rfl) ?_)
    | (go_at_call 121; refine (HV1.out _).mono ?_; rintro e W1 ⟨rfl, hb⟩; have G2 := Lib.hid (row_kept H2.out hb); have B1 := Lib.hid (below_next B0.out hb); clear hb))
  go_upto_region 3 with (first
    | (refine load_row_on (by rfl) 24 (.tmp 3) rfl (w.heap.size + 1) rfl 24 _ (0, 0) _ G2.out Tryz.underlying24 rfl (by kernel_rfl) ?_)
    | (go_at_call 121; refine (HV2.out _).mono ?_; rintro e W2 ⟨rfl, hb⟩; have B2 := Lib.hid (below_next B1.out hb); clear hb))
  have HA := Lib.hid (fun T => heap_last W2 (.cells (four x0 x1 x2 x3) T (0, 0)))
  have BA := Lib.hid (fun T => B2.out.alloc B2.out.size (.cells (four x0 x1 x2 x3) T (0, 0)))
  go_wp2_with (first
    | (go_at_call 122; with_reducible refine (F1.out _).mono ?_; rintro e w1 ⟨rfl, rfl⟩)
    | (go_at_call 122; with_reducible refine (F2.out _).mono ?_; rintro e w1 ⟨rfl, rfl⟩)
    | (go_at_call 122; with_reducible refine (F3.out _).mono ?_; rintro e w1 ⟨rfl, rfl⟩)
    | (go_at_call 122; with_reducible refine (F4.out _).mono ?_; rintro e w1 ⟨rfl, rfl⟩)
    | (go_at_call 110; refine (or_any x0 x1 x2 x3 W2.heap.size _ _ (HA.out _)).mono ?_; rintro e w1 ⟨rfl, rfl⟩))
  go_ret
  exact ⟨by rw [HO.out]; try rfl, BA.out _⟩
end Go.Proofs.YtcdjkjadbhejpaaGreatDoor
namespace Go.Proofs.YtcdjkjadbhejpaaGreatDoor
open Go.RowKit
/-- May a replica have so many events so far, perhaps none? -/
def mayC (r q : Int) : Bool := decide (0 ≤ r ∧ r < 32 ∧ 0 ≤ q ∧ q ≤ 1099511627776)
set_option maxRecDepth 100000 in
set_option maxHeartbeats 4000000 in
theorem mayCount_any (r q : Int) (w : World) : Calls Tryz.prog 105 #[.agg #[.int .i64 r, .int .i64 q]] w fun e w' => e = .returned (.bool (mayC r q)) ∧ Below w.heap.size w w' := by
  have h1 := one_box w r q
  obtain ⟨c1, c2⟩ := dot_cells h1
  have B0 := Lib.hid ((Below.refl w.heap.size w).alloc (Nat.le_refl _) (dotO r q))
  clear h1
  unfold dotO at *
  go_enter Tryz.func105, Tryz.ntmps105
  go_wp2
  all_goals
    go_ret
    refine ⟨congrArg Ending.returned (show Value.bool _ = Value.bool _ from congrArg Value.bool ?_), B0.out⟩
    unfold mayC
    rw [Bool.eq_iff_iff]
    simp
    try omega
theorem mayC_q (r q : Int) : mayD r q = (mayC r q && decide (q > 0)) := by
  unfold mayD mayC
  rw [Bool.eq_iff_iff]
  simp
  omega
set_option maxRecDepth 100000 in
set_option maxHeartbeats 4000000 in
theorem may_any9 (r q : Int) (w : World) : Calls Tryz.prog 68 #[.agg #[.int .i64 r, .int .i64 q]] w fun e w' => e = .returned (.bool (mayD r q)) ∧ Below w.heap.size w w' := by
  have H1 := Lib.hid (one_box w r q)
  have B0 := Lib.hid ((Below.refl w.heap.size w).alloc (Nat.le_refl _) (dotO r q))
  have M1 := Lib.hid (mayCount_any r q)
  have HQ := Lib.hid (mayC_q r q)
  unfold dotO at *
  generalize mayC r q = m at *
  go_enter Tryz.func68, Tryz.ntmps68
  go_upto_region 1 with fail
  generalize w.alloc (.cells #[.int .i64 r, .int .i64 q] 24 (0, 0)) = W0 at *
  cases m with
  | true =>
    go_wp2_with (first
      | (refine load_row_on (by rfl) 24 (.tmp 1) rfl w.heap.size rfl 24 _ (0, 0) _ H1.out Tryz.underlying24 rfl (by kernel_rfl) ?_)
      | (go_at_call 105; refine (M1.out _).mono ?_; rintro e W1 ⟨rfl, hb⟩; have d1 := (dot_cells (row_kept H1.out hb)).2; have B1 := Lib.hid (below_next B0.out hb); clear hb))
    go_ret
    exact ⟨by rw [HQ.out]; try rfl, B1.out⟩
  | false =>
    go_wp2_with (first
      | (refine load_row_on (by rfl) 24 (.tmp 1) rfl w.heap.size rfl 24 _ (0, 0) _ H1.out Tryz.underlying24 rfl (by kernel_rfl) ?_)
      | (go_at_call 105; refine (M1.out _).mono ?_; rintro e W1 ⟨rfl, hb⟩; have B1 := Lib.hid (below_next B0.out hb); clear hb))
    go_ret
    exact ⟨by rw [HQ.out]; try rfl, B1.out⟩
end Go.Proofs.YtcdjkjadbhejpaaGreatDoor
namespace Go.Proofs.YtcdjkjadbhejpaaGreatDoor
open Go.RowKit
theorem zero49 : (Tryz.prog.info? 162).map (fun i => i.zero) = some (some (.agg (nums 32 fun _ => 0))) := by kernel_rfl
theorem seen_max (i : Nat) (m : Int) (d : D2) (hm : mayT d = true) (hd : d.1 = (i : Int)) : seen i m d = max m d.2 := by
  unfold seen
  by_cases h : m < d.2
  · rw [if_pos ⟨hm, hd, h⟩]; omega
  · rw [if_neg (fun hh => h hh.2.2)]; omega
set_option maxRecDepth 100000 in
set_option maxHeartbeats 16000000 in
theorem counts_long (l : List D2) (hl : l.length < 10000000000000) (v : Value) (w : World) (hv : HasDots w v l) : Calls Tryz.prog 133 #[v] w fun e w' => e = .returned (.agg (nums 32 (allV l))) ∧ Below w.heap.size w w' := by
  have HV := Lib.hid hv
  obtain ⟨n, hn⟩ : ∃ n, n = l.length := ⟨_, rfl⟩
  obtain ⟨ao, cap, rfl⟩ := dots_shape hv n hn
  have HN := Lib.hid hn
  have hn4 : n < 10000000000000 := by omega
  have Z0 := heap_last w (.cells (nums 32 fun _ => 0) 162 (0, 0))
  have Z1 := heap_last (w.alloc (.cells (nums 32 fun _ => 0) 162 (0, 0))) (.cells (nums 32 fun _ => 0) 162 (0, 0))
  have HZ := Lib.hid (And.intro (show ((w.alloc (.cells (nums 32 fun _ => 0) 162 (0, 0))).alloc (.cells (nums 32 fun _ => 0) 162 (0, 0))).heap[w.heap.size]? = some (.cells (nums 32 fun _ => 0) 162 (0, 0)) by rw [heap_at_alloc, if_neg (by simp)]; exact Z0) (by rwa [World.size_alloc] at Z1))
  have HB := Lib.hid (((Below.refl w.heap.size w).alloc (Nat.le_refl _) (.cells (nums 32 fun _ => 0) 162 (0, 0))).alloc (by simp) (.cells (nums 32 fun _ => 0) 162 (0, 0)))
  clear hn hv hl Z0 Z1
  go_enter Tryz.func133, Tryz.ntmps133
  go_wp2_with (first | (refine alloc_as rfl 162 rfl _ zero49 ?_))
  generalize ((w.alloc (.cells (nums 32 fun _ => 0) 162 (0, 0))).alloc (.cells (nums 32 fun _ => 0) 162 (0, 0))) = W0 at *
  go_loopw [8] (fun c wr => ∃ k : Nat, k ≤ n ∧ c = .int .i64 (k : Int) ∧ wr.heap[w.heap.size]? = some (.cells (nums 32 fun _ => 0) 162 (0, 0)) ∧ wr.heap[w.heap.size + 1]? = some (.cells (nums 32 (allV (l.take k))) 162 (0, 0)) ∧ Below w.heap.size w wr) (fun c _ => n - (intOf c).toNat)
  case atStart => exact ⟨0, Nat.zero_le _, rfl, HZ.out.1, HZ.out.2, HB.out⟩
  case round =>
    clear HZ HB
    obtain ⟨k, hk, rfl, hz, ho, hb⟩ := hrel
    by_cases hlt : k < n
    · have q0 : (k : Int) < (n : Int) := by omega
      have hkl : k < l.length := by rw [← HN.out]; exact hlt
      obtain ⟨d, hd⟩ : ∃ d, l[k]? = some d := ⟨_, List.getElem?_eq_getElem hkl⟩
      have HA := Lib.hid (allV_at hd)
      obtain ⟨r, q⟩ := d
      obtain ⟨ad, cap', e, c0, c1⟩ := dots_at (dots_below HV.out hb) n k HN.out.symm _ hd
      cases e
      have C0 := Lib.hid (And.intro c0 c1)
      have MY := Lib.hid (fun w => may_any9 r q w)
      have KK := Lib.hid (show k + 1 ≤ n ∧ n - (k + 1) < n - k by omega)
      have D0 := Lib.hid (heap_last wr (.cells #[.int .i64 r, .int .i64 q] 24 (0, 0)))
      have B0 := Lib.hid (hb.alloc hb.size (.cells #[.int .i64 r, .int .i64 q] 24 (0, 0)))
      have K0 := (Below.refl wr.heap.size wr).alloc (Nat.le_refl _) (.cells #[.int .i64 r, .int .i64 q] 24 (0, 0))
      have Z0 := Lib.hid (row_kept hz K0)
      have O0 := Lib.hid (row_kept ho K0)
      have LS := Lib.hid (show w.heap.size + 1 < wr.heap.size from by obtain ⟨h, -⟩ := Array.getElem?_eq_some_iff.1 ho; exact h)
      clear c0 c1 hz ho hb hd hkl K0
      generalize hW1 : wr.alloc (.cells #[.int .i64 r, .int .i64 q] 24 (0, 0)) = W1 at *
      cases hm : mayD r q with
      | false =>
        rw [hm] at MY
        have HS := Lib.hid (show nums 32 (allV (l.take (k + 1))) = nums 32 (allV (l.take k)) from nums_congr _ _ _ fun i _ => by
          rw [HA.out i, seen, if_neg (fun h => by have h2 := h.1; rw [mayT, hm] at h2; cases h2)])
        clear hm HA
        go_wp2_with (first
          | (refine load_dot10 (by rfl) 24 (.tmp 10) rfl (ad.add (k * 2)) rfl r q Tryz.underlying24 (by kernel_rfl) C0.out ?_; try rw [hW1])
          | (refine load_row_on (by rfl) 24 (.tmp 5) rfl wr.heap.size rfl 24 _ (0, 0) _ D0.out Tryz.underlying24 rfl (by kernel_rfl) ?_)
          | (go_at_call 68; refine (MY.out _).mono ?_; rintro e w1 ⟨rfl, hb⟩; have Z1 := Lib.hid (row_kept Z0.out hb); have O1 := Lib.hid (row_kept O0.out hb); have B1 := Lib.hid (below_next B0.out hb); clear hb))
        refine ⟨⟨k + 1, KK.out.1, by simp, Z1.out, by rw [HS.out]; exact O1.out, B1.out⟩, ?_⟩
        simp [intOf]; exact KK.out.2
      | true =>
        rw [hm] at MY
        have hb := mayT_bd (d := (r, q)) hm
        simp only at hb
        obtain ⟨i, hi⟩ : ∃ i : Nat, r = (i : Int) := ⟨r.toNat, by omega⟩
        subst hi
        have hi32 : i < 32 := by omega
        have qi : (i : Int) < 32 := by omega
        obtain ⟨m, hme⟩ : ∃ m, m = allV (l.take k) i := ⟨_, rfl⟩
        obtain ⟨M, hM⟩ : ∃ M, M = max m q := ⟨_, rfl⟩
        have HS := Lib.hid (show (nums 32 (allV (l.take k))).setIfInBounds i (.int .i64 M) = nums 32 (allV (l.take (k + 1))) from nums_set _ _ _ _ _ fun j _ => by
          rw [HA.out j]
          by_cases hj : j = i
          · subst hj; rw [if_pos rfl, seen_max _ _ ((j : Int), q) (show mayT ((j : Int), q) = true from hm) rfl, hM, hme]
          · rw [if_neg hj, seen, if_neg (fun h => hj (by have := h.2.1; simp only at this; omega))])
        have NC := Lib.hid (fun (w' : World) (h : w'.heap[w.heap.size + 1]? = some (.cells (nums 32 (allV (l.take k))) 162 (0, 0))) => show w'.cell? ⟨w.heap.size + 1, i, none⟩ = some (.int .i64 m) by rw [hme]; exact nums_cell h i hi32)
        have hI := Lib.hid hi32
        have hMM : (if m < q then q else m) = M := by rw [hM]; split <;> omega
        have hMX : max m q = M := hM.symm
        clear hm HA hb hme hi32 hM
        go_wp2_with (first
          | (refine load_dot10 (by rfl) 24 (.tmp 10) rfl (ad.add (k * 2)) rfl (i : Int) q Tryz.underlying24 (by kernel_rfl) C0.out ?_; try rw [hW1])
          | (refine load_row_on (by rfl) 24 (.tmp 5) rfl wr.heap.size rfl 24 _ (0, 0) _ D0.out Tryz.underlying24 rfl (by kernel_rfl) ?_)
          | (go_at_call 68; refine (MY.out _).mono ?_; rintro e w1 ⟨rfl, hb⟩; have Z1 := Lib.hid (row_kept Z0.out hb); have O1 := Lib.hid (row_kept O0.out hb); have D1 := Lib.hid (row_kept D0.out hb); have B1 := Lib.hid (below_next B0.out hb); clear hb))
        obtain ⟨c0, c1⟩ := dot_cells (show _ = some (dotO (i : Int) q) from D1.out)
        have cm := NC.out _ O1.out
        go_still_tail 10, (by kernel_rfl)
        change wpList _ _ _ _ _ w1.drew
        have hz : w1.drew.heap[w.heap.size]? = _ := Z1.out
        have ho : w1.drew.heap[w.heap.size + 1]? = _ := O1.out
        have hb := below_draws B1.out 1
        change Below _ _ w1.drew at hb
        clear O1 Z1 B1 c0 c1 cm D1
        generalize w1.drew = w7 at *
        go_wp2_with (first
          | (refine store_cell rfl 2 (.tmp 23) (.tmp 22) rfl rfl .i64 (w.heap.size + 1) i _ M 162 ho rfl rfl (by rw [nums_size]; exact hI.out) (by kernel_rfl) ?_; intro w8 hg8 hs8; rw [HS.out] at hg8; have H8 := Lib.hid (And.intro hg8 (And.intro ((hs8.block w.heap.size (by omega)).trans hz) (solo_below hb hs8 (by omega)))); clear hg8 hs8 hz ho hb))
        refine ⟨⟨k + 1, KK.out.1, by simp, H8.out.2.1, H8.out.1, H8.out.2.2⟩, ?_⟩
        simp [intOf]; exact KK.out.2
    · have q0 : ¬ (k : Int) < (n : Int) := by omega
      have HE := Lib.hid (show l.take k = l by rw [show k = l.length by rw [← HN.out]; omega, List.take_length])
      rw [HE.out] at ho
      have HZ := Lib.hid hz
      have HO := Lib.hid ho
      have HB := Lib.hid hb
      clear hz ho hb
      go_wp2_with (first
        | (refine wpList_load_row rfl 162 (.tmp 3) rfl (w.heap.size + 1) rfl 162 _ (0, 0) _ HO.out Tryz.underlying162 rfl (by rw [nums_size]; kernel_rfl) ?_)
        | (refine wpList_store_row rfl 162 (.tmp 2) (.tmp 25) rfl w.heap.size _ rfl rfl 162 _ HZ.out (by rw [nums_size]; kernel_rfl) (by rw [nums_size, nums_size]) (nums_one _ _) ?_))
      exact bodyPost_ret (results_cell_row Tryz.results133 _ _ w.heap.size 162 _ (0, 0) _ rfl (setRow_heap _ _ _ _ _ _ HZ.out) Tryz.underlying162 rfl (by rw [nums_size]; kernel_rfl)) rfl ⟨rfl, below_setRow HB.out (Nat.le_refl _) _⟩
theorem counts_any (l : List D2) (hl : l.length < 2000000) (v : Value) (w : World) (hv : HasDots w v l) : Calls Tryz.prog 133 #[v] w fun e w' => e = .returned (.agg (nums 32 (allV l))) ∧ Below w.heap.size w w' := counts_long l (by omega) v w hv
end Go.Proofs.YtcdjkjadbhejpaaGreatDoor
namespace Go.Proofs.YtcdjkjadbhejpaaGreatDoor
open Go.RowKit
theorem row_yields {P : Program} {ops : Array Oper} {S : World → Prop} {o : Oper} {a : Act} (hw : Region.wanted o (yielded ops a.tmps) = true) (ty : TypeId) (x : Operand) (ho : o.op = .load ty x) (g : Nat) (hx : a.eval x = .pointer (some ⟨g, 0, none⟩)) (t : TypeId) (cs : Array Value) (fr : Nat × Nat) (d : TypeDesc)
    (hu : P.underlying ty = some d) (hd : (match d with | .struct _ | .array _ _ => true | _ => false) = true) (hi : (P.info? ty).map (·.size) = some cs.size) (hS : ∀ w, S w → w.heap[g]? = some (.cells cs t fr)) : YieldsIf P ops S o (.agg cs) a :=
  .inl ⟨hw, fun w h => by
    unfold execOp
    simp [ho, hx, Instr.loadAt, Instr.sureAddr, run_loadVar_row w g t ty cs fr d (hS w h) hu hd hi]⟩
end Go.Proofs.YtcdjkjadbhejpaaGreatDoor
