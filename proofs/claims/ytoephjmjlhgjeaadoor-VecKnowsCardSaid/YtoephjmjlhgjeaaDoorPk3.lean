/-
Texts that all claims of this seat share, part 3: VecSmall, VecMay, HexaCode, HexaRead, DotText, DotCut.
-/
import Derived.Test.YtoephjmjlhgjeaaDoorShelf
import Derived.WalkMore
import Derived.ScopeJumps
import Derived.Test.YtoephjmjlhgjeaaDoorPk2
namespace Go.Proofs.YtoephjmjlhgjeaaDoor
open Go.RowKit
theorem counts_V (l : List D2) (hl : l.length < 2000000) (v : Value) (w : World) (hv : HasDots w v l) : Calls Tryd.prog 35 #[v] w fun e w' => e = .returned (numsV 32 (allV l)) ∧ Below w.heap.size w w' := counts_any l hl v w hv
/-- A row of numbers loaded, as an opaque value. -/
theorem load_nums {P : Program} {ops : Array Oper} {rest : List Oper} {o : Oper} {a : Act} {w : World} {Q : Exit → Act → World → Prop} (hgd : o.guard = none) (ty : TypeId) (x : Operand) (ho : o.op = .load ty x)
    (g : Nat) (hx : a.eval x = .pointer (some ⟨g, 0, none⟩)) (t : TypeId) (n : Nat) (f : Nat → Int) (hg : w.heap[g]? = some (.cells (nums n f) t (0, 0))) {e : TypeId}
    (hu : P.underlying ty = some (.array n e)) (hi : (P.info? ty).map (·.size) = some n)
    (h : wpList P ops Q rest (a.put o.dst (numsV n f)) w) : wpList P ops Q (o :: rest) a w :=
  wpList_load_row hgd ty x ho g hx t (nums n f) (0, 0) _ hg hu rfl (by rw [nums_size]; exact hi) h
set_option maxRecDepth 100000 in
set_option maxHeartbeats 16000000 in
theorem vecSame_any (a b : List D2) (ha : a.length < 2000000) (hb : b.length < 2000000) (v u : Value) (w : World) (hv : HasDots w v a) (hu : HasDots w u b) : Calls Tryd.prog 12 #[v, u] w fun e w' => e = .returned (.bool (sameV a b)) ∧ Below w.heap.size w w' := by
  have HV := Lib.hid hv
  have HU := Lib.hid hu
  have A1 := Lib.hid (fun w v hv => counts_V a ha v w hv)
  have A2 := Lib.hid (fun w v hv => counts_V b hb v w hv)
  have E1 := eql_nums (P := Tryd.prog) Tryd.underlying49 Tryd.underlying2 (by kernel_rfl) (allV a) (allV b) (sameN_V a b)
  have E2 := fun x y => guard_nums (P := Tryd.prog) (t := 49) (by kernel_rfl) x y 32 (allV a) (allV b)
  obtain ⟨ao, cap, rfl⟩ := dots_shape hv a.length rfl
  obtain ⟨ao2, cap2, rfl⟩ := dots_shape hu b.length rfl
  obtain ⟨n, hn⟩ : ∃ n, n = a.length := ⟨_, rfl⟩
  obtain ⟨m, hm⟩ : ∃ m, m = b.length := ⟨_, rfl⟩
  rw [← hn] at HV ⊢
  rw [← hm] at HU ⊢
  clear hv hu ha hb hn hm
  go_enter Tryd.func12, Tryd.ntmps12
  go_wp2_with (first
    | (go_at_call 35; with_reducible refine (A1.out w _ HV.out).mono ?_; rintro e w1 ⟨rfl, hb⟩; have B1 := Lib.hid hb; clear hb)
    | (go_at_call 35; with_reducible refine (A2.out w1 _ (dots_below HU.out B1.out)).mono ?_; rintro e w2 ⟨rfl, hb⟩; have B2 := Lib.hid (below_next B1.out hb); clear hb))
  go_ret
  exact ⟨rfl, B2.out⟩
set_option maxRecDepth 100000 in
set_option maxHeartbeats 16000000 in
theorem vecGet_any (l : List D2) (hl : l.length < 2000000) (r : Int) (v : Value) (w : World) (hv : HasDots w v l) : Calls Tryd.prog 14 #[v, .int .i64 r] w fun e w' => e = .returned (.int .i64 (getV l r)) ∧ Below w.heap.size w w' := by
  have HV := Lib.hid hv
  have A1 := Lib.hid (fun w v hv => counts_V l hl v w hv)
  obtain ⟨ao, cap, rfl⟩ := dots_shape hv l.length rfl
  obtain ⟨n, hn⟩ : ∃ n, n = l.length := ⟨_, rfl⟩
  rw [← hn] at HV ⊢
  clear hv hl hn
  by_cases h0 : r < 0
  · have d1 : decide (r < 0) = true := decide_eq_true h0
    have HR := Lib.hid (show getV l r = 0 by rw [getV, if_pos (.inl h0)])
    clear h0
    go_enter Tryd.func14, Tryd.ntmps14
    go_wp2
    go_ret
    exact ⟨by rw [HR.out]; rfl, Below.refl _ _⟩
  · have d1 : decide (r < 0) = false := decide_eq_false h0
    by_cases h1 : 31 < r
    · have d2 : decide (r ≥ 32) = true := decide_eq_true (by omega)
      have HR := Lib.hid (show getV l r = 0 by rw [getV, if_pos (.inr h1)])
      clear h0 h1
      go_enter Tryd.func14, Tryd.ntmps14
      go_wp2
      go_ret
      exact ⟨by rw [HR.out]; rfl, Below.refl _ _⟩
    · have d2 : decide (r ≥ 32) = false := decide_eq_false (by omega)
      obtain ⟨i, hi⟩ : ∃ i : Nat, r = (i : Int) := ⟨r.toNat, by omega⟩
      subst hi
      have ix := fun w => index_nums (P := Tryd.prog) w (t := 49) (n := 32) (allV l) i (by omega) Tryd.underlying49 Tryd.underlying2 (by kernel_rfl)
      replace ix : ∀ w, (Instr.index 49 (numsV 32 (allV l)) (.int .i64 (i : Int))).run Tryd.prog w = .ok (.int .i64 (allV l i)) w := ix
      have HR := Lib.hid (show getV l (i : Int) = allV l i by rw [getV, if_neg (by omega), Int.toNat_natCast])
      clear h0 h1
      go_enter Tryd.func14, Tryd.ntmps14
      go_wp2_with (first
        | (go_at_call 35; refine (A1.out w _ HV.out).mono ?_; rintro e w1 ⟨rfl, hb⟩; have B1 := Lib.hid hb; clear hb))
      go_ret
      exact ⟨by rw [HR.out]; rfl, B1.out⟩
set_option maxRecDepth 100000 in
set_option maxHeartbeats 16000000 in
theorem vecHas_any (l : List D2) (hl : l.length < 2000000) (r q : Int) (v : Value) (w : World) (hv : HasDots w v l) : Calls Tryd.prog 16 #[v, .agg #[.int .i64 r, .int .i64 q]] w fun e w' => e = .returned (.bool (hasV l r q)) ∧ Below w.heap.size w w' := by
  have HV := Lib.hid hv
  have MY := Lib.hid (fun w => may_any9 r q w)
  have GT := Lib.hid (fun w hv => vecGet_any l hl r v w hv)
  have E0 := Lib.hid (show (w.alloc (.cells #[.int .i64 r, .int .i64 q] 25 (0, 0))).heap[w.heap.size]? = some (.cells #[.int .i64 r, .int .i64 q] 25 (0, 0)) from one_box w r q)
  obtain ⟨c0, c1⟩ := dot_cells (show _ = some (dotO r q) from E0.out)
  have C0 := Lib.hid c0
  have C1 := Lib.hid c1
  have B0 := Lib.hid ((Below.refl w.heap.size w).alloc (Nat.le_refl _) (.cells #[.int .i64 r, .int .i64 q] 25 (0, 0)))
  obtain ⟨ao, cap, rfl⟩ := dots_shape hv l.length rfl
  obtain ⟨n, hn⟩ : ∃ n, n = l.length := ⟨_, rfl⟩
  rw [← hn] at HV GT ⊢
  obtain ⟨G, hG⟩ : ∃ G, G = getV l r := ⟨_, rfl⟩
  rw [← hG] at GT
  have HR := Lib.hid (show hasV l r q = (mayD r q && decide (q ≤ G)) by rw [hasV, hG])
  clear hv hl hn hG c0 c1
  cases hm : mayD r q with
  | true =>
    rw [hm] at MY HR
    clear hm
    go_enter Tryd.func16, Tryd.ntmps16
    go_wp2
    generalize w.alloc (.cells #[.int .i64 r, .int .i64 q] 25 (0, 0)) = W0 at *
    refine wp_region_held_drew (S := fun w' => Below W0.heap.size W0 w') (by kernel_rfl) (drawS (Below.refl _ _)) (fun hHeld => ?_)
    generalize W0.drew = wd at hHeld ⊢
    refine take_at (i := 0) 5 rfl rfl (by kernel_rfl) (by kernel_rfl) (by kernel_rfl) (fun _ _ _ h => h) (row_yields (by rfl) 25 (.tmp 3) rfl w.heap.size rfl 25 _ (0, 0) _ Tryd.underlying25 rfl (by kernel_rfl) (fun _ h => row_kept E0.out h)) hHeld ?_
    simp only [List.setIfInBounds_toArray, List.set_cons_zero, List.set_cons_succ]
    refine wpAnyH_ready (rs := [1]) (by kernel_rfl) (by simp) ?_
    refine AllReadyH.cons rfl (fun K hK => ?_) AllReadyH.nil
    go_simp
    go_at_call 36
    refine (MY.out _).mono ?_
    rintro e w6 ⟨rfl, hb⟩
    dsimp only
    refine hK.out _ _ (below_next hHeld hb) (fun hHeld => ?_)
    clear hK K hb
    refine take_at (i := 2) 7 rfl rfl (by kernel_rfl) (by kernel_rfl) (by kernel_rfl) (fun _ _ _ h => h) (sure_yes (by rfl) (fun w => by go_simp; try with_reducible rfl)) hHeld ?_
    simp only [List.setIfInBounds_toArray, List.set_cons_zero, List.set_cons_succ]
    refine take_at (i := 3) 8 rfl rfl (by kernel_rfl) (by kernel_rfl) (by kernel_rfl) (fun _ _ _ h => h) (sure_yes (by rfl) (fun w => by go_simp; try with_reducible rfl)) hHeld ?_
    simp only [List.setIfInBounds_toArray, List.set_cons_zero, List.set_cons_succ]
    refine take_at (i := 5) 10 rfl rfl (by kernel_rfl) (by kernel_rfl) (by kernel_rfl) (fun _ _ _ h => h) (sure_yes (by rfl) (fun w => by go_simp; try with_reducible rfl)) hHeld ?_
    simp only [List.setIfInBounds_toArray, List.set_cons_zero, List.set_cons_succ]
    refine take_at (i := 6) 11 rfl rfl (by kernel_rfl) (by kernel_rfl) (by kernel_rfl) (fun _ _ _ h => h) (sure_yes (by rfl) (fun w => by go_simp; try with_reducible rfl)) hHeld ?_
    simp only [List.setIfInBounds_toArray, List.set_cons_zero, List.set_cons_succ]
    refine take_at (i := 4) 9 rfl rfl (by kernel_rfl) (by kernel_rfl) (by kernel_rfl) (fun _ _ _ h => h) (cell_yields (by rfl) 2 (.tmp 8) rfl w.heap.size 1 rfl .i64 q Tryd.underlying2 (fun w h => (World.cell?_of_block (h.block _ (World.block_lt_of_cell? _ _ C1.out))).trans C1.out)) hHeld ?_
    simp only [List.setIfInBounds_toArray, List.set_cons_zero, List.set_cons_succ]
    refine take_at (i := 7) 12 rfl rfl (by kernel_rfl) (by kernel_rfl) (by kernel_rfl) (fun _ _ _ h => h) (cell_yields (by rfl) 3 (.tmp 11) rfl w.heap.size 0 rfl .i64 r Tryd.underlying3 (fun w h => (World.cell?_of_block (h.block _ (World.block_lt_of_cell? _ _ C0.out))).trans C0.out)) hHeld ?_
    simp only [List.setIfInBounds_toArray, List.set_cons_zero, List.set_cons_succ]
    refine wpAnyH_ready (rs := [8]) (by kernel_rfl) (by simp) ?_
    refine AllReadyH.cons rfl (fun K hK => ?_) AllReadyH.nil
    go_simp
    go_at_call 14
    refine (GT.out _ (dots_below HV.out (below_next B0.out hHeld))).mono ?_
    rintro e w6 ⟨rfl, hb⟩
    dsimp only
    refine hK.out _ _ (below_next hHeld hb) (fun hHeld => ?_)
    clear hK K hb
    refine take_at (i := 9) 14 rfl rfl (by kernel_rfl) (by kernel_rfl) (by kernel_rfl) (fun _ _ _ h => h) (sure_yes (by rfl) (fun w => by go_simp; try with_reducible rfl)) hHeld ?_
    simp only [List.setIfInBounds_toArray, List.set_cons_zero, List.set_cons_succ]
    refine take_at (i := 10) 15 rfl rfl (by kernel_rfl) (by kernel_rfl) (by kernel_rfl) (fun _ _ _ h => h) (sure_yes (by rfl) (fun w => by go_simp; try with_reducible rfl)) hHeld ?_
    simp only [List.setIfInBounds_toArray, List.set_cons_zero, List.set_cons_succ]
    refine take_at (i := 11) 4 rfl rfl (by kernel_rfl) (by kernel_rfl) (by kernel_rfl) (fun _ _ _ h => h) (sure_yes (by rfl) (fun w => by go_simp; try with_reducible rfl)) hHeld ?_
    simp only [List.setIfInBounds_toArray, List.set_cons_zero, List.set_cons_succ]
    refine wpAnyH_done (by kernel_rfl) ?_ _
    go_wp2
    go_ret
    exact ⟨by rw [HR.out]; rfl, below_next B0.out hHeld⟩
  | false =>
    rw [hm] at MY HR
    clear hm
    go_enter Tryd.func16, Tryd.ntmps16
    go_wp2
    generalize w.alloc (.cells #[.int .i64 r, .int .i64 q] 25 (0, 0)) = W0 at *
    refine wp_region_held_drew (S := fun w' => Below W0.heap.size W0 w') (by kernel_rfl) (drawS (Below.refl _ _)) (fun hHeld => ?_)
    generalize W0.drew = wd at hHeld ⊢
    refine take_at (i := 0) 5 rfl rfl (by kernel_rfl) (by kernel_rfl) (by kernel_rfl) (fun _ _ _ h => h) (row_yields (by rfl) 25 (.tmp 3) rfl w.heap.size rfl 25 _ (0, 0) _ Tryd.underlying25 rfl (by kernel_rfl) (fun _ h => row_kept E0.out h)) hHeld ?_
    simp only [List.setIfInBounds_toArray, List.set_cons_zero, List.set_cons_succ]
    refine wpAnyH_ready (rs := [1]) (by kernel_rfl) (by simp) ?_
    refine AllReadyH.cons rfl (fun K hK => ?_) AllReadyH.nil
    go_simp
    go_at_call 36
    refine (MY.out _).mono ?_
    rintro e w6 ⟨rfl, hb⟩
    dsimp only
    refine hK.out _ _ (below_next hHeld hb) (fun hHeld => ?_)
    clear hK K hb
    refine take_at (i := 2) 7 rfl rfl (by kernel_rfl) (by kernel_rfl) (by kernel_rfl) (fun _ _ _ h => h) (sure_yes (by rfl) (fun w => by go_simp; try with_reducible rfl)) hHeld ?_
    simp only [List.setIfInBounds_toArray, List.set_cons_zero, List.set_cons_succ]
    refine take_at (i := 3) 8 rfl rfl (by kernel_rfl) (by kernel_rfl) (by kernel_rfl) (fun _ _ _ h => h) (.inr ⟨by rfl, rfl⟩) hHeld ?_
    simp only [List.setIfInBounds_toArray, List.set_cons_zero, List.set_cons_succ]
    refine take_at (i := 4) 9 rfl rfl (by kernel_rfl) (by kernel_rfl) (by kernel_rfl) (fun _ _ _ h => h) (.inr ⟨by rfl, rfl⟩) hHeld ?_
    simp only [List.setIfInBounds_toArray, List.set_cons_zero, List.set_cons_succ]
    refine take_at (i := 5) 10 rfl rfl (by kernel_rfl) (by kernel_rfl) (by kernel_rfl) (fun _ _ _ h => h) (.inr ⟨by rfl, rfl⟩) hHeld ?_
    simp only [List.setIfInBounds_toArray, List.set_cons_zero, List.set_cons_succ]
    refine take_at (i := 6) 11 rfl rfl (by kernel_rfl) (by kernel_rfl) (by kernel_rfl) (fun _ _ _ h => h) (.inr ⟨by rfl, rfl⟩) hHeld ?_
    simp only [List.setIfInBounds_toArray, List.set_cons_zero, List.set_cons_succ]
    refine take_at (i := 7) 12 rfl rfl (by kernel_rfl) (by kernel_rfl) (by kernel_rfl) (fun _ _ _ h => h) (.inr ⟨by rfl, rfl⟩) hHeld ?_
    simp only [List.setIfInBounds_toArray, List.set_cons_zero, List.set_cons_succ]
    refine take_at (i := 8) 13 rfl rfl (by kernel_rfl) (by kernel_rfl) (by kernel_rfl) (fun _ _ _ h => h) (.inr ⟨by rfl, rfl⟩) hHeld ?_
    simp only [List.setIfInBounds_toArray, List.set_cons_zero, List.set_cons_succ]
    refine take_at (i := 9) 14 rfl rfl (by kernel_rfl) (by kernel_rfl) (by kernel_rfl) (fun _ _ _ h => h) (.inr ⟨by rfl, rfl⟩) hHeld ?_
    simp only [List.setIfInBounds_toArray, List.set_cons_zero, List.set_cons_succ]
    refine take_at (i := 10) 15 rfl rfl (by kernel_rfl) (by kernel_rfl) (by kernel_rfl) (fun _ _ _ h => h) (sure_yes (by rfl) (fun w => by go_simp; try with_reducible rfl)) hHeld ?_
    simp only [List.setIfInBounds_toArray, List.set_cons_zero, List.set_cons_succ]
    refine take_at (i := 11) 4 rfl rfl (by kernel_rfl) (by kernel_rfl) (by kernel_rfl) (fun _ _ _ h => h) (sure_yes (by rfl) (fun w => by go_simp; try with_reducible rfl)) hHeld ?_
    simp only [List.setIfInBounds_toArray, List.set_cons_zero, List.set_cons_succ]
    refine wpAnyH_done (by kernel_rfl) ?_ _
    go_wp2
    go_ret
    exact ⟨by rw [HR.out]; rfl, below_next B0.out hHeld⟩
set_option maxRecDepth 100000 in
set_option maxHeartbeats 16000000 in
theorem vecJoin_any (a b : List D2) (ha : a.length < 2000000) (hb : b.length < 2000000) (v u : Value) (w : World) (hv : HasDots w v a) (hu : HasDots w u b) : Calls Tryd.prog 23 #[v, u] w fun e w' => ∃ x, e = .returned x ∧ HasDots w' x (joinV a b) ∧ Below w.heap.size w w' := by
  have HV := Lib.hid hv
  have HU := Lib.hid hu
  have A1 := Lib.hid (fun w v hv => counts_V a ha v w hv)
  have A2 := Lib.hid (fun w v hv => counts_V b hb v w hv)
  obtain ⟨ao, cap, rfl⟩ := dots_shape hv a.length rfl
  obtain ⟨ao2, cap2, rfl⟩ := dots_shape hu b.length rfl
  obtain ⟨n, hn⟩ : ∃ n, n = a.length := ⟨_, rfl⟩
  obtain ⟨m, hm⟩ : ∃ m, m = b.length := ⟨_, rfl⟩
  rw [← hn] at HV ⊢
  rw [← hm] at HU ⊢
  clear hv hu ha hb hn hm
  have MJ := Lib.hid (fun G H w hG hH => madeJoin_any (allV a) (allV b) G H w hG hH)
  have hmf : ∀ (fn : Fn) (first cap : Array Value) (w : World), (Instr.makeFunc fn first cap).run Tryd.prog w = .ok (.func fn first cap) w := fun _ _ _ _ => rfl
  go_enter Tryd.func23, Tryd.ntmps23
  go_wp2_with (first
    | (go_at_call 35; with_reducible refine (A1.out w _ HV.out).mono ?_; rintro e w1 ⟨rfl, hb⟩; have B1 := Lib.hid hb; clear hb)
    | (go_at_call 35; with_reducible refine (A2.out w1 _ (dots_below HU.out B1.out)).mono ?_; rintro e w2 ⟨rfl, hb⟩; have B2 := Lib.hid (below_next B1.out hb); clear hb)
    | (refine alloc_as rfl 49 rfl _ zero49 ?_)
    | (refine store_old rfl 49 (.tmp 5) (.tmp 8) rfl rfl w2.heap.size _ (nums 32 (allV a)) 49 (alloc2_0 w2 _ _) rfl rfl (by rw [nums_size]; kernel_rfl) (by rw [nums_size, nums_size]) (nums_one _ _) ?_; intro w3 hg ho hs hB; have G3 := Lib.hid hg; have H3 := Lib.hid (show w3.heap[w2.heap.size + 1]? = some (.cells (nums 32 fun _ => 0) 49 (0, 0)) from (ho _ (by omega)).trans (alloc2_1 w2 _ _)); have B3 := Lib.hid (hB w.heap.size w ((B2.out.alloc B2.out.size _).alloc (by have := B2.out.size; simp <;> omega) _) B2.out.size); clear hg ho hs hB)
    | (refine store_old rfl 49 (.tmp 6) (.tmp 10) rfl rfl (w2.heap.size + 1) _ (nums 32 (allV b)) 49 H3.out (by show Value.pointer (some ⟨(w2.alloc _).heap.size, 0, none⟩) = _; rw [World.size_alloc]) rfl (by rw [nums_size]; kernel_rfl) (by rw [nums_size, nums_size]) (nums_one _ _) ?_; intro w4 hg ho hs hB; have H4 := Lib.hid hg; have G4 := Lib.hid ((ho w2.heap.size (by omega)).trans G3.out); have B4 := Lib.hid (hB w.heap.size w B3.out (by have := B2.out.size; omega)); clear hg ho hs hB)
    | (go_at_call 40; refine (MJ.out _ _ _ G4.out H4.out).mono ?_; rintro e w5 ⟨x, rfl, hx, hb⟩; have HX := Lib.hid hx; have B5 := Lib.hid (below_next B4.out hb); clear hx hb))
  go_ret
  exact ⟨_, rfl, HX.out, B5.out⟩
set_option maxRecDepth 100000 in
set_option maxHeartbeats 16000000 in
theorem vecMeet_any (a b : List D2) (ha : a.length < 2000000) (hb : b.length < 2000000) (v u : Value) (w : World) (hv : HasDots w v a) (hu : HasDots w u b) : Calls Tryd.prog 25 #[v, u] w fun e w' => ∃ x, e = .returned x ∧ HasDots w' x (meetV a b) ∧ Below w.heap.size w w' := by
  have HV := Lib.hid hv
  have HU := Lib.hid hu
  have A1 := Lib.hid (fun w v hv => counts_V a ha v w hv)
  have A2 := Lib.hid (fun w v hv => counts_V b hb v w hv)
  obtain ⟨ao, cap, rfl⟩ := dots_shape hv a.length rfl
  obtain ⟨ao2, cap2, rfl⟩ := dots_shape hu b.length rfl
  obtain ⟨n, hn⟩ : ∃ n, n = a.length := ⟨_, rfl⟩
  obtain ⟨m, hm⟩ : ∃ m, m = b.length := ⟨_, rfl⟩
  rw [← hn] at HV ⊢
  rw [← hm] at HU ⊢
  clear hv hu ha hb hn hm
  have MJ := Lib.hid (fun G H w hG hH => madeMeet_any (allV a) (allV b) G H w hG hH)
  have hmf : ∀ (fn : Fn) (first cap : Array Value) (w : World), (Instr.makeFunc fn first cap).run Tryd.prog w = .ok (.func fn first cap) w := fun _ _ _ _ => rfl
  go_enter Tryd.func25, Tryd.ntmps25
  go_wp2_with (first
    | (go_at_call 35; with_reducible refine (A1.out w _ HV.out).mono ?_; rintro e w1 ⟨rfl, hb⟩; have B1 := Lib.hid hb; clear hb)
    | (go_at_call 35; with_reducible refine (A2.out w1 _ (dots_below HU.out B1.out)).mono ?_; rintro e w2 ⟨rfl, hb⟩; have B2 := Lib.hid (below_next B1.out hb); clear hb)
    | (refine alloc_as rfl 49 rfl _ zero49 ?_)
    | (refine store_old rfl 49 (.tmp 5) (.tmp 8) rfl rfl w2.heap.size _ (nums 32 (allV a)) 49 (alloc2_0 w2 _ _) rfl rfl (by rw [nums_size]; kernel_rfl) (by rw [nums_size, nums_size]) (nums_one _ _) ?_; intro w3 hg ho hs hB; have G3 := Lib.hid hg; have H3 := Lib.hid (show w3.heap[w2.heap.size + 1]? = some (.cells (nums 32 fun _ => 0) 49 (0, 0)) from (ho _ (by omega)).trans (alloc2_1 w2 _ _)); have B3 := Lib.hid (hB w.heap.size w ((B2.out.alloc B2.out.size _).alloc (by have := B2.out.size; simp <;> omega) _) B2.out.size); clear hg ho hs hB)
    | (refine store_old rfl 49 (.tmp 6) (.tmp 10) rfl rfl (w2.heap.size + 1) _ (nums 32 (allV b)) 49 H3.out (by show Value.pointer (some ⟨(w2.alloc _).heap.size, 0, none⟩) = _; rw [World.size_alloc]) rfl (by rw [nums_size]; kernel_rfl) (by rw [nums_size, nums_size]) (nums_one _ _) ?_; intro w4 hg ho hs hB; have H4 := Lib.hid hg; have G4 := Lib.hid ((ho w2.heap.size (by omega)).trans G3.out); have B4 := Lib.hid (hB w.heap.size w B3.out (by have := B2.out.size; omega)); clear hg ho hs hB)
    | (go_at_call 40; refine (MJ.out _ _ _ G4.out H4.out).mono ?_; rintro e w5 ⟨x, rfl, hx, hb⟩; have HX := Lib.hid hx; have B5 := Lib.hid (below_next B4.out hb); clear hx hb))
  go_ret
  exact ⟨_, rfl, HX.out, B5.out⟩
theorem dots_one (w : World) (r q : Int) : HasDots (w.alloc (.cells #[.int .i64 r, .int .i64 q] 25 (0, 0))) (.slice (some ⟨w.heap.size, 0, none⟩) 1 1) [(r, q)] := by
  refine ⟨some ⟨w.heap.size, 0, none⟩, 1, rfl, (fun h => by cases h), fun ad had => ?_⟩
  cases had
  refine ⟨Nat.le_refl _, fun j u hj => ?_⟩
  match j, hj with
  | 0, hj => exact (show _ = some (Value.int .i64 r) from (cell_of_row _ _ 0 _ _ _ (heap_last w _)).trans rfl).trans hj
  | 1, hj => rw [Addr.add_lit]; exact (show _ = some (Value.int .i64 q) from (cell_of_row _ _ (0 + 1) _ _ _ (heap_last w _)).trans rfl).trans hj
set_option maxRecDepth 100000 in
set_option maxHeartbeats 16000000 in
theorem vecWith_any (l : List D2) (hl : l.length < 2000000) (r q : Int) (v : Value) (w : World) (hv : HasDots w v l) : Calls Tryd.prog 19 #[v, .agg #[.int .i64 r, .int .i64 q]] w fun e w' => ∃ x, e = .returned x ∧ HasDots w' x (withV l r q) ∧ Below w.heap.size w w' := by
  have HV := Lib.hid hv
  have MJ := Lib.hid (fun v u w hv hu => vecJoin_any l [(r, q)] hl (by simp) v u w hv hu)
  rw [with_join] at MJ
  have E0 := Lib.hid (show (w.alloc (.cells #[.int .i64 r, .int .i64 q] 25 (0, 0))).heap[w.heap.size]? = some (.cells #[.int .i64 r, .int .i64 q] 25 (0, 0)) from one_box w r q)
  have B0 := Lib.hid ((Below.refl w.heap.size w).alloc (Nat.le_refl _) (.cells #[.int .i64 r, .int .i64 q] 25 (0, 0)))
  obtain ⟨ao, cap, rfl⟩ := dots_shape hv l.length rfl
  obtain ⟨n, hn⟩ : ∃ n, n = l.length := ⟨_, rfl⟩
  rw [← hn] at HV ⊢
  clear hv hl hn
  go_enter Tryd.func19, Tryd.ntmps19
  go_upto_region 1 with fail
  generalize w.alloc (.cells #[.int .i64 r, .int .i64 q] 25 (0, 0)) = W0 at *
  have HU := Lib.hid (dots_one W0 r q)
  have B1 := Lib.hid (B0.out.alloc B0.out.size (.cells #[.int .i64 r, .int .i64 q] 25 (0, 0)))
  go_wp2_with (first
    | (refine load_row_on (by rfl) 25 (.tmp 3) rfl w.heap.size rfl 25 _ (0, 0) _ E0.out Tryd.underlying25 rfl (by kernel_rfl) ?_)
    | (go_at_call 23; refine (MJ.out _ _ _ (dots_below HV.out B1.out) HU.out).mono ?_; rintro e w5 ⟨x, rfl, hx, hb⟩; have HX := Lib.hid hx; have B5 := Lib.hid (below_next B1.out hb); clear hx hb))
  go_ret
  exact ⟨_, rfl, HX.out, B5.out⟩
set_option maxRecDepth 100000 in
set_option maxHeartbeats 16000000 in
theorem vecLeq_any (a b : List D2) (ha : a.length < 2000000) (hb : b.length < 2000000) (v u : Value) (w : World) (hv : HasDots w v a) (hu : HasDots w u b) : Calls Tryd.prog 27 #[v, u] w fun e w' => e = .returned (.bool (leqV a b)) ∧ Below w.heap.size w w' := by
  have HV := Lib.hid hv
  have HU := Lib.hid hu
  have A1 := Lib.hid (fun w v hv => counts_V a ha v w hv)
  have A2 := Lib.hid (fun w v hv => counts_V b hb v w hv)
  obtain ⟨ao, cap, rfl⟩ := dots_shape hv a.length rfl
  obtain ⟨ao2, cap2, rfl⟩ := dots_shape hu b.length rfl
  obtain ⟨n, hn⟩ : ∃ n, n = a.length := ⟨_, rfl⟩
  obtain ⟨m, hm⟩ : ∃ m, m = b.length := ⟨_, rfl⟩
  rw [← hn] at HV ⊢
  rw [← hm] at HU ⊢
  clear hv hu ha hb hn hm
  go_enter Tryd.func27, Tryd.ntmps27
  go_wp2_with (first
    | (go_at_call 35; with_reducible refine (A1.out w _ HV.out).mono ?_; rintro e w1 ⟨rfl, hb⟩; have B1 := Lib.hid hb; clear hb)
    | (go_at_call 35; with_reducible refine (A2.out w1 _ (dots_below HU.out B1.out)).mono ?_; rintro e w2 ⟨rfl, hb⟩; have B2 := Lib.hid (below_next B1.out hb); clear hb)
    | (refine alloc_as rfl 49 rfl _ zero49 ?_)
    | (refine store_old rfl 49 (.tmp 5) (.tmp 10) rfl rfl w2.heap.size _ (nums 32 (allV a)) 49 (alloc2_0 w2 _ _) rfl rfl (by rw [nums_size]; kernel_rfl) (by rw [nums_size, nums_size]) (nums_one _ _) ?_; intro w3 hg ho hs hB; have G3 := Lib.hid hg; have H3 := Lib.hid (show w3.heap[w2.heap.size + 1]? = some (.cells (nums 32 fun _ => 0) 49 (0, 0)) from (ho _ (by omega)).trans (alloc2_1 w2 _ _)); have B3 := Lib.hid (hB w.heap.size w ((B2.out.alloc B2.out.size _).alloc (by have := B2.out.size; simp <;> omega) _) B2.out.size); clear hg ho hs hB)
    | (refine store_old rfl 49 (.tmp 6) (.tmp 12) rfl rfl (w2.heap.size + 1) _ (nums 32 (allV b)) 49 H3.out (by show Value.pointer (some ⟨(w2.alloc _).heap.size, 0, none⟩) = _; rw [World.size_alloc]) rfl (by rw [nums_size]; kernel_rfl) (by rw [nums_size, nums_size]) (nums_one _ _) ?_; intro w4 hg ho hs hB; have H4 := Lib.hid hg; have G4 := Lib.hid ((ho w2.heap.size (by omega)).trans G3.out); have B4 := Lib.hid (hB w.heap.size w B3.out (by have := B2.out.size; omega)); clear hg ho hs hB)
    | (refine load_nums rfl 49 (.tmp 5) rfl w2.heap.size rfl 49 32 (allV a) G4.out Tryd.underlying49 (by kernel_rfl) ?_))
  generalize w2.heap.size + 1 = H at *
  clear G3 H3 B3 B2 B1 G4
  go_loopw [14] (fun c wr => ∃ k : Nat, k ≤ 32 ∧ c = .int .i64 (k : Int) ∧ (∀ i, i < k → allV a i ≤ allV b i) ∧ wr.heap[H]? = some (.cells (nums 32 (allV b)) 49 (0, 0)) ∧ Below w.heap.size w wr) (fun c _ => 32 - (intOf c).toNat)
  case atStart => exact ⟨0, by omega, rfl, (fun i hi => absurd hi (by omega)), H4.out, B4.out⟩
  case round =>
    clear H4 B4
    obtain ⟨k, hk, rfl, hall, hh, hb⟩ := hrel
    by_cases hlt : k < 32
    · have q0 : (k : Int) < 32 := by omega
      have c1 := nums_cell hh k hlt
      have ix := fun w => index_nums (P := Tryd.prog) w (t := 49) (n := 32) (allV a) k hlt Tryd.underlying49 Tryd.underlying2 (by kernel_rfl)
      replace ix : ∀ w, (Instr.index 49 (numsV 32 (allV a)) (.int .i64 (k : Int))).run Tryd.prog w = .ok (.int .i64 (allV a k)) w := ix
      have HH := Lib.hid hh
      have HB := Lib.hid hb
      have HA := Lib.hid hall
      have KK := Lib.hid (show k + 1 ≤ 32 ∧ 32 - (k + 1) < 32 - k by omega)
      have HL := Lib.hid (leqV_iff a b)
      obtain ⟨x, hx⟩ : ∃ x, x = allV a k := ⟨_, rfl⟩
      obtain ⟨y, hy⟩ : ∃ y, y = allV b k := ⟨_, rfl⟩
      rw [← hx] at ix
      rw [← hy] at c1
      by_cases hgt : x > y
      · have d1 : decide (x > y) = true := decide_eq_true hgt
        have HF := Lib.hid (show leqV a b = false by
          cases h : leqV a b with
          | false => rfl
          | true => have := HL.out.1 h k hlt; omega)
        clear hall hh hb hgt hx hy
        go_wp2
        go_ret
        exact ⟨by rw [HF.out]; rfl, HB.out⟩
      · have d1 : decide (x > y) = false := decide_eq_false hgt
        have HN := Lib.hid (show ∀ i, i < k + 1 → allV a i ≤ allV b i from fun i hi => by
          by_cases e : i = k
          · subst e; omega
          · exact HA.out i (by omega))
        clear hall hh hb hgt hx hy
        go_wp2
        refine ⟨⟨k + 1, KK.out.1, by simp, HN.out, HH.out, HB.out⟩, ?_⟩
        have := KK.out.2; simp [intOf] <;> omega
    · have q0 : ¬ (k : Int) < 32 := by omega
      have HE := Lib.hid (show leqV a b = true from (leqV_iff a b).2 fun i hi => hall i (by omega))
      have HB := Lib.hid hb
      clear hall hh hb
      go_wp2
      go_ret
      exact ⟨by rw [HE.out]; rfl, HB.out⟩
end Go.Proofs.YtoephjmjlhgjeaaDoor
namespace Go.Proofs.YtoephjmjlhgjeaaDoor
open Go.RowKit
theorem dots_part {w : World} {ad : Addr} {n cap : Nat} {l : List D2} (h : HasDots w (.slice (some ad) n cap) l) (k : Nat) (hk : k ≤ n) (hn : n = l.length) : HasDots w (.slice (some ad) k cap) (l.take k) := by
  obtain ⟨ao, cap', e, hnil, hc⟩ := h
  injection e with e1 e2 e3
  subst e1 e3
  have hl : (l.take k).length = k := by rw [List.length_take]; omega
  refine ⟨some ad, cap, by rw [hl], (fun h => by cases h), fun ad' had => ?_⟩
  cases had
  refine ⟨by rw [hl]; have := (hc ad rfl).1; omega, fun j u hj => (hc ad rfl).2 j u ?_⟩
  obtain ⟨i, d, h1, h2⟩ := dotsC_inv _ j u hj
  have h3 : l[i]? = some d := by
    rw [List.getElem?_take] at h1
    split at h1
    · exact h1
    · cases h1
  obtain ⟨p1, p2⟩ := dotsC_at l i d h3
  rcases h2 with ⟨rfl, rfl⟩ | ⟨rfl, rfl⟩
  · exact p1
  · exact p2
theorem fol_no {l : List D2} {r q : Int} (h : mayD r q = false) : fol l (r, q) = false := by
  rw [fol, show mayT (r, q) = false from h]; rfl
theorem fol_nil {r q : Int} (h : mayD r q = true) : fol [] (r, q) = true := by
  rw [fol, show mayT (r, q) = true from h]; rfl
theorem fol_last {l : List D2} {r q r0 q0 : Int} {j : Nat} (h : mayD r q = true) (hj : l.length = j + 1) (hd : l[j]? = some (r0, q0)) : fol l (r, q) = decide (r0 < r) := by
  obtain ⟨a, b, rfl⟩ := list_snoc l (fun e => by rw [e] at hj; simp at hj)
  have ha : a.length = j := by simpa using hj
  subst ha
  obtain rfl : b = (r0, q0) := by simpa using hd
  rw [fol, show mayT (r, q) = true from h, List.getLastD_concat]
  simp
set_option maxRecDepth 100000 in
set_option maxHeartbeats 16000000 in
theorem mayFollow_any (l : List D2) (hl : l.length < 2000000) (r q : Int) (v : Value) (w : World) (hv : HasDots w v l) : Calls Tryd.prog 32 #[v, .agg #[.int .i64 r, .int .i64 q]] w fun e w' => e = .returned (.bool (fol l (r, q))) ∧ Below w.heap.size w w' := by
  have HV := Lib.hid hv
  have MY := Lib.hid (fun w => may_any9 r q w)
  have E0 := Lib.hid (show (w.alloc (.cells #[.int .i64 r, .int .i64 q] 25 (0, 0))).heap[w.heap.size]? = some (.cells #[.int .i64 r, .int .i64 q] 25 (0, 0)) from one_box w r q)
  have B0 := Lib.hid ((Below.refl w.heap.size w).alloc (Nat.le_refl _) (.cells #[.int .i64 r, .int .i64 q] 25 (0, 0)))
  cases hm : mayD r q with
  | false =>
    rw [hm] at MY
    have HR := Lib.hid (fol_no (l := l) hm)
    obtain ⟨ao, cap, rfl⟩ := dots_shape hv l.length rfl
    obtain ⟨n, hn⟩ : ∃ n, n = l.length := ⟨_, rfl⟩
    rw [← hn] at HV ⊢
    clear hv hl hn hm
    go_enter Tryd.func32, Tryd.ntmps32
    go_upto_region 1 with fail
    generalize w.alloc (.cells #[.int .i64 r, .int .i64 q] 25 (0, 0)) = W0 at *
    refine wp_region_held_drew (S := fun w' => Below W0.heap.size W0 w') (by kernel_rfl) (drawS (Below.refl _ _)) (fun hHeld => ?_)
    generalize W0.drew = wd at hHeld ⊢
    refine take_at (i := 0) 5 rfl rfl (by kernel_rfl) (by kernel_rfl) (by kernel_rfl) (fun _ _ _ h => h) (row_yields (by rfl) 25 (.tmp 3) rfl w.heap.size rfl 25 _ (0, 0) _ Tryd.underlying25 rfl (by kernel_rfl) (fun _ h => row_kept E0.out h)) hHeld ?_
    simp only [List.setIfInBounds_toArray, List.set_cons_zero, List.set_cons_succ]
    refine wpAnyH_ready (rs := [1]) (by kernel_rfl) (by simp) ?_
    refine AllReadyH.cons rfl (fun K hK => ?_) AllReadyH.nil
    go_simp
    go_at_call 36
    refine (MY.out _).mono ?_
    rintro e w6 ⟨rfl, hb⟩
    dsimp only
    refine hK.out _ _ (below_next hHeld hb) (fun hHeld => ?_)
    clear hK K hb
    refine take_at (i := 2) 7 rfl rfl (by kernel_rfl) (by kernel_rfl) (by kernel_rfl) (fun _ _ _ h => h) (sure_yes (by rfl) (fun w => by go_simp; try with_reducible rfl)) hHeld ?_
    simp only [List.setIfInBounds_toArray, List.set_cons_zero, List.set_cons_succ]
    refine take_at (i := 3) 8 rfl rfl (by kernel_rfl) (by kernel_rfl) (by kernel_rfl) (fun _ _ _ h => h) (.inr ⟨by rfl, rfl⟩) hHeld ?_
    simp only [List.setIfInBounds_toArray, List.set_cons_zero, List.set_cons_succ]
    refine take_at (i := 4) 9 rfl rfl (by kernel_rfl) (by kernel_rfl) (by kernel_rfl) (fun _ _ _ h => h) (.inr ⟨by rfl, rfl⟩) hHeld ?_
    simp only [List.setIfInBounds_toArray, List.set_cons_zero, List.set_cons_succ]
    refine take_at (i := 5) 10 rfl rfl (by kernel_rfl) (by kernel_rfl) (by kernel_rfl) (fun _ _ _ h => h) (.inr ⟨by rfl, rfl⟩) hHeld ?_
    simp only [List.setIfInBounds_toArray, List.set_cons_zero, List.set_cons_succ]
    refine take_at (i := 6) 11 rfl rfl (by kernel_rfl) (by kernel_rfl) (by kernel_rfl) (fun _ _ _ h => h) (.inr ⟨by rfl, rfl⟩) hHeld ?_
    simp only [List.setIfInBounds_toArray, List.set_cons_zero, List.set_cons_succ]
    refine take_at (i := 7) 12 rfl rfl (by kernel_rfl) (by kernel_rfl) (by kernel_rfl) (fun _ _ _ h => h) (.inr ⟨by rfl, rfl⟩) hHeld ?_
    simp only [List.setIfInBounds_toArray, List.set_cons_zero, List.set_cons_succ]
    refine take_at (i := 8) 13 rfl rfl (by kernel_rfl) (by kernel_rfl) (by kernel_rfl) (fun _ _ _ h => h) (.inr ⟨by rfl, rfl⟩) hHeld ?_
    simp only [List.setIfInBounds_toArray, List.set_cons_zero, List.set_cons_succ]
    refine take_at (i := 9) 14 rfl rfl (by kernel_rfl) (by kernel_rfl) (by kernel_rfl) (fun _ _ _ h => h) (.inr ⟨by rfl, rfl⟩) hHeld ?_
    simp only [List.setIfInBounds_toArray, List.set_cons_zero, List.set_cons_succ]
    refine take_at (i := 10) 15 rfl rfl (by kernel_rfl) (by kernel_rfl) (by kernel_rfl) (fun _ _ _ h => h) (.inr ⟨by rfl, rfl⟩) hHeld ?_
    simp only [List.setIfInBounds_toArray, List.set_cons_zero, List.set_cons_succ]
    refine take_at (i := 11) 16 rfl rfl (by kernel_rfl) (by kernel_rfl) (by kernel_rfl) (fun _ _ _ h => h) (.inr ⟨by rfl, rfl⟩) hHeld ?_
    simp only [List.setIfInBounds_toArray, List.set_cons_zero, List.set_cons_succ]
    refine take_at (i := 12) 17 rfl rfl (by kernel_rfl) (by kernel_rfl) (by kernel_rfl) (fun _ _ _ h => h) (.inr ⟨by rfl, rfl⟩) hHeld ?_
    simp only [List.setIfInBounds_toArray, List.set_cons_zero, List.set_cons_succ]
    refine take_at (i := 13) 18 rfl rfl (by kernel_rfl) (by kernel_rfl) (by kernel_rfl) (fun _ _ _ h => h) (.inr ⟨by rfl, rfl⟩) hHeld ?_
    simp only [List.setIfInBounds_toArray, List.set_cons_zero, List.set_cons_succ]
    refine take_at (i := 14) 19 rfl rfl (by kernel_rfl) (by kernel_rfl) (by kernel_rfl) (fun _ _ _ h => h) (.inr ⟨by rfl, rfl⟩) hHeld ?_
    simp only [List.setIfInBounds_toArray, List.set_cons_zero, List.set_cons_succ]
    refine take_at (i := 15) 20 rfl rfl (by kernel_rfl) (by kernel_rfl) (by kernel_rfl) (fun _ _ _ h => h) (.inr ⟨by rfl, rfl⟩) hHeld ?_
    simp only [List.setIfInBounds_toArray, List.set_cons_zero, List.set_cons_succ]
    refine take_at (i := 16) 21 rfl rfl (by kernel_rfl) (by kernel_rfl) (by kernel_rfl) (fun _ _ _ h => h) (.inr ⟨by rfl, rfl⟩) hHeld ?_
    simp only [List.setIfInBounds_toArray, List.set_cons_zero, List.set_cons_succ]
    refine take_at (i := 17) 22 rfl rfl (by kernel_rfl) (by kernel_rfl) (by kernel_rfl) (fun _ _ _ h => h) (.inr ⟨by rfl, rfl⟩) hHeld ?_
    simp only [List.setIfInBounds_toArray, List.set_cons_zero, List.set_cons_succ]
    refine take_at (i := 18) 23 rfl rfl (by kernel_rfl) (by kernel_rfl) (by kernel_rfl) (fun _ _ _ h => h) (sure_yes (by rfl) (fun w => by go_simp; try with_reducible rfl)) hHeld ?_
    simp only [List.setIfInBounds_toArray, List.set_cons_zero, List.set_cons_succ]
    refine take_at (i := 19) 4 rfl rfl (by kernel_rfl) (by kernel_rfl) (by kernel_rfl) (fun _ _ _ h => h) (sure_yes (by rfl) (fun w => by go_simp; try with_reducible rfl)) hHeld ?_
    simp only [List.setIfInBounds_toArray, List.set_cons_zero, List.set_cons_succ]
    refine wpAnyH_done (by kernel_rfl) ?_ _
    go_wp2
    go_ret
    exact ⟨by rw [HR.out]; rfl, below_next B0.out hHeld⟩
  | true =>
    rw [hm] at MY
    by_cases hnil : l = []
    · subst hnil
      have HR := Lib.hid (fol_nil hm)
      obtain ⟨ao, cap, rfl⟩ := dots_shape hv 0 rfl
      clear hv hl hm
      go_enter Tryd.func32, Tryd.ntmps32
      go_upto_region 1 with fail
      generalize w.alloc (.cells #[.int .i64 r, .int .i64 q] 25 (0, 0)) = W0 at *
      refine wp_region_held_drew (S := fun w' => Below W0.heap.size W0 w') (by kernel_rfl) (drawS (Below.refl _ _)) (fun hHeld => ?_)
      generalize W0.drew = wd at hHeld ⊢
      refine take_at (i := 0) 5 rfl rfl (by kernel_rfl) (by kernel_rfl) (by kernel_rfl) (fun _ _ _ h => h) (row_yields (by rfl) 25 (.tmp 3) rfl w.heap.size rfl 25 _ (0, 0) _ Tryd.underlying25 rfl (by kernel_rfl) (fun _ h => row_kept E0.out h)) hHeld ?_
      simp only [List.setIfInBounds_toArray, List.set_cons_zero, List.set_cons_succ]
      refine wpAnyH_ready (rs := [1]) (by kernel_rfl) (by simp) ?_
      refine AllReadyH.cons rfl (fun K hK => ?_) AllReadyH.nil
      go_simp
      go_at_call 36
      refine (MY.out _).mono ?_
      rintro e w6 ⟨rfl, hb⟩
      dsimp only
      refine hK.out _ _ (below_next hHeld hb) (fun hHeld => ?_)
      clear hK K hb
      refine take_at (i := 2) 7 rfl rfl (by kernel_rfl) (by kernel_rfl) (by kernel_rfl) (fun _ _ _ h => h) (sure_yes (by rfl) (fun w => by go_simp; try with_reducible rfl)) hHeld ?_
      simp only [List.setIfInBounds_toArray, List.set_cons_zero, List.set_cons_succ]
      refine take_at (i := 3) 8 rfl rfl (by kernel_rfl) (by kernel_rfl) (by kernel_rfl) (fun _ _ _ h => h) (sure_yes (by rfl) (fun w => by go_simp; try with_reducible rfl)) hHeld ?_
      simp only [List.setIfInBounds_toArray, List.set_cons_zero, List.set_cons_succ]
      refine take_at (i := 4) 9 rfl rfl (by kernel_rfl) (by kernel_rfl) (by kernel_rfl) (fun _ _ _ h => h) (sure_yes (by rfl) (fun w => by go_simp; try with_reducible rfl)) hHeld ?_
      simp only [List.setIfInBounds_toArray, List.set_cons_zero, List.set_cons_succ]
      refine take_at (i := 5) 10 rfl rfl (by kernel_rfl) (by kernel_rfl) (by kernel_rfl) (fun _ _ _ h => h) (sure_yes (by rfl) (fun w => by go_simp; try with_reducible rfl)) hHeld ?_
      simp only [List.setIfInBounds_toArray, List.set_cons_zero, List.set_cons_succ]
      refine take_at (i := 6) 11 rfl rfl (by kernel_rfl) (by kernel_rfl) (by kernel_rfl) (fun _ _ _ h => h) (sure_yes (by rfl) (fun w => by go_simp; try with_reducible rfl)) hHeld ?_
      simp only [List.setIfInBounds_toArray, List.set_cons_zero, List.set_cons_succ]
      refine take_at (i := 7) 12 rfl rfl (by kernel_rfl) (by kernel_rfl) (by kernel_rfl) (fun _ _ _ h => h) (.inr ⟨by rfl, rfl⟩) hHeld ?_
      simp only [List.setIfInBounds_toArray, List.set_cons_zero, List.set_cons_succ]
      refine take_at (i := 8) 13 rfl rfl (by kernel_rfl) (by kernel_rfl) (by kernel_rfl) (fun _ _ _ h => h) (.inr ⟨by rfl, rfl⟩) hHeld ?_
      simp only [List.setIfInBounds_toArray, List.set_cons_zero, List.set_cons_succ]
      refine take_at (i := 9) 14 rfl rfl (by kernel_rfl) (by kernel_rfl) (by kernel_rfl) (fun _ _ _ h => h) (.inr ⟨by rfl, rfl⟩) hHeld ?_
      simp only [List.setIfInBounds_toArray, List.set_cons_zero, List.set_cons_succ]
      refine take_at (i := 10) 15 rfl rfl (by kernel_rfl) (by kernel_rfl) (by kernel_rfl) (fun _ _ _ h => h) (.inr ⟨by rfl, rfl⟩) hHeld ?_
      simp only [List.setIfInBounds_toArray, List.set_cons_zero, List.set_cons_succ]
      refine take_at (i := 11) 16 rfl rfl (by kernel_rfl) (by kernel_rfl) (by kernel_rfl) (fun _ _ _ h => h) (.inr ⟨by rfl, rfl⟩) hHeld ?_
      simp only [List.setIfInBounds_toArray, List.set_cons_zero, List.set_cons_succ]
      refine take_at (i := 12) 17 rfl rfl (by kernel_rfl) (by kernel_rfl) (by kernel_rfl) (fun _ _ _ h => h) (.inr ⟨by rfl, rfl⟩) hHeld ?_
      simp only [List.setIfInBounds_toArray, List.set_cons_zero, List.set_cons_succ]
      refine take_at (i := 13) 18 rfl rfl (by kernel_rfl) (by kernel_rfl) (by kernel_rfl) (fun _ _ _ h => h) (.inr ⟨by rfl, rfl⟩) hHeld ?_
      simp only [List.setIfInBounds_toArray, List.set_cons_zero, List.set_cons_succ]
      refine take_at (i := 14) 19 rfl rfl (by kernel_rfl) (by kernel_rfl) (by kernel_rfl) (fun _ _ _ h => h) (.inr ⟨by rfl, rfl⟩) hHeld ?_
      simp only [List.setIfInBounds_toArray, List.set_cons_zero, List.set_cons_succ]
      refine take_at (i := 15) 20 rfl rfl (by kernel_rfl) (by kernel_rfl) (by kernel_rfl) (fun _ _ _ h => h) (.inr ⟨by rfl, rfl⟩) hHeld ?_
      simp only [List.setIfInBounds_toArray, List.set_cons_zero, List.set_cons_succ]
      refine take_at (i := 16) 21 rfl rfl (by kernel_rfl) (by kernel_rfl) (by kernel_rfl) (fun _ _ _ h => h) (.inr ⟨by rfl, rfl⟩) hHeld ?_
      simp only [List.setIfInBounds_toArray, List.set_cons_zero, List.set_cons_succ]
      refine take_at (i := 17) 22 rfl rfl (by kernel_rfl) (by kernel_rfl) (by kernel_rfl) (fun _ _ _ h => h) (sure_yes (by rfl) (fun w => by go_simp; try with_reducible rfl)) hHeld ?_
      simp only [List.setIfInBounds_toArray, List.set_cons_zero, List.set_cons_succ]
      refine take_at (i := 18) 23 rfl rfl (by kernel_rfl) (by kernel_rfl) (by kernel_rfl) (fun _ _ _ h => h) (sure_yes (by rfl) (fun w => by go_simp; try with_reducible rfl)) hHeld ?_
      simp only [List.setIfInBounds_toArray, List.set_cons_zero, List.set_cons_succ]
      refine take_at (i := 19) 4 rfl rfl (by kernel_rfl) (by kernel_rfl) (by kernel_rfl) (fun _ _ _ h => h) (sure_yes (by rfl) (fun w => by go_simp; try with_reducible rfl)) hHeld ?_
      simp only [List.setIfInBounds_toArray, List.set_cons_zero, List.set_cons_succ]
      refine wpAnyH_done (by kernel_rfl) ?_ _
      go_wp2
      go_ret
      exact ⟨by rw [HR.out]; rfl, below_next B0.out hHeld⟩
    · obtain ⟨j, hj⟩ : ∃ j, l.length = j + 1 := ⟨l.length - 1, by have := List.length_pos_iff.2 hnil; omega⟩
      obtain ⟨d, hd⟩ : ∃ d, l[j]? = some d := ⟨_, List.getElem?_eq_getElem (by omega)⟩
      obtain ⟨r0, q0⟩ := d
      have HR := Lib.hid (fol_last hm hj hd)
      obtain ⟨n, hn⟩ : ∃ n, n = l.length := ⟨_, rfl⟩
      obtain ⟨ad, cap, rfl, cd, -⟩ := dots_at hv n j hn.symm _ hd
      obtain ⟨c0, -⟩ := dot_cells (show _ = some (dotO r q) from E0.out)
      have CD := Lib.hid ((World.cell?_of_block (B0.out.block _ (World.block_lt_of_cell? _ _ cd))).trans cd)
      have C0 := Lib.hid c0
      have e1 : ((n : Int) == 0) = false := by rw [beq_eq_false_iff_ne]; omega
      have wj : IntKind.i64.wrap ((n : Int) - 1) = (j : Int) := by rw [IntKind.wrap_i64]; omega
      have qj : (j : Int) < (n : Int) := by omega
      clear hv hl hm hnil hj hd hn cd c0
      go_enter Tryd.func32, Tryd.ntmps32
      go_upto_region 1 with fail
      generalize w.alloc (.cells #[.int .i64 r, .int .i64 q] 25 (0, 0)) = W0 at *
      refine wp_region_held_drew (S := fun w' => Below W0.heap.size W0 w') (by kernel_rfl) (drawS (Below.refl _ _)) (fun hHeld => ?_)
      generalize W0.drew = wd at hHeld ⊢
      refine take_at (i := 0) 5 rfl rfl (by kernel_rfl) (by kernel_rfl) (by kernel_rfl) (fun _ _ _ h => h) (row_yields (by rfl) 25 (.tmp 3) rfl w.heap.size rfl 25 _ (0, 0) _ Tryd.underlying25 rfl (by kernel_rfl) (fun _ h => row_kept E0.out h)) hHeld ?_
      simp only [List.setIfInBounds_toArray, List.set_cons_zero, List.set_cons_succ]
      refine wpAnyH_ready (rs := [1]) (by kernel_rfl) (by simp) ?_
      refine AllReadyH.cons rfl (fun K hK => ?_) AllReadyH.nil
      go_simp
      go_at_call 36
      refine (MY.out _).mono ?_
      rintro e w6 ⟨rfl, hb⟩
      dsimp only
      refine hK.out _ _ (below_next hHeld hb) (fun hHeld => ?_)
      clear hK K hb
      refine take_at (i := 2) 7 rfl rfl (by kernel_rfl) (by kernel_rfl) (by kernel_rfl) (fun _ _ _ h => h) (sure_yes (by rfl) (fun w => by go_simp; try with_reducible rfl)) hHeld ?_
      simp only [List.setIfInBounds_toArray, List.set_cons_zero, List.set_cons_succ]
      refine take_at (i := 3) 8 rfl rfl (by kernel_rfl) (by kernel_rfl) (by kernel_rfl) (fun _ _ _ h => h) (sure_yes (by rfl) (fun w => by go_simp; try with_reducible rfl)) hHeld ?_
      simp only [List.setIfInBounds_toArray, List.set_cons_zero, List.set_cons_succ]
      refine take_at (i := 4) 9 rfl rfl (by kernel_rfl) (by kernel_rfl) (by kernel_rfl) (fun _ _ _ h => h) (sure_yes (by rfl) (fun w => by go_simp; try with_reducible rfl)) hHeld ?_
      simp only [List.setIfInBounds_toArray, List.set_cons_zero, List.set_cons_succ]
      refine take_at (i := 5) 10 rfl rfl (by kernel_rfl) (by kernel_rfl) (by kernel_rfl) (fun _ _ _ h => h) (sure_yes (by rfl) (fun w => by go_simp; try with_reducible rfl)) hHeld ?_
      simp only [List.setIfInBounds_toArray, List.set_cons_zero, List.set_cons_succ]
      refine take_at (i := 6) 11 rfl rfl (by kernel_rfl) (by kernel_rfl) (by kernel_rfl) (fun _ _ _ h => h) (sure_yes (by rfl) (fun w => by go_simp; try with_reducible rfl)) hHeld ?_
      simp only [List.setIfInBounds_toArray, List.set_cons_zero, List.set_cons_succ]
      refine take_at (i := 7) 12 rfl rfl (by kernel_rfl) (by kernel_rfl) (by kernel_rfl) (fun _ _ _ h => h) (sure_yes (by rfl) (fun w => by go_simp; try with_reducible rfl)) hHeld ?_
      simp only [List.setIfInBounds_toArray, List.set_cons_zero, List.set_cons_succ]
      refine take_at (i := 8) 13 rfl rfl (by kernel_rfl) (by kernel_rfl) (by kernel_rfl) (fun _ _ _ h => h) (sure_yes (by rfl) (fun w => by go_simp; try with_reducible rfl)) hHeld ?_
      simp only [List.setIfInBounds_toArray, List.set_cons_zero, List.set_cons_succ]
      refine take_at (i := 9) 14 rfl rfl (by kernel_rfl) (by kernel_rfl) (by kernel_rfl) (fun _ _ _ h => h) (sure_yes (by rfl) (fun w => by go_simp; try with_reducible rfl)) hHeld ?_
      simp only [List.setIfInBounds_toArray, List.set_cons_zero, List.set_cons_succ]
      refine take_at (i := 10) 15 rfl rfl (by kernel_rfl) (by kernel_rfl) (by kernel_rfl) (fun _ _ _ h => h) (sure_yes (by rfl) (fun w => by go_simp; try with_reducible rfl)) hHeld ?_
      simp only [List.setIfInBounds_toArray, List.set_cons_zero, List.set_cons_succ]
      refine take_at (i := 11) 16 rfl rfl (by kernel_rfl) (by kernel_rfl) (by kernel_rfl) (fun _ _ _ h => h) (sure_yes (by rfl) (fun w => by go_simp; try with_reducible rfl)) hHeld ?_
      simp only [List.setIfInBounds_toArray, List.set_cons_zero, List.set_cons_succ]
      refine take_at (i := 12) 17 rfl rfl (by kernel_rfl) (by kernel_rfl) (by kernel_rfl) (fun _ _ _ h => h) (sure_yes (by rfl) (fun w => by go_simp; try with_reducible rfl)) hHeld ?_
      simp only [List.setIfInBounds_toArray, List.set_cons_zero, List.set_cons_succ]
      refine take_at (i := 14) 19 rfl rfl (by kernel_rfl) (by kernel_rfl) (by kernel_rfl) (fun _ _ _ h => h) (sure_yes (by rfl) (fun w => by go_simp; try with_reducible rfl)) hHeld ?_
      simp only [List.setIfInBounds_toArray, List.set_cons_zero, List.set_cons_succ]
      refine take_at (i := 13) 18 rfl rfl (by kernel_rfl) (by kernel_rfl) (by kernel_rfl) (fun _ _ _ h => h) (addr_yields (by rfl) 3 (.tmp 17) rfl (ad.add (j * 2)) rfl .i64 r0 Tryd.underlying3 (fun w h => (World.cell?_of_block (h.block _ (World.block_lt_of_cell? _ _ CD.out))).trans CD.out)) hHeld ?_
      simp only [List.setIfInBounds_toArray, List.set_cons_zero, List.set_cons_succ]
      refine take_at (i := 15) 20 rfl rfl (by kernel_rfl) (by kernel_rfl) (by kernel_rfl) (fun _ _ _ h => h) (cell_yields (by rfl) 3 (.tmp 19) rfl w.heap.size 0 rfl .i64 r Tryd.underlying3 (fun w h => (World.cell?_of_block (h.block _ (World.block_lt_of_cell? _ _ C0.out))).trans C0.out)) hHeld ?_
      simp only [List.setIfInBounds_toArray, List.set_cons_zero, List.set_cons_succ]
      refine take_at (i := 16) 21 rfl rfl (by kernel_rfl) (by kernel_rfl) (by kernel_rfl) (fun _ _ _ h => h) (sure_yes (by rfl) (fun w => by go_simp; try with_reducible rfl)) hHeld ?_
      simp only [List.setIfInBounds_toArray, List.set_cons_zero, List.set_cons_succ]
      refine take_at (i := 17) 22 rfl rfl (by kernel_rfl) (by kernel_rfl) (by kernel_rfl) (fun _ _ _ h => h) (sure_yes (by rfl) (fun w => by go_simp; try with_reducible rfl)) hHeld ?_
      simp only [List.setIfInBounds_toArray, List.set_cons_zero, List.set_cons_succ]
      refine take_at (i := 18) 23 rfl rfl (by kernel_rfl) (by kernel_rfl) (by kernel_rfl) (fun _ _ _ h => h) (sure_yes (by rfl) (fun w => by go_simp; try with_reducible rfl)) hHeld ?_
      simp only [List.setIfInBounds_toArray, List.set_cons_zero, List.set_cons_succ]
      refine take_at (i := 19) 4 rfl rfl (by kernel_rfl) (by kernel_rfl) (by kernel_rfl) (fun _ _ _ h => h) (sure_yes (by rfl) (fun w => by go_simp; try with_reducible rfl)) hHeld ?_
      simp only [List.setIfInBounds_toArray, List.set_cons_zero, List.set_cons_succ]
      refine wpAnyH_done (by kernel_rfl) ?_ _
      go_wp2
      go_ret
      exact ⟨by rw [HR.out]; rfl, below_next B0.out hHeld⟩
set_option maxRecDepth 100000 in
set_option maxHeartbeats 16000000 in
theorem vecMay_any (l : List D2) (hl : l.length < 2000000) (v : Value) (w : World) (hv : HasDots w v l) : Calls Tryd.prog 10 #[v] w fun e w' => e = .returned (.bool (mayV l)) ∧ Below w.heap.size w w' := by
  have HV := Lib.hid hv
  obtain ⟨n, hn⟩ : ∃ n, n = l.length := ⟨_, rfl⟩
  obtain ⟨ao, cap, rfl⟩ := dots_shape hv n hn
  have HN := Lib.hid hn
  have hn4 : n < 2000000 := by omega
  clear hn hv hl
  go_enter Tryd.func10, Tryd.ntmps10
  go_wp2
  go_loopw [7] (fun c wr => ∃ k : Nat, k ≤ n ∧ c = .int .i64 (k : Int) ∧ mayV (l.take k) = true ∧ Below w.heap.size w wr) (fun c _ => n - (intOf c).toNat)
  case atStart => exact ⟨0, Nat.zero_le _, rfl, mayV_nil, Below.refl _ _⟩
  case round =>
    obtain ⟨k, hk, rfl, hok, hb⟩ := hrel
    by_cases hlt : k < n
    · have q0 : (k : Int) < (n : Int) := by omega
      have hkl : k < l.length := by rw [← HN.out]; exact hlt
      obtain ⟨d, hd⟩ : ∃ d, l[k]? = some d := ⟨_, List.getElem?_eq_getElem hkl⟩
      have HA := Lib.hid (mayV_take hd)
      obtain ⟨r, q⟩ := d
      have HVr := dots_below HV.out hb
      obtain ⟨ad, cap', e, c0, c1⟩ := dots_at HVr n k HN.out.symm _ hd
      cases e
      have C0 := Lib.hid (And.intro c0 c1)
      have KK := Lib.hid (show k + 1 ≤ n ∧ n - (k + 1) < n - k by omega)
      have D0 := Lib.hid (heap_last wr (.cells #[.int .i64 r, .int .i64 q] 25 (0, 0)))
      have B0 := Lib.hid (hb.alloc hb.size (.cells #[.int .i64 r, .int .i64 q] 25 (0, 0)))
      have HT := Lib.hid (dots_below (dots_part HVr k hk HN.out) ((Below.refl wr.heap.size wr).alloc (Nat.le_refl _) (.cells #[.int .i64 r, .int .i64 q] 25 (0, 0))))
      have MF := Lib.hid (fun w hv => mayFollow_any (l.take k) (by rw [List.length_take]; omega) r q (.slice (some ad) k cap) w hv)
      have q1 : (k : Int) ≤ (cap : Int) := by obtain ⟨ao, c', e, -, hc⟩ := HVr; injection e with e1 e2 e3; subst e3; have := (hc ad e1.symm).1; have := HN.out; omega
      have HO := Lib.hid hok
      obtain ⟨B, hB⟩ : ∃ B, fol (l.take k) (r, q) = B := ⟨_, rfl⟩
      rw [hB] at MF HA
      clear c0 c1 hb hd hkl HVr hok hB
      go_wp2_with (first
        | (refine load_dot10 (by rfl) 25 (.tmp 10) rfl (ad.add (k * 2)) rfl r q Tryd.underlying25 (by kernel_rfl) C0.out ?_))
      generalize wr.alloc (.cells #[.int .i64 r, .int .i64 q] 25 (0, 0)) = W1 at *
      refine wp_region_held_drew (S := fun w' => Below W1.heap.size W1 w') (by kernel_rfl) (drawS (Below.refl _ _)) (fun hHeld => ?_)
      generalize W1.drew = wd at hHeld ⊢
      refine take_at (i := 0) 12 rfl rfl (by kernel_rfl) (by kernel_rfl) (by kernel_rfl) (fun _ _ _ h => h) (sure_yes (by rfl) (fun w => by go_simp; try with_reducible rfl)) hHeld ?_
      simp only [List.setIfInBounds_toArray, List.set_cons_zero, List.set_cons_succ]
      refine take_at (i := 1) 13 rfl rfl (by kernel_rfl) (by kernel_rfl) (by kernel_rfl) (fun _ _ _ h => h) (sure_yes (by rfl) (fun w => by go_simp; try with_reducible rfl)) hHeld ?_
      simp only [List.setIfInBounds_toArray, List.set_cons_zero, List.set_cons_succ]
      refine take_at (i := 2) 14 rfl rfl (by kernel_rfl) (by kernel_rfl) (by kernel_rfl) (fun _ _ _ h => h) (sure_yes (by rfl) (fun w => by go_simp; try with_reducible rfl)) hHeld ?_
      simp only [List.setIfInBounds_toArray, List.set_cons_zero, List.set_cons_succ]
      refine take_at (i := 3) 15 rfl rfl (by kernel_rfl) (by kernel_rfl) (by kernel_rfl) (fun _ _ _ h => h) (row_yields (by rfl) 25 (.tmp 4) rfl wr.heap.size rfl 25 _ (0, 0) _ Tryd.underlying25 rfl (by kernel_rfl) (fun _ h => row_kept D0.out h)) hHeld ?_
      simp only [List.setIfInBounds_toArray, List.set_cons_zero, List.set_cons_succ]
      refine wpAnyH_ready (rs := [4]) (by kernel_rfl) (by simp) ?_
      refine AllReadyH.cons rfl (fun K hK => ?_) AllReadyH.nil
      go_simp
      go_at_call 32
      refine (MF.out _ (dots_below HT.out hHeld)).mono ?_
      rintro e w6 ⟨rfl, hb⟩
      dsimp only
      refine hK.out _ _ (below_next hHeld hb) (fun hHeld => ?_)
      clear hK K hb
      refine take_at (i := 5) 17 rfl rfl (by kernel_rfl) (by kernel_rfl) (by kernel_rfl) (fun _ _ _ h => h) (sure_yes (by rfl) (fun w => by go_simp; try with_reducible rfl)) hHeld ?_
      simp only [List.setIfInBounds_toArray, List.set_cons_zero, List.set_cons_succ]
      refine wpAnyH_done (by kernel_rfl) ?_ _
      cases B with
      | true =>
        go_wp2
        refine ⟨⟨k + 1, KK.out.1, by simp, by rw [HA.out, HO.out]; rfl, below_next B0.out hHeld⟩, ?_⟩
        simp [intOf]; exact KK.out.2
      | false =>
        have HF := Lib.hid (mayV_ahead (l := l) (k := k + 1) (by rw [HA.out, HO.out]; rfl))
        go_wp2
        go_ret
        exact ⟨by rw [HF.out]; rfl, below_next B0.out hHeld⟩
    · have q0 : ¬ (k : Int) < (n : Int) := by omega
      have HE := Lib.hid (show l.take k = l by rw [show k = l.length by rw [← HN.out]; omega, List.take_length])
      rw [HE.out] at hok
      have HO := Lib.hid hok
      have HB := Lib.hid hb
      clear hok hb
      go_wp2
      go_ret
      exact ⟨by rw [HO.out]; rfl, HB.out⟩
end Go.Proofs.YtoephjmjlhgjeaaDoor
namespace Go.Proofs.YtoephjmjlhgjeaaDoor
open Go.RowKit
/-- What worth answers. -/
def worthI (c : UInt8) : Nat := match fig c with | some n => n | none => 16
theorem worth_any (c : UInt8) (w : World) : Calls Tryd.prog 61 #[.int .u8 (c.toNat : Int)] w fun e w' => e = .returned (.int .u8 (worthI c : Int)) ∧ w = w' := by
  obtain ⟨x, hx⟩ : ∃ x : Nat, x = c.toNat := ⟨_, rfl⟩
  have hxlt := UInt8.toNat_lt c
  have HX := Lib.hid hx
  rw [← hx] at hxlt ⊢
  clear hx
  by_cases h1 : 48 ≤ x ∧ x ≤ 57
  · have HW := Lib.hid (show worthI c = x - 48 by unfold worthI fig; rw [← HX.out, if_pos h1])
    obtain ⟨d, hd⟩ : ∃ d : Nat, d = x - 48 := ⟨_, rfl⟩
    have b1 : decide ((48 : Int) ≤ (x : Int)) = true := decide_eq_true (by omega)
    have b2 : decide ((x : Int) ≤ 57) = true := decide_eq_true (by omega)
    have e1 : (x : Int) - 48 = (d : Int) := by omega
    have e2 : IntKind.u8.wrap (d : Int) = (d : Int) := by rw [IntKind.wrap_u8]; omega
    have HD := Lib.hid hd
    clear hd h1 hxlt
    go_enter Tryd.func61, Tryd.ntmps61
    go_wp2
    go_ret
    exact ⟨by rw [HW.out, ← HD.out]; rfl, rfl⟩
  · by_cases h2 : 97 ≤ x ∧ x ≤ 102
    · have HW := Lib.hid (show worthI c = x - 87 by unfold worthI fig; rw [← HX.out, if_neg h1, if_pos h2])
      obtain ⟨d, hd⟩ : ∃ d : Nat, d = x - 97 := ⟨_, rfl⟩
      obtain ⟨g, hg⟩ : ∃ g : Nat, g = d + 10 := ⟨_, rfl⟩
      have b1 : decide ((48 : Int) ≤ (x : Int)) = true := decide_eq_true (by omega)
      have b2 : decide ((x : Int) ≤ 57) = false := decide_eq_false (by omega)
      have b3 : decide ((97 : Int) ≤ (x : Int)) = true := decide_eq_true (by omega)
      have b4 : decide ((x : Int) ≤ 102) = true := decide_eq_true (by omega)
      have e1 : (x : Int) - 97 = (d : Int) := by omega
      have e2 : IntKind.u8.wrap (d : Int) = (d : Int) := by rw [IntKind.wrap_u8]; omega
      have e3 : (d : Int) + 10 = (g : Int) := by omega
      have e4 : IntKind.u8.wrap (g : Int) = (g : Int) := by rw [IntKind.wrap_u8]; omega
      have HD := Lib.hid (show g = x - 87 by omega)
      clear hd hg h1 h2 hxlt
      go_enter Tryd.func61, Tryd.ntmps61
      go_wp2
      go_ret
      exact ⟨by rw [HW.out, ← HD.out]; rfl, rfl⟩
    · have HW := Lib.hid (show worthI c = 16 by unfold worthI fig; rw [← HX.out, if_neg h1, if_neg h2])
      by_cases c1 : 48 ≤ x
      · have b1 : decide ((48 : Int) ≤ (x : Int)) = true := decide_eq_true (by omega)
        have b2 : decide ((x : Int) ≤ 57) = false := decide_eq_false (by omega)
        by_cases c2 : 97 ≤ x
        · have b3 : decide ((97 : Int) ≤ (x : Int)) = true := decide_eq_true (by omega)
          have b4 : decide ((x : Int) ≤ 102) = false := decide_eq_false (by omega)
          clear h1 h2 c1 c2 hxlt
          go_enter Tryd.func61, Tryd.ntmps61
          go_wp2
          go_ret
          exact ⟨by rw [HW.out]; rfl, rfl⟩
        · have b3 : decide ((97 : Int) ≤ (x : Int)) = false := decide_eq_false (by omega)
          clear h1 h2 c1 c2 hxlt
          go_enter Tryd.func61, Tryd.ntmps61
          go_wp2
          go_ret
          exact ⟨by rw [HW.out]; rfl, rfl⟩
      · have b1 : decide ((48 : Int) ≤ (x : Int)) = false := decide_eq_false (by omega)
        have b3 : decide ((97 : Int) ≤ (x : Int)) = false := decide_eq_false (by omega)
        clear h1 h2 c1 hxlt
        go_enter Tryd.func61, Tryd.ntmps61
        go_wp2
        go_ret
        exact ⟨by rw [HW.out]; rfl, rfl⟩
theorem dec_digs (m : Nat) : Lib.decDigits m = digs m := by
  induction m using Nat.strongRecOn with
  | _ m ih =>
    by_cases h : m < 10
    · rw [digs_lo m h, Lib.decDigits, dif_pos h]
    · rw [digs_hi m (by omega), Lib.decDigits, dif_neg h, ih _ (by omega)]
theorem itoa_num (n : Int) : Lib.itoa n = numL n := by
  unfold Lib.itoa numL
  by_cases h : n < 0
  · rw [if_pos h, if_pos h, dec_digs]
  · rw [if_neg h, if_neg h, dec_digs]; congr 1; omega
theorem number_any (w : World) (n : Int) (h0 : -9223372036854775808 ≤ n) (h1 : n < 9223372036854775808) (hT : PowTab w) :
    Calls Tryd.prog 52 #[.int .i64 n] w fun e w' => e = .returned (.string (str (numL n))) ∧ Below w.heap.size w w' := by
  have HC := Lib.hid (Tryd.strconv_FormatInt_10 n h0 (by omega) w hT)
  go_enter Tryd.func52, Tryd.ntmps52
  go_wp2_with (first | (go_at_call 62; refine HC.out.mono ?_; rintro e w' ⟨rfl, k, os, rfl⟩))
  go_ret
  exact ⟨by rw [itoa_num]; rfl, ⟨rfl, rfl, rfl, by simp [Sort.grow, World.drewN], fun i hi => Array.getElem?_append_left hi⟩⟩
end Go.Proofs.YtoephjmjlhgjeaaDoor
namespace Go.Proofs.YtoephjmjlhgjeaaDoor
open Go.RowKit
theorem worth_dig {c : UInt8} (h : isDig c = true) : worthI c = c.toNat - 48 ∧ worthI c ≤ 9 := by
  simp only [isDig, Bool.and_eq_true, decide_eq_true_eq] at h
  have : worthI c = c.toNat - 48 := by unfold worthI fig; rw [if_pos h]
  omega
theorem worth_nodig {c : UInt8} (h : ¬ isDig c = true) : 9 < worthI c := by
  simp only [isDig, Bool.and_eq_true, decide_eq_true_eq] at h
  unfold worthI fig
  rw [if_neg h]
  by_cases h2 : 97 ≤ c.toNat ∧ c.toNat ≤ 102
  · rw [if_pos h2]; show 9 < c.toNat - 87; omega
  · rw [if_neg h2]; decide
theorem val_next (s : List UInt8) (k : Nat) (c : UInt8) (hc : s[k]? = some c) : valN (s.take (k + 1)) = 10 * valN (s.take k) + (c.toNat - 48) := by
  obtain ⟨hk, rfl⟩ := List.getElem?_eq_some_iff.1 hc
  rw [List.take_succ_eq_append_getElem hk, valN_snoc]
theorem val_take_le (s : List UInt8) (k m : Nat) (h : k ≤ m) : valN (s.take k) ≤ valN (s.take m) := by
  induction m with
  | zero => obtain rfl : k = 0 := by omega
            exact Nat.le_refl _
  | succ m ih =>
    rcases Nat.lt_or_ge k (m + 1) with h' | h'
    · have h1 := ih (by omega)
      rcases Nat.lt_or_ge m s.length with hm | hm
      · have := val_next s m s[m] (List.getElem?_eq_getElem hm); omega
      · rw [List.take_of_length_le (show s.length ≤ m + 1 by omega)]
        rwa [List.take_of_length_le hm] at h1
    · obtain rfl : k = m + 1 := by omega
      exact Nat.le_refl _
theorem num_over (s : List UInt8) (k : Nat) (c : UInt8) (hc : s[k]? = some c) (h : 9223372036854775808 ≤ 10 * valN (s.take k) + (c.toNat - 48)) : isNum s = false := by
  have h1 := val_next s k c hc
  have hk := (List.getElem?_eq_some_iff.1 hc).1
  have h2 := val_take_le s (k + 1) s.length (by omega)
  rw [List.take_length] at h2
  cases hn : isNum s with
  | false => rfl
  | true => have := (isNum_val hn).1; omega
theorem num_nodig (s : List UInt8) (c : UInt8) (hc : c ∈ s) (h : ¬ isDig c = true) : isNum s = false := by
  cases hn : isNum s with
  | false => rfl
  | true =>
    simp only [isNum, Bool.and_eq_true, List.all_eq_true] at hn
    exact absurd (hn.2.1 c hc) h
theorem digs_first (m : Nat) (h : (digs m)[0]? = some 48) : m = 0 := by
  induction m using Nat.strongRecOn with
  | _ m ih =>
    by_cases h10 : m < 10
    · rw [digs_lo m h10] at h
      have h1 : UInt8.ofNat (48 + m) = 48 := by simpa using h
      have h2 := dig_toNat m h10
      rw [h1, show (48 : UInt8).toNat = 48 from rfl] at h2
      omega
    · rw [digs_hi m (by omega), List.getElem?_append_left (digs_pos _)] at h
      have := ih (m / 10) (by omega) h
      omega
theorem num_lead (s : List UInt8) (h : s[0]? = some 48) (hs : s ≠ [48]) : isNum s = false := by
  cases hn : isNum s with
  | false => rfl
  | true =>
    have h1 := (isNum_val hn).2
    rw [← h1] at h
    have h2 := digs_first _ h
    rw [h2, digs_lo 0 (by omega)] at h1
    exact absurd h1.symm hs
theorem digs_val (n : Nat) : ∀ s : List UInt8, s.length = n → s ≠ [] → (∀ c ∈ s, isDig c = true) → (s[0]? = some 48 → s = [48]) → digs (valN s) = s := by
  induction n with
  | zero => intro s hl hne; exact absurd (List.eq_nil_of_length_eq_zero hl) hne
  | succ n ih =>
    intro s hl hne hd h0
    rcases List.eq_nil_or_concat s with rfl | ⟨t, c, rfl⟩
    · exact absurd rfl hne
    · rw [List.concat_eq_append] at *
      have hc := hd c (by simp)
      simp only [isDig, Bool.and_eq_true, decide_eq_true_eq] at hc
      have hcc : UInt8.ofNat (48 + (c.toNat - 48)) = c := by
        apply UInt8.toNat_inj.1
        rw [dig_toNat _ (by omega)]; omega
      rw [valN_snoc]
      by_cases ht : t = []
      · subst ht
        rw [valN_nil, digs_lo _ (by omega)]
        simp [hcc]
      · have ht0 : 0 < t.length := List.length_pos_iff.2 ht
        have hlt : t.length = n := by simpa using hl
        have hf : t[0]? ≠ some 48 := fun h => by
          have := h0 (by rw [List.getElem?_append_left ht0]; exact h)
          have := congrArg List.length this
          exact ht (by simpa using this)
        have h1 := ih t hlt ht (fun c hc => hd c (by simp [hc])) (fun h => absurd h hf)
        have hpos : 0 < valN t := by
          rcases Nat.eq_zero_or_pos (valN t) with h | h
          · rw [h, digs_lo 0 (by omega)] at h1
            rw [← h1] at hf
            exact absurd rfl hf
          · exact h
        rw [digs_hi _ (by omega), show (10 * valN t + (c.toNat - 48)) / 10 = valN t from by omega, show (10 * valN t + (c.toNat - 48)) % 10 = c.toNat - 48 from by omega, h1, hcc]
theorem num_good (s : List UInt8) (hne : s ≠ []) (hd : ∀ c ∈ s, isDig c = true) (h0 : s[0]? = some 48 → s = [48]) (hv : valN s < 9223372036854775808) : isNum s = true := by
  have h1 := digs_val s.length s rfl hne hd h0
  have h2 := digs_length 19 (valN s) (by omega) (by omega)
  rw [h1] at h2
  have he : s.isEmpty = false := by cases s with | nil => exact absurd rfl hne | cons a l => rfl
  have hall : s.all isDig = true := List.all_eq_true.2 hd
  simp [isNum, he, h2, hall, hv, h1]
theorem wrap_nat (p : Nat) (h : p < 9223372036854775808) : IntKind.i64.wrap (p : Int) = (p : Int) := by rw [IntKind.wrap_i64]; omega
theorem next_i64 (k : Nat) (h : k + 1 < 9223372036854775808) : wrap64 ((k : Int) + 1) = ((k + 1 : Nat) : Int) := by rw [wrap64]; omega
theorem read_step (v g : Nat) (hg : g ≤ 9) : ∃ M D : Int, (9223372036854775807 : Int) - (g : Int) = M ∧ IntKind.i64.wrap M = M ∧ M / (10 : Int) = D ∧ IntKind.i64.wrap D = D ∧ M.tdiv 10 = D ∧
    (D < (v : Int) → 9223372036854775808 ≤ 10 * v + g) ∧ (¬ D < (v : Int) → 10 * v + g < 9223372036854775808) := by
  refine ⟨_, _, rfl, by rw [IntKind.wrap_i64]; omega, rfl, by rw [IntKind.wrap_i64]; omega, Int.tdiv_eq_ediv_of_nonneg (by omega), fun h => by omega, fun h => by omega⟩
/-- What holds where a text that is no number's is left. -/
def LeftRead (s : List UInt8) (w : World) : Act → World → Prop := fun a' w' => (∃ u0' u1' u2' u3' u4' u5' u6' u7' u8' u9' u10' u11' u12' u13' u14' u15' u16' u17' u18' u19' u20' u21' u22' u23' u24' u25' u26' u27' u28' u29' u30' u31' u32' u33' u34' u35' u36' u37' u38' u39' u40' u41' u42' u43' u44' u45' u46' : Value, a' = { tmps := #[u0', u1', u2', u3', u4', u5', u6', u7', u8', u9', u10', u11', u12', u13', u14', u15', u16', u17', u18', u19', u20', u21', u22', u23', u24', u25', u26', u27', u28', u29', u30', u31', u32', u33', u34', u35', u36', u37', u38', u39', u40', u41', u42', u43', u44', u45', u46'], defers := [] }) ∧ isNum s = false ∧ w' = w
set_option maxRecDepth 100000 in
set_option maxHeartbeats 8000000 in
theorem read_any (w : World) (s : List UInt8) (most : Int) (hs : s.length < 9223372036854775808) : Calls Tryd.prog 50 #[.string (str s), .int .i64 most] w fun e w' => e = .returned (.tuple #[.int .i64 (readN s most), .int .i64 (readErr s most)]) ∧ Below w.heap.size w w' := by
  obtain ⟨n, hn⟩ : ∃ n, n = s.length := ⟨_, rfl⟩
  have HN := Lib.hid hn
  have hsz : (str s).size = n := by rw [str_size, hn]
  have hl : (str s).toList = s := str_toList s
  have HS := Lib.hid hs
  clear hn hs
  go_enter Tryd.func50, Tryd.ntmps50
  go_wp2
  refine wp_scope_jumps 0 (LeftRead s w) (fun _ _ => 0) rfl ?_ ?_
  · by_cases he : s = []
    · subst he
      go_wp2
      go_step3
      exact ⟨rfl, ⟨_, _, _, _, _, _, _, _, _, _, _, _, _, _, _, _, _, _, _, _, _, _, _, _, _, _, _, _, _, _, _, _, _, _, _, _, _, _, _, _, _, _, _, _, _, _, _, rfl⟩, rfl, rfl⟩
    · obtain ⟨c0, hc0⟩ : ∃ c, s[0]? = some c := by cases s with | nil => exact absurd rfl he | cons a l => exact ⟨a, rfl⟩
      obtain ⟨x, hx⟩ : ∃ x, c0.toNat = x := ⟨_, rfl⟩
      have i0 : ∀ w, (Instr.index 9 (.string (str s)) (.int .i64 0)).run Tryd.prog w = .ok (.int .u8 (x : Int)) w := fun w => by rw [← hx]; exact index_str (P := Tryd.prog) w s .i64 0 c0 hc0 Tryd.underlying9
      have te : (s == []) = false := by rw [beq_eq_false_iff_ne]; exact he
      have HX := Lib.hid (And.intro hx hc0)
      have HE := Lib.hid he
      clear hx hc0 he
      by_cases h48 : x = 48
      · have hc48 : s[0]? = some 48 := by
          rw [HX.out.2]; congr 1; exact UInt8.toNat_inj.1 (by rw [HX.out.1, h48]; rfl)
        replace i0 : ∀ w, (Instr.index 9 (.string (str s)) (.int .i64 0)).run Tryd.prog w = .ok (.int .u8 48) w := fun w => by have := i0 w; rwa [h48] at this
        clear HX h48
        by_cases hs48 : s = [48]
        · have HL := Lib.hid (show s[0]? = some 48 → s = [48] from fun _ => hs48)
          have tb : (s == [48]) = true := by rw [beq_iff_eq]; exact hs48
          clear hs48 hc48
          go_wp2
          clear tb te i0
          go_loopw [6, 22] (fun x c wr => wr = w ∧ ∃ k : Nat, k ≤ n ∧ c = .int .i64 k ∧ (∃ v : Nat, v = valN (s.take k) ∧ v < 9223372036854775808 ∧ x = .int .i64 v) ∧ ∀ j, j < k → ∀ c, s[j]? = some c → isDig c = true) (fun _ c _ => n - (intOf c).toNat)
          case atStart => exact ⟨rfl, 0, by omega, rfl, ⟨0, by rw [List.take_zero, valN_nil], by omega, rfl⟩, fun j hj => by omega⟩
          case round =>
            obtain ⟨rfl, k, hk, rfl, ⟨v, hv, hv63, rfl⟩, hall⟩ := hrel
            have HA := Lib.hid hall
            have HV := Lib.hid (And.intro hv hv63)
            clear hall hv hv63
            by_cases hlt : k < n
            · obtain ⟨c, hc⟩ : ∃ c, s[k]? = some c := ⟨s[k]'(by have := HN.out; omega), List.getElem?_eq_getElem _⟩
              have i1 := fun w => index_str (P := Tryd.prog) w s .i64 k c hc Tryd.underlying9
              have HC := Lib.hid hc
              have q0 : (k : Int) < (n : Int) := by omega
              have w64 := next_i64 k (by have := HS.out; have := HN.out; omega)
              obtain ⟨g, hg⟩ : ∃ g, worthI c = g := ⟨_, rfl⟩
              have HW := Lib.hid (show ∀ w, Calls Tryd.prog 61 #[.int .u8 (c.toNat : Int)] w fun e w' => e = .returned (.int .u8 (g : Int)) ∧ w = w' from fun w => by have := worth_any c w; rwa [hg] at this)
              have HG := Lib.hid hg
              clear hc hg
              by_cases hdg : isDig c = true
              · have hw9 := worth_dig hdg
                rw [HG.out] at hw9
                have hg9 : g ≤ 9 := hw9.2
                have t1 : decide ((9 : Int) < (g : Int)) = false := decide_eq_false (by omega)
                have e1 := wrap_nat g (by omega)
                obtain ⟨M, D, hM, e2, hD, e3, e3', hlow, hhigh⟩ := read_step v g hg9
                have HDG := Lib.hid hdg
                by_cases hov : D < (v : Int)
                · have t2 : decide (D < (v : Int)) = true := decide_eq_true hov
                  have HBAD := Lib.hid (show isNum s = false from num_over s k c HC.out (by rw [← HV.out.1, ← hw9.1]; exact hlow hov))
                  clear hov hg9 hw9 hdg hlow hhigh
                  go_wp2_with (first | (go_at_call 61; refine (HW.out _).mono ?_; rintro e w' ⟨rfl, rfl⟩))
                  go_step3
                  exact ⟨rfl, ⟨_, _, _, _, _, _, _, _, _, _, _, _, _, _, _, _, _, _, _, _, _, _, _, _, _, _, _, _, _, _, _, _, _, _, _, _, _, _, _, _, _, _, _, _, _, _, _, rfl⟩, HBAD.out, rfl⟩
                · have t2 : decide (D < (v : Int)) = false := decide_eq_false hov
                  obtain ⟨p, hp⟩ : ∃ p : Nat, p = 10 * v := ⟨_, rfl⟩
                  obtain ⟨q, hq⟩ : ∃ q : Nat, q = p + g := ⟨_, rfl⟩
                  have f1 : (10 : Int) * (v : Int) = (p : Int) := by omega
                  have hpq := hhigh hov
                  have f2 := wrap_nat p (by omega)
                  have f3 : (p : Int) + (g : Int) = (q : Int) := by omega
                  have f4 := wrap_nat q (by omega)
                  have HQ := Lib.hid (show q = valN (s.take (k + 1)) ∧ q < 9223372036854775808 from ⟨by rw [val_next s k c HC.out, ← HV.out.1, ← hw9.1, hq, hp], by omega⟩)
                  clear hov hg9 hw9 hdg hp hq hlow hhigh hpq
                  go_wp2_with (first | (go_at_call 61; refine (HW.out _).mono ?_; rintro e w' ⟨rfl, rfl⟩))
                  clear hM e2 hD e3 e3' f1 f2 f3 f4 e1 t1 t2
                  refine ⟨⟨trivial, k + 1, by omega, by go_num, ⟨q, HQ.out.1, HQ.out.2, rfl⟩, fun j hj c' hc' => ?_⟩, by rw [w64]; show n - ((k + 1 : Nat) : Int).toNat < n - (k : Int).toNat; rw [Int.toNat_natCast, Int.toNat_natCast]; omega⟩
                  rcases Nat.lt_or_ge j k with h | h
                  · exact HA.out j h c' hc'
                  · obtain rfl : j = k := by omega
                    rw [HC.out] at hc'; cases hc'; exact HDG.out
              · have hw9 := worth_nodig hdg
                rw [HG.out] at hw9
                have t1 : decide ((9 : Int) < (g : Int)) = true := decide_eq_true (by omega)
                have HBAD := Lib.hid (show isNum s = false from num_nodig s c (List.mem_of_getElem? HC.out) hdg)
                clear hw9 hdg
                go_wp2_with (first | (go_at_call 61; refine (HW.out _).mono ?_; rintro e w' ⟨rfl, rfl⟩))
                go_step3
                exact ⟨rfl, ⟨_, _, _, _, _, _, _, _, _, _, _, _, _, _, _, _, _, _, _, _, _, _, _, _, _, _, _, _, _, _, _, _, _, _, _, _, _, _, _, _, _, _, _, _, _, _, _, rfl⟩, HBAD.out, rfl⟩
            · obtain rfl : k = n := by omega
              have hq : decide ((k : Int) < (k : Int)) = false := decide_eq_false (by omega)
              have hnum : isNum s = true ∧ v = valN s := by
                have hv := HV.out.1
                rw [HN.out, List.take_length] at hv
                exact ⟨num_good s HE.out (fun c hc => by
                  obtain ⟨j, hj, rfl⟩ := List.mem_iff_getElem.1 hc
                  exact HA.out j (by rw [HN.out]; exact hj) _ (List.getElem?_eq_getElem hj)) HL.out (by rw [← hv]; exact HV.out.2), hv⟩
              by_cases hmo : most < (v : Int)
              · obtain ⟨h1, h2⟩ := read_over hnum.1 (show most < (valN s : Int) from hnum.2 ▸ hmo)
                have HP := Lib.hid (And.intro h1 h2)
                have t2 : decide (most < (v : Int)) = true := decide_eq_true hmo
                clear h1 h2 hnum hmo
                go_wp2
                simp only [Exit.jump]
                go_ret2
                exact ⟨by rw [HP.out.1, HP.out.2]; try rfl, Below.refl _ _⟩
              · obtain ⟨h1, h2⟩ := read_good hnum.1 (show ¬ most < (valN s : Int) from hnum.2 ▸ hmo)
                rw [← hnum.2] at h1
                have HP := Lib.hid (And.intro h1 h2)
                have t2 : decide (most < (v : Int)) = false := decide_eq_false hmo
                clear h1 h2 hnum hmo
                go_wp2
                simp only [Exit.jump]
                go_ret2
                exact ⟨by rw [HP.out.1, HP.out.2]; try rfl, Below.refl _ _⟩
        · have HBAD := Lib.hid (num_lead s hc48 hs48)
          have tb : (s == [48]) = false := by rw [beq_eq_false_iff_ne]; exact hs48
          clear hs48 hc48
          go_wp2
          go_step3
          exact ⟨rfl, ⟨_, _, _, _, _, _, _, _, _, _, _, _, _, _, _, _, _, _, _, _, _, _, _, _, _, _, _, _, _, _, _, _, _, _, _, _, _, _, _, _, _, _, _, _, _, _, _, rfl⟩, HBAD.out, rfl⟩
      · have tb : ((x : Int) == 48) = false := by rw [beq_eq_false_iff_ne]; omega
        have HL := Lib.hid (show s[0]? = some 48 → s = [48] from fun h => by
          rw [HX.out.2] at h; have h1 := HX.out.1; cases h; exact absurd h1.symm h48)
        clear HX h48
        go_wp2
        clear tb te i0
        go_loopw [6, 22] (fun x c wr => wr = w ∧ ∃ k : Nat, k ≤ n ∧ c = .int .i64 k ∧ (∃ v : Nat, v = valN (s.take k) ∧ v < 9223372036854775808 ∧ x = .int .i64 v) ∧ ∀ j, j < k → ∀ c, s[j]? = some c → isDig c = true) (fun _ c _ => n - (intOf c).toNat)
        case atStart => exact ⟨rfl, 0, by omega, rfl, ⟨0, by rw [List.take_zero, valN_nil], by omega, rfl⟩, fun j hj => by omega⟩
        case round =>
          obtain ⟨rfl, k, hk, rfl, ⟨v, hv, hv63, rfl⟩, hall⟩ := hrel
          have HA := Lib.hid hall
          have HV := Lib.hid (And.intro hv hv63)
          clear hall hv hv63
          by_cases hlt : k < n
          · obtain ⟨c, hc⟩ : ∃ c, s[k]? = some c := ⟨s[k]'(by have := HN.out; omega), List.getElem?_eq_getElem _⟩
            have i1 := fun w => index_str (P := Tryd.prog) w s .i64 k c hc Tryd.underlying9
            have HC := Lib.hid hc
            have q0 : (k : Int) < (n : Int) := by omega
            have w64 := next_i64 k (by have := HS.out; have := HN.out; omega)
            obtain ⟨g, hg⟩ : ∃ g, worthI c = g := ⟨_, rfl⟩
            have HW := Lib.hid (show ∀ w, Calls Tryd.prog 61 #[.int .u8 (c.toNat : Int)] w fun e w' => e = .returned (.int .u8 (g : Int)) ∧ w = w' from fun w => by have := worth_any c w; rwa [hg] at this)
            have HG := Lib.hid hg
            clear hc hg
            by_cases hdg : isDig c = true
            · have hw9 := worth_dig hdg
              rw [HG.out] at hw9
              have hg9 : g ≤ 9 := hw9.2
              have t1 : decide ((9 : Int) < (g : Int)) = false := decide_eq_false (by omega)
              have e1 := wrap_nat g (by omega)
              obtain ⟨M, D, hM, e2, hD, e3, e3', hlow, hhigh⟩ := read_step v g hg9
              have HDG := Lib.hid hdg
              by_cases hov : D < (v : Int)
              · have t2 : decide (D < (v : Int)) = true := decide_eq_true hov
                have HBAD := Lib.hid (show isNum s = false from num_over s k c HC.out (by rw [← HV.out.1, ← hw9.1]; exact hlow hov))
                clear hov hg9 hw9 hdg hlow hhigh
                go_wp2_with (first | (go_at_call 61; refine (HW.out _).mono ?_; rintro e w' ⟨rfl, rfl⟩))
                go_step3
                exact ⟨rfl, ⟨_, _, _, _, _, _, _, _, _, _, _, _, _, _, _, _, _, _, _, _, _, _, _, _, _, _, _, _, _, _, _, _, _, _, _, _, _, _, _, _, _, _, _, _, _, _, _, rfl⟩, HBAD.out, rfl⟩
              · have t2 : decide (D < (v : Int)) = false := decide_eq_false hov
                obtain ⟨p, hp⟩ : ∃ p : Nat, p = 10 * v := ⟨_, rfl⟩
                obtain ⟨q, hq⟩ : ∃ q : Nat, q = p + g := ⟨_, rfl⟩
                have f1 : (10 : Int) * (v : Int) = (p : Int) := by omega
                have hpq := hhigh hov
                have f2 := wrap_nat p (by omega)
                have f3 : (p : Int) + (g : Int) = (q : Int) := by omega
                have f4 := wrap_nat q (by omega)
                have HQ := Lib.hid (show q = valN (s.take (k + 1)) ∧ q < 9223372036854775808 from ⟨by rw [val_next s k c HC.out, ← HV.out.1, ← hw9.1, hq, hp], by omega⟩)
                clear hov hg9 hw9 hdg hp hq hlow hhigh hpq
                go_wp2_with (first | (go_at_call 61; refine (HW.out _).mono ?_; rintro e w' ⟨rfl, rfl⟩))
                clear hM e2 hD e3 e3' f1 f2 f3 f4 e1 t1 t2
                refine ⟨⟨trivial, k + 1, by omega, by go_num, ⟨q, HQ.out.1, HQ.out.2, rfl⟩, fun j hj c' hc' => ?_⟩, by rw [w64]; show n - ((k + 1 : Nat) : Int).toNat < n - (k : Int).toNat; rw [Int.toNat_natCast, Int.toNat_natCast]; omega⟩
                rcases Nat.lt_or_ge j k with h | h
                · exact HA.out j h c' hc'
                · obtain rfl : j = k := by omega
                  rw [HC.out] at hc'; cases hc'; exact HDG.out
            · have hw9 := worth_nodig hdg
              rw [HG.out] at hw9
              have t1 : decide ((9 : Int) < (g : Int)) = true := decide_eq_true (by omega)
              have HBAD := Lib.hid (show isNum s = false from num_nodig s c (List.mem_of_getElem? HC.out) hdg)
              clear hw9 hdg
              go_wp2_with (first | (go_at_call 61; refine (HW.out _).mono ?_; rintro e w' ⟨rfl, rfl⟩))
              go_step3
              exact ⟨rfl, ⟨_, _, _, _, _, _, _, _, _, _, _, _, _, _, _, _, _, _, _, _, _, _, _, _, _, _, _, _, _, _, _, _, _, _, _, _, _, _, _, _, _, _, _, _, _, _, _, rfl⟩, HBAD.out, rfl⟩
          · obtain rfl : k = n := by omega
            have hq : decide ((k : Int) < (k : Int)) = false := decide_eq_false (by omega)
            have hnum : isNum s = true ∧ v = valN s := by
              have hv := HV.out.1
              rw [HN.out, List.take_length] at hv
              exact ⟨num_good s HE.out (fun c hc => by
                obtain ⟨j, hj, rfl⟩ := List.mem_iff_getElem.1 hc
                exact HA.out j (by rw [HN.out]; exact hj) _ (List.getElem?_eq_getElem hj)) HL.out (by rw [← hv]; exact HV.out.2), hv⟩
            by_cases hmo : most < (v : Int)
            · obtain ⟨h1, h2⟩ := read_over hnum.1 (show most < (valN s : Int) from hnum.2 ▸ hmo)
              have HP := Lib.hid (And.intro h1 h2)
              have t2 : decide (most < (v : Int)) = true := decide_eq_true hmo
              clear h1 h2 hnum hmo
              go_wp2
              simp only [Exit.jump]
              go_ret2
              exact ⟨by rw [HP.out.1, HP.out.2]; try rfl, Below.refl _ _⟩
            · obtain ⟨h1, h2⟩ := read_good hnum.1 (show ¬ most < (valN s : Int) from hnum.2 ▸ hmo)
              rw [← hnum.2] at h1
              have HP := Lib.hid (And.intro h1 h2)
              have t2 : decide (most < (v : Int)) = false := decide_eq_false hmo
              clear h1 h2 hnum hmo
              go_wp2
              simp only [Exit.jump]
              go_ret2
              exact ⟨by rw [HP.out.1, HP.out.2]; try rfl, Below.refl _ _⟩
  · rintro a' w1 ⟨⟨u0', u1', u2', u3', u4', u5', u6', u7', u8', u9', u10', u11', u12', u13', u14', u15', u16', u17', u18', u19', u20', u21', u22', u23', u24', u25', u26', u27', u28', u29', u30', u31', u32', u33', u34', u35', u36', u37', u38', u39', u40', u41', u42', u43', u44', u45', u46', rfl⟩, hbad, rfl⟩
    obtain ⟨hp1, hp2⟩ := read_bad hbad most
    have HP := Lib.hid (And.intro hp1 hp2)
    clear hbad hp1 hp2 hl hsz
    go_wp2
    simp only [Exit.jump]
    go_ret2
    exact ⟨by rw [HP.out.1, HP.out.2]; try rfl, Below.refl _ _⟩
end Go.Proofs.YtoephjmjlhgjeaaDoor
namespace Go.Proofs.YtoephjmjlhgjeaaDoor
open Go.RowKit
set_option maxRecDepth 100000 in
set_option maxHeartbeats 4000000 in
theorem text_any9 (r q : Int) (hr : I64 r) (hq : I64 q) (w : World) (hT : PowTab w) : Calls Tryd.prog 44 #[.agg #[.int .i64 r, .int .i64 q]] w fun e w' => e = .returned (.string (str (textD r q))) ∧ Below w.heap.size w w' := by
  have HT := Lib.hid hT
  have N1 := Lib.hid (fun w hT => number_any w r hr.1 hr.2 hT)
  have N2 := Lib.hid (fun w hT => number_any w q hq.1 hq.2 hT)
  have HL := Lib.hid (And.intro (numL_length r hr.1 hr.2) (numL_length q hq.1 hq.2))
  obtain ⟨R, hR⟩ : ∃ R, numL r = R := ⟨_, rfl⟩
  obtain ⟨Q, hQ⟩ : ∃ Q, numL q = Q := ⟨_, rfl⟩
  obtain ⟨A1, hA1⟩ : ∃ A1, R ++ [58] = A1 := ⟨_, rfl⟩
  obtain ⟨A2, hA2⟩ : ∃ A2, A1 ++ Q = A2 := ⟨_, rfl⟩
  have HE := Lib.hid (show A2 = textD r q by rw [← hA2, ← hA1, ← hR, ← hQ]; simp [textD])
  have hA := Lib.hid (And.intro hA1 hA2)
  rw [hR] at N1 HL
  rw [hQ] at N2 HL
  have c0 : (w.alloc (.cells #[.int .i64 r, .int .i64 q] 25 (0, 0))).cell? ⟨w.heap.size, 0, none⟩ = some (.int .i64 r) := by rw [cell_of_row _ _ 0 _ _ _ (heap_last w _)]; rfl
  have c1 : (w.alloc (.cells #[.int .i64 r, .int .i64 q] 25 (0, 0))).cell? ⟨w.heap.size, 1, none⟩ = some (.int .i64 q) := by rw [cell_of_row _ _ 1 _ _ _ (heap_last w _)]; rfl
  have B0 := Lib.hid ((Below.refl w.heap.size w).alloc (Nat.le_refl _) (.cells #[.int .i64 r, .int .i64 q] 25 (0, 0)))
  clear hr hq hR hQ hA1 hA2 hT
  go_enter Tryd.func44, Tryd.ntmps44
  go_wp2
  refine wp_region_held_drew (S := fun w' => Below (w.alloc (.cells #[.int .i64 r, .int .i64 q] 25 (0, 0))).heap.size (w.alloc (.cells #[.int .i64 r, .int .i64 q] 25 (0, 0))) w') (by kernel_rfl) (below_draws (Below.refl _ _) 1) (fun hHeld => ?_)
  generalize (w.alloc (.cells #[.int .i64 r, .int .i64 q] 25 (0, 0))).drew = wd at hHeld ⊢
  refine take_at (i := 0) 3 rfl rfl (by kernel_rfl) (by kernel_rfl) (by kernel_rfl) (fun _ _ _ h => h) (sure_yes (by rfl) (fun w => by go_simp; try with_reducible rfl)) hHeld ?_
  simp only [List.setIfInBounds_toArray, List.set_cons_zero, List.set_cons_succ]
  refine take_at (i := 4) 7 rfl rfl (by kernel_rfl) (by kernel_rfl) (by kernel_rfl) (fun _ _ _ h => h) (sure_yes (by rfl) (fun w => by go_simp; try with_reducible rfl)) hHeld ?_
  simp only [List.setIfInBounds_toArray, List.set_cons_zero, List.set_cons_succ]
  refine take_at (i := 1) 4 rfl rfl (by kernel_rfl) (by kernel_rfl) (by kernel_rfl) (fun _ _ _ h => h) (cell_yields (by rfl) 3 (.tmp 3) rfl w.heap.size 0 rfl .i64 r Tryd.underlying3 (fun w' h => (cell_same (h.block w.heap.size (by simp)) 0).trans c0)) hHeld ?_
  simp only [List.setIfInBounds_toArray, List.set_cons_zero, List.set_cons_succ]
  refine take_at (i := 5) 8 rfl rfl (by kernel_rfl) (by kernel_rfl) (by kernel_rfl) (fun _ _ _ h => h) (cell_yields (by rfl) 2 (.tmp 7) rfl w.heap.size 1 rfl .i64 q Tryd.underlying2 (fun w' h => (cell_same (h.block w.heap.size (by simp)) 1).trans c1)) hHeld ?_
  simp only [List.setIfInBounds_toArray, List.set_cons_zero, List.set_cons_succ]
  refine wpAnyH_ready (rs := [2]) (by kernel_rfl) (by simp) ?_
  refine AllReadyH.cons rfl (fun K hK => ?_) AllReadyH.nil
  go_simp
  go_at_call 52
  refine (N1.out _ (powTab_below HT.out (below_next B0.out hHeld))).mono ?_
  rintro e w2 ⟨rfl, hb⟩
  dsimp only
  refine hK.out _ _ (below_next hHeld hb) (fun hHeld => ?_)
  clear hK K hb
  refine take_at (i := 3) 6 rfl rfl (by kernel_rfl) (by kernel_rfl) (by kernel_rfl) (fun _ _ _ h => h) (sure_yes (by rfl) (add_as (l := R) (m := [58]) rfl rfl rfl (by have h1 := HL.out.1; have h2 := HL.out.2; have e1 := congrArg List.length hA.out.1; simp at e1 ⊢; omega) hA.out.1)) hHeld ?_
  simp only [List.setIfInBounds_toArray, List.set_cons_zero, List.set_cons_succ]
  refine wpAnyH_ready (rs := [6]) (by kernel_rfl) (by simp) ?_
  refine AllReadyH.cons rfl (fun K hK => ?_) AllReadyH.nil
  go_simp
  go_at_call 52
  refine (N2.out _ (powTab_below HT.out (below_next B0.out hHeld))).mono ?_
  rintro e w2 ⟨rfl, hb⟩
  dsimp only
  refine hK.out _ _ (below_next hHeld hb) (fun hHeld => ?_)
  clear hK K hb
  refine take_at (i := 7) 10 rfl rfl (by kernel_rfl) (by kernel_rfl) (by kernel_rfl) (fun _ _ _ h => h) (sure_yes (by rfl) (add_as (l := A1) (m := Q) rfl rfl rfl (by have h1 := HL.out.1; have h2 := HL.out.2; have e1 := congrArg List.length hA.out.1; simp at e1 ⊢; omega) hA.out.2)) hHeld ?_
  simp only [List.setIfInBounds_toArray, List.set_cons_zero, List.set_cons_succ]
  refine take_at (i := 8) 2 rfl rfl (by kernel_rfl) (by kernel_rfl) (by kernel_rfl) (fun _ _ _ h => h) (sure_yes (by rfl) (fun w => by go_simp; try with_reducible rfl)) hHeld ?_
  simp only [List.setIfInBounds_toArray, List.set_cons_zero, List.set_cons_succ]
  refine wpAnyH_done (by kernel_rfl) ?_ _
  go_wp2
  go_ret
  exact ⟨by rw [← HE.out]; rfl, below_next B0.out hHeld⟩
end Go.Proofs.YtoephjmjlhgjeaaDoor
namespace Go.Proofs.YtoephjmjlhgjeaaDoor
open Go.RowKit
/-- The first colon. -/
theorem index_colon (s : List UInt8) : (s.contains 58 = false ∧ Lib.indexByte s 58 = -1 ∧ aheadD s = s ∧ behindD s = []) ∨ ∃ k : Nat, k < s.length ∧ Lib.indexByte s 58 = (k : Int) ∧ aheadD s = s.take k ∧ behindD s = s.drop (k + 1) ∧ s.contains 58 = true := by
  have hge := Lib.indexByte_ge s 58
  by_cases h : Lib.indexByte s 58 = -1
  · have hn : (58 : UInt8) ∉ s := fun hm => by
      obtain ⟨j, hj, e⟩ := List.mem_iff_getElem.1 hm
      exact absurd (by rw [List.getElem?_eq_getElem hj, e]) (Lib.indexByte_none h j)
    have ha : aheadD s = s := by
      unfold aheadD
      have : ∀ l : List UInt8, (58 : UInt8) ∉ l → l.takeWhile (· != 58) = l := by
        intro l
        induction l with
        | nil => intro _; rfl
        | cons c r ih =>
          intro hl
          have hc : c ≠ 58 := fun e => hl (by rw [e]; exact List.mem_cons_self)
          rw [List.takeWhile_cons_of_pos (by simpa using hc), ih fun hm => hl (List.mem_cons_of_mem _ hm)]
      exact this s hn
    refine .inl ⟨?_, h, ha, ?_⟩
    · rw [Bool.eq_false_iff, ne_eq, List.contains_iff_mem]; exact hn
    · unfold behindD; rw [ha]; exact List.drop_of_length_le (by omega)
  · obtain ⟨k, hk⟩ : ∃ k : Nat, Lib.indexByte s 58 = (k : Int) := ⟨(Lib.indexByte s 58).toNat, by omega⟩
    obtain ⟨h1, h2⟩ := Lib.indexByte_some hk
    have hlt : k < s.length := (List.getElem?_eq_some_iff.1 h1).1
    obtain ⟨a1, a2, a3⟩ := ahead_at (s := s) (k := k) hlt (by rw [List.getD_eq_getElem?_getD, h1]; rfl) (fun j hj e => by
      refine h2 j hj ?_
      rw [List.getD_eq_getElem?_getD] at e
      rw [List.getElem?_eq_getElem (by omega)] at e ⊢
      exact congrArg some e)
    exact .inr ⟨k, hlt, hk, a1, a2, a3⟩
set_option maxRecDepth 100000 in
set_option maxHeartbeats 4000000 in
theorem liteCut_any (s : List UInt8) (hs : s.length < 1152921504606846976) (w : World) : Calls Tryd.prog 60 #[.string (str s), .string ⟨#[58]⟩] w fun e w' => e = .returned (.tuple #[.string (str (aheadD s)), .string (str (behindD s)), .bool (s.contains 58)]) ∧ Below w.heap.size w w' := by
  have HX := Lib.hid (show ∀ w, Calls Tryd.prog 66 #[.string (str s), .string ⟨#[58]⟩] w fun e w' => e = .returned (.int .i64 (Lib.indexByte s 58)) ∧ w = w' from fun w => by
    refine (Tryd.stringslite_Index_one (str s) 58 w).mono fun e w' h => ?_
    rw [show (str s).data.toList = s from by simp [str]] at h
    exact ⟨h.1, h.2.symm⟩)
  have s2 : (ByteArray.mk #[58]).size = 1 := rfl
  rcases index_colon s with ⟨c1, c2, c3, c4⟩ | ⟨k, hk, c2, c3, c4, c1⟩
  · rw [c2] at HX
    rw [c1, c3, c4]
    clear c1 c2 c3 c4
    go_enter Tryd.func60, Tryd.ntmps60
    go_wp2_with (first | (go_at_call 66; refine (HX.out _).mono ?_; rintro e w1 ⟨rfl, rfl⟩))
    go_ret3
    exact ⟨rfl, Below.refl _ _⟩
  · rw [c2] at HX
    rw [c1, c3, c4]
    have q1 : decide ((k : Int) ≥ 0) = true := decide_eq_true (by omega)
    obtain ⟨k1, hk1⟩ : ∃ k1, k1 = k + 1 := ⟨_, rfl⟩
    have e1 : wrap64 ((k : Int) + 1) = (k1 : Int) := by rw [wrap64]; omega
    have s3 : ∀ w, (Instr.slice 9 (.string (str s)) none (some (.int .i64 (k : Int))) none).run Tryd.prog w = .ok (.string (str (s.take k))) w := fun w => slice_upto w 9 s k (by omega) Tryd.underlying9
    have s4 : ∀ w, (Instr.slice 9 (.string (str s)) (some (.int .i64 (k1 : Int))) none none).run Tryd.prog w = .ok (.string (str (s.drop k1))) w := fun w => slice_rest w 9 s k1 (by omega) Tryd.underlying9
    rw [← hk1]
    generalize s.take k = X at *
    generalize s.drop k1 = Y at *
    clear c1 c2 c3 c4 hk hk1 hs
    go_enter Tryd.func60, Tryd.ntmps60
    go_wp2_with (first | (go_at_call 66; refine (HX.out _).mono ?_; rintro e w1 ⟨rfl, rfl⟩))
    go_quiet (fail)
    have B1 := Lib.hid (below_draws (Below.refl w.heap.size w) nq)
    generalize w.drewN nq = W1 at *
    go_wp2
    go_ret3
    exact ⟨rfl, B1.out⟩
set_option maxRecDepth 100000 in
set_option maxHeartbeats 4000000 in
theorem cut_any (s : List UInt8) (hs : s.length < 1152921504606846976) (w : World) : Calls Tryd.prog 49 #[.string (str s), .string ⟨#[58]⟩] w fun e w' => e = .returned (.tuple #[.string (str (aheadD s)), .string (str (behindD s)), .bool (s.contains 58)]) ∧ Below w.heap.size w w' := by
  have HC := Lib.hid (fun w => liteCut_any s hs w)
  generalize aheadD s = X at *
  generalize behindD s = Y at *
  generalize s.contains 58 = c at *
  clear hs
  go_enter Tryd.func49, Tryd.ntmps49
  go_wp2_with (first | (go_at_call 60; refine (HC.out _).mono ?_; rintro e W1 ⟨rfl, hb⟩; have B1 := Lib.hid hb; clear hb))
  go_ret3
  exact ⟨rfl, B1.out⟩
end Go.Proofs.YtoephjmjlhgjeaaDoor
