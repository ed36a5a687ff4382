/-
Texts that all claims of this seat share, part 3: Ref10More, VecSmall, VecMay, EventMay, EventSmall, EventCmp.
-/
import Derived.Test.YtcdjkjadbhejpaaGreatDoorPk2
namespace Go.Proofs.YtcdjkjadbhejpaaGreatDoor
open Go.RowKit
theorem refAll_V (l : List D2) (hl : l.length < 2000000) (v : Value) (w : World) (hv : HasDots w v l) : Calls Tryz.prog 92 #[v] w fun e w' => e = .returned (numsV 32 (allV l)) ∧ Below w.heap.size w w' := refAll_any l hl v w hv
set_option maxRecDepth 100000 in
set_option maxHeartbeats 4000000 in
theorem refGet_any10 (l : List D2) (hl : l.length < 2000000) (r : Int) (v : Value) (w : World) (hv : HasDots w v l) : Calls Tryz.prog 53 #[v, .int .i64 r] w fun e w' => e = .returned (.int .i64 (getV l r)) ∧ Below w.heap.size w w' := by
  have HV := Lib.hid hv
  have A1 := Lib.hid (fun w v hv => refAll_V l hl v w hv)
  obtain ⟨ao, cap, rfl⟩ := dots_shape hv l.length rfl
  obtain ⟨n, hn⟩ : ∃ n, n = l.length := ⟨_, rfl⟩
  rw [← hn] at HV ⊢
  clear hv hl hn
  by_cases h0 : r < 0
  · have d1 : decide (r < 0) = true := decide_eq_true h0
    have HR := Lib.hid (show getV l r = 0 by rw [getV, if_pos (.inl h0)])
    clear h0
    go_enter Tryz.func53, Tryz.ntmps53
    go_wp2
    go_ret
    exact ⟨by rw [HR.out]; rfl, Below.refl _ _⟩
  · have d1 : decide (r < 0) = false := decide_eq_false h0
    by_cases h1 : 31 < r
    · have d2 : decide (r > 31) = true := decide_eq_true h1
      have HR := Lib.hid (show getV l r = 0 by rw [getV, if_pos (.inr h1)])
      clear h0 h1
      go_enter Tryz.func53, Tryz.ntmps53
      go_wp2
      go_ret
      exact ⟨by rw [HR.out]; rfl, Below.refl _ _⟩
    · have d2 : decide (r > 31) = false := decide_eq_false h1
      obtain ⟨i, hi⟩ : ∃ i : Nat, r = (i : Int) := ⟨r.toNat, by omega⟩
      subst hi
      have ix := fun w => index_nums (P := Tryz.prog) w (t := 123) (n := 32) (allV l) i (by omega) Tryz.underlying123 Tryz.underlying2 (by kernel_rfl)
      replace ix : ∀ w, (Instr.index 123 (numsV 32 (allV l)) (.int .i64 (i : Int))).run Tryz.prog w = .ok (.int .i64 (allV l i)) w := ix
      have HR := Lib.hid (show getV l (i : Int) = allV l i by rw [getV, if_neg (by omega), Int.toNat_natCast])
      clear h0 h1
      go_enter Tryz.func53, Tryz.ntmps53
      go_wp2_with (first
        | (go_at_call 92; refine (A1.out w _ HV.out).mono ?_; rintro e w1 ⟨rfl, hb⟩; have B1 := Lib.hid hb; clear hb))
      go_ret
      exact ⟨by rw [HR.out]; rfl, B1.out⟩
set_option maxRecDepth 100000 in
set_option maxHeartbeats 8000000 in
theorem refHas_any10 (l : List D2) (hl : l.length < 2000000) (r q : Int) (v : Value) (w : World) (hv : HasDots w v l) : Calls Tryz.prog 77 #[v, .agg #[.int .i64 r, .int .i64 q]] w fun e w' => e = .returned (.bool (hasV l r q)) ∧ Below w.heap.size w w' := by
  have HV := Lib.hid hv
  have MY := Lib.hid (fun w => refMay_any9 r q w)
  have GT := Lib.hid (fun w hv => refGet_any10 l hl r v w hv)
  have E0 := Lib.hid (show (w.alloc (.cells #[.int .i64 r, .int .i64 q] 24 (0, 0))).heap[w.heap.size]? = some (.cells #[.int .i64 r, .int .i64 q] 24 (0, 0)) from one_box w r q)
  obtain ⟨c0, c1⟩ := dot_cells (show _ = some (dotO r q) from E0.out)
  have C0 := Lib.hid c0
  have C1 := Lib.hid c1
  have B0 := Lib.hid ((Below.refl w.heap.size w).alloc (Nat.le_refl _) (.cells #[.int .i64 r, .int .i64 q] 24 (0, 0)))
  obtain ⟨ao, cap, rfl⟩ := dots_shape hv l.length rfl
  obtain ⟨n, hn⟩ : ∃ n, n = l.length := ⟨_, rfl⟩
  rw [← hn] at HV GT ⊢
  obtain ⟨G, hG⟩ : ∃ G, G = getV l r := ⟨_, rfl⟩
  rw [← hG] at GT
  have HR := Lib.hid (show hasV l r q = (mayD r q && decide (q ≤ G)) by rw [hasV, hG])
  clear hv hl hn hG c0 c1
  cases hm : mayD r q with
  | true =>
    rw [hm] at MY HR
    clear hm
    go_enter Tryz.func77, Tryz.ntmps77
    go_wp2
    generalize w.alloc (.cells #[.int .i64 r, .int .i64 q] 24 (0, 0)) = W0 at *
    refine wp_region_held_drew (S := fun w' => Below W0.heap.size W0 w') (by kernel_rfl) (drawS (Below.refl _ _)) (fun hHeld => ?_)
    generalize W0.drew = wd at hHeld ⊢
    refine take_at (i := 0) 5 rfl rfl (by kernel_rfl) (by kernel_rfl) (by kernel_rfl) (fun _ _ _ h => h) (row_yields (by rfl) 24 (.tmp 3) rfl w.heap.size rfl 24 _ (0, 0) _ Tryz.underlying24 rfl (by kernel_rfl) (fun _ h => row_kept E0.out h)) hHeld ?_
    simp only [List.setIfInBounds_toArray, List.set_cons_zero, List.set_cons_succ]
    refine wpAnyH_ready (rs := [1]) (by kernel_rfl) (by simp) ?_
    refine AllReadyH.cons rfl (fun K hK => ?_) AllReadyH.nil
    go_simp
    go_at_call 74
    refine (MY.out _).mono ?_
    rintro e w6 ⟨rfl, hb⟩
    dsimp only
    refine hK.out _ _ (below_next hHeld hb) (fun hHeld => ?_)
    clear hK K hb
    refine take_at (i := 2) 7 rfl rfl (by kernel_rfl) (by kernel_rfl) (by kernel_rfl) (fun _ _ _ h => h) (sure_yes (by rfl) (fun w => by go_simp; try with_reducible rfl)) hHeld ?_
    simp only [List.setIfInBounds_toArray, List.set_cons_zero, List.set_cons_succ]
    refine take_at (i := 3) 8 rfl rfl (by kernel_rfl) (by kernel_rfl) (by kernel_rfl) (fun _ _ _ h => h) (sure_yes (by rfl) (fun w => by go_simp; try with_reducible rfl)) hHeld ?_
    simp only [List.setIfInBounds_toArray, List.set_cons_zero, List.set_cons_succ]
    refine take_at (i := 5) 10 rfl rfl (by kernel_rfl) (by kernel_rfl) (by kernel_rfl) (fun _ _ _ h => h) (sure_yes (by rfl) (fun w => by go_simp; try with_reducible rfl)) hHeld ?_
    simp only [List.setIfInBounds_toArray, List.set_cons_zero, List.set_cons_succ]
    refine take_at (i := 6) 11 rfl rfl (by kernel_rfl) (by kernel_rfl) (by kernel_rfl) (fun _ _ _ h => h) (sure_yes (by rfl) (fun w => by go_simp; try with_reducible rfl)) hHeld ?_
    simp only [List.setIfInBounds_toArray, List.set_cons_zero, List.set_cons_succ]
    refine take_at (i := 4) 9 rfl rfl (by kernel_rfl) (by kernel_rfl) (by kernel_rfl) (fun _ _ _ h => h) (cell_yields (by rfl) 2 (.tmp 8) rfl w.heap.size 1 rfl .i64 q Tryz.underlying2 (fun w h => (World.cell?_of_block (h.block _ (World.block_lt_of_cell? _ _ C1.out))).trans C1.out)) hHeld ?_
    simp only [List.setIfInBounds_toArray, List.set_cons_zero, List.set_cons_succ]
    refine take_at (i := 7) 12 rfl rfl (by kernel_rfl) (by kernel_rfl) (by kernel_rfl) (fun _ _ _ h => h) (cell_yields (by rfl) 3 (.tmp 11) rfl w.heap.size 0 rfl .i64 r Tryz.underlying3 (fun w h => (World.cell?_of_block (h.block _ (World.block_lt_of_cell? _ _ C0.out))).trans C0.out)) hHeld ?_
    simp only [List.setIfInBounds_toArray, List.set_cons_zero, List.set_cons_succ]
    refine wpAnyH_ready (rs := [8]) (by kernel_rfl) (by simp) ?_
    refine AllReadyH.cons rfl (fun K hK => ?_) AllReadyH.nil
    go_simp
    go_at_call 53
    refine (GT.out _ (dots_below HV.out (below_next B0.out hHeld))).mono ?_
    rintro e w6 ⟨rfl, hb⟩
    dsimp only
    refine hK.out _ _ (below_next hHeld hb) (fun hHeld => ?_)
    clear hK K hb
    refine take_at (i := 9) 14 rfl rfl (by kernel_rfl) (by kernel_rfl) (by kernel_rfl) (fun _ _ _ h => h) (sure_yes (by rfl) (fun w => by go_simp; try with_reducible rfl)) hHeld ?_
    simp only [List.setIfInBounds_toArray, List.set_cons_zero, List.set_cons_succ]
    refine take_at (i := 10) 15 rfl rfl (by kernel_rfl) (by kernel_rfl) (by kernel_rfl) (fun _ _ _ h => h) (sure_yes (by rfl) (fun w => by go_simp; try with_reducible rfl)) hHeld ?_
    simp only [List.setIfInBounds_toArray, List.set_cons_zero, List.set_cons_succ]
    refine take_at (i := 11) 4 rfl rfl (by kernel_rfl) (by kernel_rfl) (by kernel_rfl) (fun _ _ _ h => h) (sure_yes (by rfl) (fun w => by go_simp; try with_reducible rfl)) hHeld ?_
    simp only [List.setIfInBounds_toArray, List.set_cons_zero, List.set_cons_succ]
    refine wpAnyH_done (by kernel_rfl) ?_ _
    go_wp2
    go_ret
    exact ⟨by rw [HR.out]; rfl, below_next B0.out hHeld⟩
  | false =>
    rw [hm] at MY HR
    clear hm
    go_enter Tryz.func77, Tryz.ntmps77
    go_wp2
    generalize w.alloc (.cells #[.int .i64 r, .int .i64 q] 24 (0, 0)) = W0 at *
    refine wp_region_held_drew (S := fun w' => Below W0.heap.size W0 w') (by kernel_rfl) (drawS (Below.refl _ _)) (fun hHeld => ?_)
    generalize W0.drew = wd at hHeld ⊢
    refine take_at (i := 0) 5 rfl rfl (by kernel_rfl) (by kernel_rfl) (by kernel_rfl) (fun _ _ _ h => h) (row_yields (by rfl) 24 (.tmp 3) rfl w.heap.size rfl 24 _ (0, 0) _ Tryz.underlying24 rfl (by kernel_rfl) (fun _ h => row_kept E0.out h)) hHeld ?_
    simp only [List.setIfInBounds_toArray, List.set_cons_zero, List.set_cons_succ]
    refine wpAnyH_ready (rs := [1]) (by kernel_rfl) (by simp) ?_
    refine AllReadyH.cons rfl (fun K hK => ?_) AllReadyH.nil
    go_simp
    go_at_call 74
    refine (MY.out _).mono ?_
    rintro e w6 ⟨rfl, hb⟩
    dsimp only
    refine hK.out _ _ (below_next hHeld hb) (fun hHeld => ?_)
    clear hK K hb
    refine take_at (i := 2) 7 rfl rfl (by kernel_rfl) (by kernel_rfl) (by kernel_rfl) (fun _ _ _ h => h) (sure_yes (by rfl) (fun w => by go_simp; try with_reducible rfl)) hHeld ?_
    simp only [List.setIfInBounds_toArray, List.set_cons_zero, List.set_cons_succ]
    refine take_at (i := 3) 8 rfl rfl (by kernel_rfl) (by kernel_rfl) (by kernel_rfl) (fun _ _ _ h => h) (.inr ⟨by rfl, rfl⟩) hHeld ?_
    simp only [List.setIfInBounds_toArray, List.set_cons_zero, List.set_cons_succ]
    refine take_at (i := 4) 9 rfl rfl (by kernel_rfl) (by kernel_rfl) (by kernel_rfl) (fun _ _ _ h => h) (.inr ⟨by rfl, rfl⟩) hHeld ?_
    simp only [List.setIfInBounds_toArray, List.set_cons_zero, List.set_cons_succ]
    refine take_at (i := 5) 10 rfl rfl (by kernel_rfl) (by kernel_rfl) (by kernel_rfl) (fun _ _ _ h => h) (.inr ⟨by rfl, rfl⟩) hHeld ?_
    simp only [List.setIfInBounds_toArray, List.set_cons_zero, List.set_cons_succ]
    refine take_at (i := 6) 11 rfl rfl (by kernel_rfl) (by kernel_rfl) (by kernel_rfl) (fun _ _ _ h => h) (.inr ⟨by rfl, rfl⟩) hHeld ?_
    simp only [List.setIfInBounds_toArray, List.set_cons_zero, List.set_cons_succ]
    refine take_at (i := 7) 12 rfl rfl (by kernel_rfl) (by kernel_rfl) (by kernel_rfl) (fun _ _ _ h => h) (.inr ⟨by rfl, rfl⟩) hHeld ?_
    simp only [List.setIfInBounds_toArray, List.set_cons_zero, List.set_cons_succ]
    refine take_at (i := 8) 13 rfl rfl (by kernel_rfl) (by kernel_rfl) (by kernel_rfl) (fun _ _ _ h => h) (.inr ⟨by rfl, rfl⟩) hHeld ?_
    simp only [List.setIfInBounds_toArray, List.set_cons_zero, List.set_cons_succ]
    refine take_at (i := 9) 14 rfl rfl (by kernel_rfl) (by kernel_rfl) (by kernel_rfl) (fun _ _ _ h => h) (.inr ⟨by rfl, rfl⟩) hHeld ?_
    simp only [List.setIfInBounds_toArray, List.set_cons_zero, List.set_cons_succ]
    refine take_at (i := 10) 15 rfl rfl (by kernel_rfl) (by kernel_rfl) (by kernel_rfl) (fun _ _ _ h => h) (sure_yes (by rfl) (fun w => by go_simp; try with_reducible rfl)) hHeld ?_
    simp only [List.setIfInBounds_toArray, List.set_cons_zero, List.set_cons_succ]
    refine take_at (i := 11) 4 rfl rfl (by kernel_rfl) (by kernel_rfl) (by kernel_rfl) (fun _ _ _ h => h) (sure_yes (by rfl) (fun w => by go_simp; try with_reducible rfl)) hHeld ?_
    simp only [List.setIfInBounds_toArray, List.set_cons_zero, List.set_cons_succ]
    refine wpAnyH_done (by kernel_rfl) ?_ _
    go_wp2
    go_ret
    exact ⟨by rw [HR.out]; rfl, below_next B0.out hHeld⟩
end Go.Proofs.YtcdjkjadbhejpaaGreatDoor
namespace Go.Proofs.YtcdjkjadbhejpaaGreatDoor
open Go.RowKit
theorem counts_V (l : List D2) (hl : l.length < 2000000) (v : Value) (w : World) (hv : HasDots w v l) : Calls Tryz.prog 133 #[v] w fun e w' => e = .returned (numsV 32 (allV l)) ∧ Below w.heap.size w w' := counts_any l hl v w hv
set_option maxRecDepth 100000 in
set_option maxHeartbeats 16000000 in
theorem vecGet_any (l : List D2) (hl : l.length < 2000000) (r : Int) (v : Value) (w : World) (hv : HasDots w v l) : Calls Tryz.prog 107 #[v, .int .i64 r] w fun e w' => e = .returned (.int .i64 (getV l r)) ∧ Below w.heap.size w w' := by
  have HV := Lib.hid hv
  have A1 := Lib.hid (fun w v hv => counts_V l hl v w hv)
  obtain ⟨ao, cap, rfl⟩ := dots_shape hv l.length rfl
  obtain ⟨n, hn⟩ : ∃ n, n = l.length := ⟨_, rfl⟩
  rw [← hn] at HV ⊢
  clear hv hl hn
  by_cases h0 : r < 0
  · have d1 : decide (r < 0) = true := decide_eq_true h0
    have HR := Lib.hid (show getV l r = 0 by rw [getV, if_pos (.inl h0)])
    clear h0
    go_enter Tryz.func107, Tryz.ntmps107
    go_wp2
    go_ret
    exact ⟨by rw [HR.out]; rfl, Below.refl _ _⟩
  · have d1 : decide (r < 0) = false := decide_eq_false h0
    by_cases h1 : 31 < r
    · have d2 : decide (r ≥ 32) = true := decide_eq_true (by omega)
      have HR := Lib.hid (show getV l r = 0 by rw [getV, if_pos (.inr h1)])
      clear h0 h1
      go_enter Tryz.func107, Tryz.ntmps107
      go_wp2
      go_ret
      exact ⟨by rw [HR.out]; rfl, Below.refl _ _⟩
    · have d2 : decide (r ≥ 32) = false := decide_eq_false (by omega)
      obtain ⟨i, hi⟩ : ∃ i : Nat, r = (i : Int) := ⟨r.toNat, by omega⟩
      subst hi
      have ix := fun w => index_nums (P := Tryz.prog) w (t := 162) (n := 32) (allV l) i (by omega) Tryz.underlying162 Tryz.underlying2 (by kernel_rfl)
      replace ix : ∀ w, (Instr.index 162 (numsV 32 (allV l)) (.int .i64 (i : Int))).run Tryz.prog w = .ok (.int .i64 (allV l i)) w := ix
      have HR := Lib.hid (show getV l (i : Int) = allV l i by rw [getV, if_neg (by omega), Int.toNat_natCast])
      clear h0 h1
      go_enter Tryz.func107, Tryz.ntmps107
      go_wp2_with (first
        | (go_at_call 133; refine (A1.out w _ HV.out).mono ?_; rintro e w1 ⟨rfl, hb⟩; have B1 := Lib.hid hb; clear hb))
      go_ret
      exact ⟨by rw [HR.out]; rfl, B1.out⟩
set_option maxRecDepth 100000 in
set_option maxHeartbeats 16000000 in
theorem vecHas_any (l : List D2) (hl : l.length < 2000000) (r q : Int) (v : Value) (w : World) (hv : HasDots w v l) : Calls Tryz.prog 111 #[v, .agg #[.int .i64 r, .int .i64 q]] w fun e w' => e = .returned (.bool (hasV l r q)) ∧ Below w.heap.size w w' := by
  have HV := Lib.hid hv
  have MY := Lib.hid (fun w => may_any9 r q w)
  have GT := Lib.hid (fun w hv => vecGet_any l hl r v w hv)
  have E0 := Lib.hid (show (w.alloc (.cells #[.int .i64 r, .int .i64 q] 24 (0, 0))).heap[w.heap.size]? = some (.cells #[.int .i64 r, .int .i64 q] 24 (0, 0)) from one_box w r q)
  obtain ⟨c0, c1⟩ := dot_cells (show _ = some (dotO r q) from E0.out)
  have C0 := Lib.hid c0
  have C1 := Lib.hid c1
  have B0 := Lib.hid ((Below.refl w.heap.size w).alloc (Nat.le_refl _) (.cells #[.int .i64 r, .int .i64 q] 24 (0, 0)))
  obtain ⟨ao, cap, rfl⟩ := dots_shape hv l.length rfl
  obtain ⟨n, hn⟩ : ∃ n, n = l.length := ⟨_, rfl⟩
  rw [← hn] at HV GT ⊢
  obtain ⟨G, hG⟩ : ∃ G, G = getV l r := ⟨_, rfl⟩
  rw [← hG] at GT
  have HR := Lib.hid (show hasV l r q = (mayD r q && decide (q ≤ G)) by rw [hasV, hG])
  clear hv hl hn hG c0 c1
  cases hm : mayD r q with
  | true =>
    rw [hm] at MY HR
    clear hm
    go_enter Tryz.func111, Tryz.ntmps111
    go_wp2
    generalize w.alloc (.cells #[.int .i64 r, .int .i64 q] 24 (0, 0)) = W0 at *
    refine wp_region_held_drew (S := fun w' => Below W0.heap.size W0 w') (by kernel_rfl) (drawS (Below.refl _ _)) (fun hHeld => ?_)
    generalize W0.drew = wd at hHeld ⊢
    refine take_at (i := 0) 5 rfl rfl (by kernel_rfl) (by kernel_rfl) (by kernel_rfl) (fun _ _ _ h => h) (row_yields (by rfl) 24 (.tmp 3) rfl w.heap.size rfl 24 _ (0, 0) _ Tryz.underlying24 rfl (by kernel_rfl) (fun _ h => row_kept E0.out h)) hHeld ?_
    simp only [List.setIfInBounds_toArray, List.set_cons_zero, List.set_cons_succ]
    refine wpAnyH_ready (rs := [1]) (by kernel_rfl) (by simp) ?_
    refine AllReadyH.cons rfl (fun K hK => ?_) AllReadyH.nil
    go_simp
    go_at_call 68
    refine (MY.out _).mono ?_
    rintro e w6 ⟨rfl, hb⟩
    dsimp only
    refine hK.out _ _ (below_next hHeld hb) (fun hHeld => ?_)
    clear hK K hb
    refine take_at (i := 2) 7 rfl rfl (by kernel_rfl) (by kernel_rfl) (by kernel_rfl) (fun _ _ _ h => h) (sure_yes (by rfl) (fun w => by go_simp; try with_reducible rfl)) hHeld ?_
    simp only [List.setIfInBounds_toArray, List.set_cons_zero, List.set_cons_succ]
    refine take_at (i := 3) 8 rfl rfl (by kernel_rfl) (by kernel_rfl) (by kernel_rfl) (fun _ _ _ h => h) (sure_yes (by rfl) (fun w => by go_simp; try with_reducible rfl)) hHeld ?_
    simp only [List.setIfInBounds_toArray, List.set_cons_zero, List.set_cons_succ]
    refine take_at (i := 5) 10 rfl rfl (by kernel_rfl) (by kernel_rfl) (by kernel_rfl) (fun _ _ _ h => h) (sure_yes (by rfl) (fun w => by go_simp; try with_reducible rfl)) hHeld ?_
    simp only [List.setIfInBounds_toArray, List.set_cons_zero, List.set_cons_succ]
    refine take_at (i := 6) 11 rfl rfl (by kernel_rfl) (by kernel_rfl) (by kernel_rfl) (fun _ _ _ h => h) (sure_yes (by rfl) (fun w => by go_simp; try with_reducible rfl)) hHeld ?_
    simp only [List.setIfInBounds_toArray, List.set_cons_zero, List.set_cons_succ]
    refine take_at (i := 4) 9 rfl rfl (by kernel_rfl) (by kernel_rfl) (by kernel_rfl) (fun _ _ _ h => h) (cell_yields (by rfl) 2 (.tmp 8) rfl w.heap.size 1 rfl .i64 q Tryz.underlying2 (fun w h => (World.cell?_of_block (h.block _ (World.block_lt_of_cell? _ _ C1.out))).trans C1.out)) hHeld ?_
    simp only [List.setIfInBounds_toArray, List.set_cons_zero, List.set_cons_succ]
    refine take_at (i := 7) 12 rfl rfl (by kernel_rfl) (by kernel_rfl) (by kernel_rfl) (fun _ _ _ h => h) (cell_yields (by rfl) 3 (.tmp 11) rfl w.heap.size 0 rfl .i64 r Tryz.underlying3 (fun w h => (World.cell?_of_block (h.block _ (World.block_lt_of_cell? _ _ C0.out))).trans C0.out)) hHeld ?_
    simp only [List.setIfInBounds_toArray, List.set_cons_zero, List.set_cons_succ]
    refine wpAnyH_ready (rs := [8]) (by kernel_rfl) (by simp) ?_
    refine AllReadyH.cons rfl (fun K hK => ?_) AllReadyH.nil
    go_simp
    go_at_call 107
    refine (GT.out _ (dots_below HV.out (below_next B0.out hHeld))).mono ?_
    rintro e w6 ⟨rfl, hb⟩
    dsimp only
    refine hK.out _ _ (below_next hHeld hb) (fun hHeld => ?_)
    clear hK K hb
    refine take_at (i := 9) 14 rfl rfl (by kernel_rfl) (by kernel_rfl) (by kernel_rfl) (fun _ _ _ h => h) (sure_yes (by rfl) (fun w => by go_simp; try with_reducible rfl)) hHeld ?_
    simp only [List.setIfInBounds_toArray, List.set_cons_zero, List.set_cons_succ]
    refine take_at (i := 10) 15 rfl rfl (by kernel_rfl) (by kernel_rfl) (by kernel_rfl) (fun _ _ _ h => h) (sure_yes (by rfl) (fun w => by go_simp; try with_reducible rfl)) hHeld ?_
    simp only [List.setIfInBounds_toArray, List.set_cons_zero, List.set_cons_succ]
    refine take_at (i := 11) 4 rfl rfl (by kernel_rfl) (by kernel_rfl) (by kernel_rfl) (fun _ _ _ h => h) (sure_yes (by rfl) (fun w => by go_simp; try with_reducible rfl)) hHeld ?_
    simp only [List.setIfInBounds_toArray, List.set_cons_zero, List.set_cons_succ]
    refine wpAnyH_done (by kernel_rfl) ?_ _
    go_wp2
    go_ret
    exact ⟨by rw [HR.out]; rfl, below_next B0.out hHeld⟩
  | false =>
    rw [hm] at MY HR
    clear hm
    go_enter Tryz.func111, Tryz.ntmps111
    go_wp2
    generalize w.alloc (.cells #[.int .i64 r, .int .i64 q] 24 (0, 0)) = W0 at *
    refine wp_region_held_drew (S := fun w' => Below W0.heap.size W0 w') (by kernel_rfl) (drawS (Below.refl _ _)) (fun hHeld => ?_)
    generalize W0.drew = wd at hHeld ⊢
    refine take_at (i := 0) 5 rfl rfl (by kernel_rfl) (by kernel_rfl) (by kernel_rfl) (fun _ _ _ h => h) (row_yields (by rfl) 24 (.tmp 3) rfl w.heap.size rfl 24 _ (0, 0) _ Tryz.underlying24 rfl (by kernel_rfl) (fun _ h => row_kept E0.out h)) hHeld ?_
    simp only [List.setIfInBounds_toArray, List.set_cons_zero, List.set_cons_succ]
    refine wpAnyH_ready (rs := [1]) (by kernel_rfl) (by simp) ?_
    refine AllReadyH.cons rfl (fun K hK => ?_) AllReadyH.nil
    go_simp
    go_at_call 68
    refine (MY.out _).mono ?_
    rintro e w6 ⟨rfl, hb⟩
    dsimp only
    refine hK.out _ _ (below_next hHeld hb) (fun hHeld => ?_)
    clear hK K hb
    refine take_at (i := 2) 7 rfl rfl (by kernel_rfl) (by kernel_rfl) (by kernel_rfl) (fun _ _ _ h => h) (sure_yes (by rfl) (fun w => by go_simp; try with_reducible rfl)) hHeld ?_
    simp only [List.setIfInBounds_toArray, List.set_cons_zero, List.set_cons_succ]
    refine take_at (i := 3) 8 rfl rfl (by kernel_rfl) (by kernel_rfl) (by kernel_rfl) (fun _ _ _ h => h) (.inr ⟨by rfl, rfl⟩) hHeld ?_
    simp only [List.setIfInBounds_toArray, List.set_cons_zero, List.set_cons_succ]
    refine take_at (i := 4) 9 rfl rfl (by kernel_rfl) (by kernel_rfl) (by kernel_rfl) (fun _ _ _ h => h) (.inr ⟨by rfl, rfl⟩) hHeld ?_
    simp only [List.setIfInBounds_toArray, List.set_cons_zero, List.set_cons_succ]
    refine take_at (i := 5) 10 rfl rfl (by kernel_rfl) (by kernel_rfl) (by kernel_rfl) (fun _ _ _ h => h) (.inr ⟨by rfl, rfl⟩) hHeld ?_
    simp only [List.setIfInBounds_toArray, List.set_cons_zero, List.set_cons_succ]
    refine take_at (i := 6) 11 rfl rfl (by kernel_rfl) (by kernel_rfl) (by kernel_rfl) (fun _ _ _ h => h) (.inr ⟨by rfl, rfl⟩) hHeld ?_
    simp only [List.setIfInBounds_toArray, List.set_cons_zero, List.set_cons_succ]
    refine take_at (i := 7) 12 rfl rfl (by kernel_rfl) (by kernel_rfl) (by kernel_rfl) (fun _ _ _ h => h) (.inr ⟨by rfl, rfl⟩) hHeld ?_
    simp only [List.setIfInBounds_toArray, List.set_cons_zero, List.set_cons_succ]
    refine take_at (i := 8) 13 rfl rfl (by kernel_rfl) (by kernel_rfl) (by kernel_rfl) (fun _ _ _ h => h) (.inr ⟨by rfl, rfl⟩) hHeld ?_
    simp only [List.setIfInBounds_toArray, List.set_cons_zero, List.set_cons_succ]
    refine take_at (i := 9) 14 rfl rfl (by kernel_rfl) (by kernel_rfl) (by kernel_rfl) (fun _ _ _ h => h) (.inr ⟨by rfl, rfl⟩) hHeld ?_
    simp only [List.setIfInBounds_toArray, List.set_cons_zero, List.set_cons_succ]
    refine take_at (i := 10) 15 rfl rfl (by kernel_rfl) (by kernel_rfl) (by kernel_rfl) (fun _ _ _ h => h) (sure_yes (by rfl) (fun w => by go_simp; try with_reducible rfl)) hHeld ?_
    simp only [List.setIfInBounds_toArray, List.set_cons_zero, List.set_cons_succ]
    refine take_at (i := 11) 4 rfl rfl (by kernel_rfl) (by kernel_rfl) (by kernel_rfl) (fun _ _ _ h => h) (sure_yes (by rfl) (fun w => by go_simp; try with_reducible rfl)) hHeld ?_
    simp only [List.setIfInBounds_toArray, List.set_cons_zero, List.set_cons_succ]
    refine wpAnyH_done (by kernel_rfl) ?_ _
    go_wp2
    go_ret
    exact ⟨by rw [HR.out]; rfl, below_next B0.out hHeld⟩
end Go.Proofs.YtcdjkjadbhejpaaGreatDoor
namespace Go.Proofs.YtcdjkjadbhejpaaGreatDoor
open Go.RowKit
theorem dots_part {w : World} {ad : Addr} {n cap : Nat} {l : List D2} (h : HasDots w (.slice (some ad) n cap) l) (k : Nat) (hk : k ≤ n) (hn : n = l.length) : HasDots w (.slice (some ad) k cap) (l.take k) := by
  obtain ⟨ao, cap', e, hnil, hc⟩ := h
  injection e with e1 e2 e3
  subst e1 e3
  have hl : (l.take k).length = k := by rw [List.length_take]; omega
  refine ⟨some ad, cap, by rw [hl], (fun h => by cases h), fun ad' had => ?_⟩
  cases had
  refine ⟨by rw [hl]; have := (hc ad rfl).1; omega, fun j u hj => (hc ad rfl).2 j u ?_⟩
  obtain ⟨i, d, h1, h2⟩ := dotsC_inv _ j u hj
  have h3 : l[i]? = some d := by
    rw [List.getElem?_take] at h1
    split at h1
    · exact h1
    · cases h1
  obtain ⟨p1, p2⟩ := dotsC_at l i d h3
  rcases h2 with ⟨rfl, rfl⟩ | ⟨rfl, rfl⟩
  · exact p1
  · exact p2
theorem fol_no {l : List D2} {r q : Int} (h : mayD r q = false) : fol l (r, q) = false := by
  rw [fol, show mayT (r, q) = false from h]; rfl
theorem fol_nil {r q : Int} (h : mayD r q = true) : fol [] (r, q) = true := by
  rw [fol, show mayT (r, q) = true from h]; rfl
theorem fol_last {l : List D2} {r q r0 q0 : Int} {j : Nat} (h : mayD r q = true) (hj : l.length = j + 1) (hd : l[j]? = some (r0, q0)) : fol l (r, q) = decide (r0 < r) := by
  obtain ⟨a, b, rfl⟩ := list_snoc l (fun e => by rw [e] at hj; simp at hj)
  have ha : a.length = j := by simpa using hj
  subst ha
  obtain rfl : b = (r0, q0) := by simpa using hd
  rw [fol, show mayT (r, q) = true from h, List.getLastD_concat]
  simp
set_option maxRecDepth 100000 in
set_option maxHeartbeats 16000000 in
theorem mayFollow_any (l : List D2) (hl : l.length < 2000000) (r q : Int) (v : Value) (w : World) (hv : HasDots w v l) : Calls Tryz.prog 132 #[v, .agg #[.int .i64 r, .int .i64 q]] w fun e w' => e = .returned (.bool (fol l (r, q))) ∧ Below w.heap.size w w' := by
  have HV := Lib.hid hv
  have MY := Lib.hid (fun w => may_any9 r q w)
  have E0 := Lib.hid (show (w.alloc (.cells #[.int .i64 r, .int .i64 q] 24 (0, 0))).heap[w.heap.size]? = some (.cells #[.int .i64 r, .int .i64 q] 24 (0, 0)) from one_box w r q)
  have B0 := Lib.hid ((Below.refl w.heap.size w).alloc (Nat.le_refl _) (.cells #[.int .i64 r, .int .i64 q] 24 (0, 0)))
  cases hm : mayD r q with
  | false =>
    rw [hm] at MY
    have HR := Lib.hid (fol_no (l := l) hm)
    obtain ⟨ao, cap, rfl⟩ := dots_shape hv l.length rfl
    obtain ⟨n, hn⟩ : ∃ n, n = l.length := ⟨_, rfl⟩
    rw [← hn] at HV ⊢
    clear hv hl hn hm
    go_enter Tryz.func132, Tryz.ntmps132
    go_upto_region 1 with fail
    generalize w.alloc (.cells #[.int .i64 r, .int .i64 q] 24 (0, 0)) = W0 at *
    refine wp_region_held_drew (S := fun w' => Below W0.heap.size W0 w') (by kernel_rfl) (drawS (Below.refl _ _)) (fun hHeld => ?_)
    generalize W0.drew = wd at hHeld ⊢
    refine take_at (i := 0) 5 rfl rfl (by kernel_rfl) (by kernel_rfl) (by kernel_rfl) (fun _ _ _ h => h) (row_yields (by rfl) 24 (.tmp 3) rfl w.heap.size rfl 24 _ (0, 0) _ Tryz.underlying24 rfl (by kernel_rfl) (fun _ h => row_kept E0.out h)) hHeld ?_
    simp only [List.setIfInBounds_toArray, List.set_cons_zero, List.set_cons_succ]
    refine wpAnyH_ready (rs := [1]) (by kernel_rfl) (by simp) ?_
    refine AllReadyH.cons rfl (fun K hK => ?_) AllReadyH.nil
    go_simp
    go_at_call 68
    refine (MY.out _).mono ?_
    rintro e w6 ⟨rfl, hb⟩
    dsimp only
    refine hK.out _ _ (below_next hHeld hb) (fun hHeld => ?_)
    clear hK K hb
    refine take_at (i := 2) 7 rfl rfl (by kernel_rfl) (by kernel_rfl) (by kernel_rfl) (fun _ _ _ h => h) (sure_yes (by rfl) (fun w => by go_simp; try with_reducible rfl)) hHeld ?_
    simp only [List.setIfInBounds_toArray, List.set_cons_zero, List.set_cons_succ]
    refine take_at (i := 3) 8 rfl rfl (by kernel_rfl) (by kernel_rfl) (by kernel_rfl) (fun _ _ _ h => h) (.inr ⟨by rfl, rfl⟩) hHeld ?_
    simp only [List.setIfInBounds_toArray, List.set_cons_zero, List.set_cons_succ]
    refine take_at (i := 4) 9 rfl rfl (by kernel_rfl) (by kernel_rfl) (by kernel_rfl) (fun _ _ _ h => h) (.inr ⟨by rfl, rfl⟩) hHeld ?_
    simp only [List.setIfInBounds_toArray, List.set_cons_zero, List.set_cons_succ]
    refine take_at (i := 5) 10 rfl rfl (by kernel_rfl) (by kernel_rfl) (by kernel_rfl) (fun _ _ _ h => h) (.inr ⟨by rfl, rfl⟩) hHeld ?_
    simp only [List.setIfInBounds_toArray, List.set_cons_zero, List.set_cons_succ]
    refine take_at (i := 6) 11 rfl rfl (by kernel_rfl) (by kernel_rfl) (by kernel_rfl) (fun _ _ _ h => h) (.inr ⟨by rfl, rfl⟩) hHeld ?_
    simp only [List.setIfInBounds_toArray, List.set_cons_zero, List.set_cons_succ]
    refine take_at (i := 7) 12 rfl rfl (by kernel_rfl) (by kernel_rfl) (by kernel_rfl) (fun _ _ _ h => h) (.inr ⟨by rfl, rfl⟩) hHeld ?_
    simp only [List.setIfInBounds_toArray, List.set_cons_zero, List.set_cons_succ]
    refine take_at (i := 8) 13 rfl rfl (by kernel_rfl) (by kernel_rfl) (by kernel_rfl) (fun _ _ _ h => h) (.inr ⟨by rfl, rfl⟩) hHeld ?_
    simp only [List.setIfInBounds_toArray, List.set_cons_zero, List.set_cons_succ]
    refine take_at (i := 9) 14 rfl rfl (by kernel_rfl) (by kernel_rfl) (by kernel_rfl) (fun _ _ _ h => h) (.inr ⟨by rfl, rfl⟩) hHeld ?_
    simp only [List.setIfInBounds_toArray, List.set_cons_zero, List.set_cons_succ]
    refine take_at (i := 10) 15 rfl rfl (by kernel_rfl) (by kernel_rfl) (by kernel_rfl) (fun _ _ _ h => h) (.inr ⟨by rfl, rfl⟩) hHeld ?_
    simp only [List.setIfInBounds_toArray, List.set_cons_zero, List.set_cons_succ]
    refine take_at (i := 11) 16 rfl rfl (by kernel_rfl) (by kernel_rfl) (by kernel_rfl) (fun _ _ _ h => h) (.inr ⟨by rfl, rfl⟩) hHeld ?_
    simp only [List.setIfInBounds_toArray, List.set_cons_zero, List.set_cons_succ]
    refine take_at (i := 12) 17 rfl rfl (by kernel_rfl) (by kernel_rfl) (by kernel_rfl) (fun _ _ _ h => h) (.inr ⟨by rfl, rfl⟩) hHeld ?_
    simp only [List.setIfInBounds_toArray, List.set_cons_zero, List.set_cons_succ]
    refine take_at (i := 13) 18 rfl rfl (by kernel_rfl) (by kernel_rfl) (by kernel_rfl) (fun _ _ _ h => h) (.inr ⟨by rfl, rfl⟩) hHeld ?_
    simp only [List.setIfInBounds_toArray, List.set_cons_zero, List.set_cons_succ]
    refine take_at (i := 14) 19 rfl rfl (by kernel_rfl) (by kernel_rfl) (by kernel_rfl) (fun _ _ _ h => h) (.inr ⟨by rfl, rfl⟩) hHeld ?_
    simp only [List.setIfInBounds_toArray, List.set_cons_zero, List.set_cons_succ]
    refine take_at (i := 15) 20 rfl rfl (by kernel_rfl) (by kernel_rfl) (by kernel_rfl) (fun _ _ _ h => h) (.inr ⟨by rfl, rfl⟩) hHeld ?_
    simp only [List.setIfInBounds_toArray, List.set_cons_zero, List.set_cons_succ]
    refine take_at (i := 16) 21 rfl rfl (by kernel_rfl) (by kernel_rfl) (by kernel_rfl) (fun _ _ _ h => h) (.inr ⟨by rfl, rfl⟩) hHeld ?_
    simp only [List.setIfInBounds_toArray, List.set_cons_zero, List.set_cons_succ]
    refine take_at (i := 17) 22 rfl rfl (by kernel_rfl) (by kernel_rfl) (by kernel_rfl) (fun _ _ _ h => h) (.inr ⟨by rfl, rfl⟩) hHeld ?_
    simp only [List.setIfInBounds_toArray, List.set_cons_zero, List.set_cons_succ]
    refine take_at (i := 18) 23 rfl rfl (by kernel_rfl) (by kernel_rfl) (by kernel_rfl) (fun _ _ _ h => h) (sure_yes (by rfl) (fun w => by go_simp; try with_reducible rfl)) hHeld ?_
    simp only [List.setIfInBounds_toArray, List.set_cons_zero, List.set_cons_succ]
    refine take_at (i := 19) 4 rfl rfl (by kernel_rfl) (by kernel_rfl) (by kernel_rfl) (fun _ _ _ h => h) (sure_yes (by rfl) (fun w => by go_simp; try with_reducible rfl)) hHeld ?_
    simp only [List.setIfInBounds_toArray, List.set_cons_zero, List.set_cons_succ]
    refine wpAnyH_done (by kernel_rfl) ?_ _
    go_wp2
    go_ret
    exact ⟨by rw [HR.out]; rfl, below_next B0.out hHeld⟩
  | true =>
    rw [hm] at MY
    by_cases hnil : l = []
    · subst hnil
      have HR := Lib.hid (fol_nil hm)
      obtain ⟨ao, cap, rfl⟩ := dots_shape hv 0 rfl
      clear hv hl hm
      go_enter Tryz.func132, Tryz.ntmps132
      go_upto_region 1 with fail
      generalize w.alloc (.cells #[.int .i64 r, .int .i64 q] 24 (0, 0)) = W0 at *
      refine wp_region_held_drew (S := fun w' => Below W0.heap.size W0 w') (by kernel_rfl) (drawS (Below.refl _ _)) (fun hHeld => ?_)
      generalize W0.drew = wd at hHeld ⊢
      refine take_at (i := 0) 5 rfl rfl (by kernel_rfl) (by kernel_rfl) (by kernel_rfl) (fun _ _ _ h => h) (row_yields (by rfl) 24 (.tmp 3) rfl w.heap.size rfl 24 _ (0, 0) _ Tryz.underlying24 rfl (by kernel_rfl) (fun _ h => row_kept E0.out h)) hHeld ?_
      simp only [List.setIfInBounds_toArray, List.set_cons_zero, List.set_cons_succ]
      refine wpAnyH_ready (rs := [1]) (by kernel_rfl) (by simp) ?_
      refine AllReadyH.cons rfl (fun K hK => ?_) AllReadyH.nil
      go_simp
      go_at_call 68
      refine (MY.out _).mono ?_
      rintro e w6 ⟨rfl, hb⟩
      dsimp only
      refine hK.out _ _ (below_next hHeld hb) (fun hHeld => ?_)
      clear hK K hb
      refine take_at (i := 2) 7 rfl rfl (by kernel_rfl) (by kernel_rfl) (by kernel_rfl) (fun _ _ _ h => h) (sure_yes (by rfl) (fun w => by go_simp; try with_reducible rfl)) hHeld ?_
      simp only [List.setIfInBounds_toArray, List.set_cons_zero, List.set_cons_succ]
      refine take_at (i := 3) 8 rfl rfl (by kernel_rfl) (by kernel_rfl) (by kernel_rfl) (fun _ _ _ h => h) (sure_yes (by rfl) (fun w => by go_simp; try with_reducible rfl)) hHeld ?_
      simp only [List.setIfInBounds_toArray, List.set_cons_zero, List.set_cons_succ]
      refine take_at (i := 4) 9 rfl rfl (by kernel_rfl) (by kernel_rfl) (by kernel_rfl) (fun _ _ _ h => h) (sure_yes (by rfl) (fun w => by go_simp; try with_reducible rfl)) hHeld ?_
      simp only [List.setIfInBounds_toArray, List.set_cons_zero, List.set_cons_succ]
      refine take_at (i := 5) 10 rfl rfl (by kernel_rfl) (by kernel_rfl) (by kernel_rfl) (fun _ _ _ h => h) (sure_yes (by rfl) (fun w => by go_simp; try with_reducible rfl)) hHeld ?_
      simp only [List.setIfInBounds_toArray, List.set_cons_zero, List.set_cons_succ]
      refine take_at (i := 6) 11 rfl rfl (by kernel_rfl) (by kernel_rfl) (by kernel_rfl) (fun _ _ _ h => h) (sure_yes (by rfl) (fun w => by go_simp; try with_reducible rfl)) hHeld ?_
      simp only [List.setIfInBounds_toArray, List.set_cons_zero, List.set_cons_succ]
      refine take_at (i := 7) 12 rfl rfl (by kernel_rfl) (by kernel_rfl) (by kernel_rfl) (fun _ _ _ h => h) (.inr ⟨by rfl, rfl⟩) hHeld ?_
      simp only [List.setIfInBounds_toArray, List.set_cons_zero, List.set_cons_succ]
      refine take_at (i := 8) 13 rfl rfl (by kernel_rfl) (by kernel_rfl) (by kernel_rfl) (fun _ _ _ h => h) (.inr ⟨by rfl, rfl⟩) hHeld ?_
      simp only [List.setIfInBounds_toArray, List.set_cons_zero, List.set_cons_succ]
      refine take_at (i := 9) 14 rfl rfl (by kernel_rfl) (by kernel_rfl) (by kernel_rfl) (fun _ _ _ h => h) (.inr ⟨by rfl, rfl⟩) hHeld ?_
      simp only [List.setIfInBounds_toArray, List.set_cons_zero, List.set_cons_succ]
      refine take_at (i := 10) 15 rfl rfl (by kernel_rfl) (by kernel_rfl) (by kernel_rfl) (fun _ _ _ h => h) (.inr ⟨by rfl, rfl⟩) hHeld ?_
      simp only [List.setIfInBounds_toArray, List.set_cons_zero, List.set_cons_succ]
      refine take_at (i := 11) 16 rfl rfl (by kernel_rfl) (by kernel_rfl) (by kernel_rfl) (fun _ _ _ h => h) (.inr ⟨by rfl, rfl⟩) hHeld ?_
      simp only [List.setIfInBounds_toArray, List.set_cons_zero, List.set_cons_succ]
      refine take_at (i := 12) 17 rfl rfl (by kernel_rfl) (by kernel_rfl) (by kernel_rfl) (fun _ _ _ h => h) (.inr ⟨by rfl, rfl⟩) hHeld ?_
      simp only [List.setIfInBounds_toArray, List.set_cons_zero, List.set_cons_succ]
      refine take_at (i := 13) 18 rfl rfl (by kernel_rfl) (by kernel_rfl) (by kernel_rfl) (fun _ _ _ h => h) (.inr ⟨by rfl, rfl⟩) hHeld ?_
      simp only [List.setIfInBounds_toArray, List.set_cons_zero, List.set_cons_succ]
      refine take_at (i := 14) 19 rfl rfl (by kernel_rfl) (by kernel_rfl) (by kernel_rfl) (fun _ _ _ h => h) (.inr ⟨by rfl, rfl⟩) hHeld ?_
      simp only [List.setIfInBounds_toArray, List.set_cons_zero, List.set_cons_succ]
      refine take_at (i := 15) 20 rfl rfl (by kernel_rfl) (by kernel_rfl) (by kernel_rfl) (fun _ _ _ h => h) (.inr ⟨by rfl, rfl⟩) hHeld ?_
      simp only [List.setIfInBounds_toArray, List.set_cons_zero, List.set_cons_succ]
      refine take_at (i := 16) 21 rfl rfl (by kernel_rfl) (by kernel_rfl) (by kernel_rfl) (fun _ _ _ h => h) (.inr ⟨by rfl, rfl⟩) hHeld ?_
      simp only [List.setIfInBounds_toArray, List.set_cons_zero, List.set_cons_succ]
      refine take_at (i := 17) 22 rfl rfl (by kernel_rfl) (by kernel_rfl) (by kernel_rfl) (fun _ _ _ h => h) (sure_yes (by rfl) (fun w => by go_simp; try with_reducible rfl)) hHeld ?_
      simp only [List.setIfInBounds_toArray, List.set_cons_zero, List.set_cons_succ]
      refine take_at (i := 18) 23 rfl rfl (by kernel_rfl) (by kernel_rfl) (by kernel_rfl) (fun _ _ _ h => h) (sure_yes (by rfl) (fun w => by go_simp; try with_reducible rfl)) hHeld ?_
      simp only [List.setIfInBounds_toArray, List.set_cons_zero, List.set_cons_succ]
      refine take_at (i := 19) 4 rfl rfl (by kernel_rfl) (by kernel_rfl) (by kernel_rfl) (fun _ _ _ h => h) (sure_yes (by rfl) (fun w => by go_simp; try with_reducible rfl)) hHeld ?_
      simp only [List.setIfInBounds_toArray, List.set_cons_zero, List.set_cons_succ]
      refine wpAnyH_done (by kernel_rfl) ?_ _
      go_wp2
      go_ret
      exact ⟨by rw [HR.out]; rfl, below_next B0.out hHeld⟩
    · obtain ⟨j, hj⟩ : ∃ j, l.length = j + 1 := ⟨l.length - 1, by have := List.length_pos_iff.2 hnil; omega⟩
      obtain ⟨d, hd⟩ : ∃ d, l[j]? = some d := ⟨_, List.getElem?_eq_getElem (by omega)⟩
      obtain ⟨r0, q0⟩ := d
      have HR := Lib.hid (fol_last hm hj hd)
      obtain ⟨n, hn⟩ : ∃ n, n = l.length := ⟨_, rfl⟩
      obtain ⟨ad, cap, rfl, cd, -⟩ := dots_at hv n j hn.symm _ hd
      obtain ⟨c0, -⟩ := dot_cells (show _ = some (dotO r q) from E0.out)
      have CD := Lib.hid ((World.cell?_of_block (B0.out.block _ (World.block_lt_of_cell? _ _ cd))).trans cd)
      have C0 := Lib.hid c0
      have e1 : ((n : Int) == 0) = false := by rw [beq_eq_false_iff_ne]; omega
      have wj : IntKind.i64.wrap ((n : Int) - 1) = (j : Int) := by rw [IntKind.wrap_i64]; omega
      have qj : (j : Int) < (n : Int) := by omega
      clear hv hl hm hnil hj hd hn cd c0
      go_enter Tryz.func132, Tryz.ntmps132
      go_upto_region 1 with fail
      generalize w.alloc (.cells #[.int .i64 r, .int .i64 q] 24 (0, 0)) = W0 at *
      refine wp_region_held_drew (S := fun w' => Below W0.heap.size W0 w') (by kernel_rfl) (drawS (Below.refl _ _)) (fun hHeld => ?_)
      generalize W0.drew = wd at hHeld ⊢
      refine take_at (i := 0) 5 rfl rfl (by kernel_rfl) (by kernel_rfl) (by kernel_rfl) (fun _ _ _ h => h) (row_yields (by rfl) 24 (.tmp 3) rfl w.heap.size rfl 24 _ (0, 0) _ Tryz.underlying24 rfl (by kernel_rfl) (fun _ h => row_kept E0.out h)) hHeld ?_
      simp only [List.setIfInBounds_toArray, List.set_cons_zero, List.set_cons_succ]
      refine wpAnyH_ready (rs := [1]) (by kernel_rfl) (by simp) ?_
      refine AllReadyH.cons rfl (fun K hK => ?_) AllReadyH.nil
      go_simp
      go_at_call 68
      refine (MY.out _).mono ?_
      rintro e w6 ⟨rfl, hb⟩
      dsimp only
      refine hK.out _ _ (below_next hHeld hb) (fun hHeld => ?_)
      clear hK K hb
      refine take_at (i := 2) 7 rfl rfl (by kernel_rfl) (by kernel_rfl) (by kernel_rfl) (fun _ _ _ h => h) (sure_yes (by rfl) (fun w => by go_simp; try with_reducible rfl)) hHeld ?_
      simp only [List.setIfInBounds_toArray, List.set_cons_zero, List.set_cons_succ]
      refine take_at (i := 3) 8 rfl rfl (by kernel_rfl) (by kernel_rfl) (by kernel_rfl) (fun _ _ _ h => h) (sure_yes (by rfl) (fun w => by go_simp; try with_reducible rfl)) hHeld ?_
      simp only [List.setIfInBounds_toArray, List.set_cons_zero, List.set_cons_succ]
      refine take_at (i := 4) 9 rfl rfl (by kernel_rfl) (by kernel_rfl) (by kernel_rfl) (fun _ _ _ h => h) (sure_yes (by rfl) (fun w => by go_simp; try with_reducible rfl)) hHeld ?_
      simp only [List.setIfInBounds_toArray, List.set_cons_zero, List.set_cons_succ]
      refine take_at (i := 5) 10 rfl rfl (by kernel_rfl) (by kernel_rfl) (by kernel_rfl) (fun _ _ _ h => h) (sure_yes (by rfl) (fun w => by go_simp; try with_reducible rfl)) hHeld ?_
      simp only [List.setIfInBounds_toArray, List.set_cons_zero, List.set_cons_succ]
      refine take_at (i := 6) 11 rfl rfl (by kernel_rfl) (by kernel_rfl) (by kernel_rfl) (fun _ _ _ h => h) (sure_yes (by rfl) (fun w => by go_simp; try with_reducible rfl)) hHeld ?_
      simp only [List.setIfInBounds_toArray, List.set_cons_zero, List.set_cons_succ]
      refine take_at (i := 7) 12 rfl rfl (by kernel_rfl) (by kernel_rfl) (by kernel_rfl) (fun _ _ _ h => h) (sure_yes (by rfl) (fun w => by go_simp; try with_reducible rfl)) hHeld ?_
      simp only [List.setIfInBounds_toArray, List.set_cons_zero, List.set_cons_succ]
      refine take_at (i := 8) 13 rfl rfl (by kernel_rfl) (by kernel_rfl) (by kernel_rfl) (fun _ _ _ h => h) (sure_yes (by rfl) (fun w => by go_simp; try with_reducible rfl)) hHeld ?_
      simp only [List.setIfInBounds_toArray, List.set_cons_zero, List.set_cons_succ]
      refine take_at (i := 9) 14 rfl rfl (by kernel_rfl) (by kernel_rfl) (by kernel_rfl) (fun _ _ _ h => h) (sure_yes (by rfl) (fun w => by go_simp; try with_reducible rfl)) hHeld ?_
      simp only [List.setIfInBounds_toArray, List.set_cons_zero, List.set_cons_succ]
      refine take_at (i := 10) 15 rfl rfl (by kernel_rfl) (by kernel_rfl) (by kernel_rfl) (fun _ _ _ h => h) (sure_yes (by rfl) (fun w => by go_simp; try with_reducible rfl)) hHeld ?_
      simp only [List.setIfInBounds_toArray, List.set_cons_zero, List.set_cons_succ]
      refine take_at (i := 11) 16 rfl rfl (by kernel_rfl) (by kernel_rfl) (by kernel_rfl) (fun _ _ _ h => h) (sure_yes (by rfl) (fun w => by go_simp; try with_reducible rfl)) hHeld ?_
      simp only [List.setIfInBounds_toArray, List.set_cons_zero, List.set_cons_succ]
      refine take_at (i := 12) 17 rfl rfl (by kernel_rfl) (by kernel_rfl) (by kernel_rfl) (fun _ _ _ h => h) (sure_yes (by rfl) (fun w => by go_simp; try with_reducible rfl)) hHeld ?_
      simp only [List.setIfInBounds_toArray, List.set_cons_zero, List.set_cons_succ]
      refine take_at (i := 14) 19 rfl rfl (by kernel_rfl) (by kernel_rfl) (by kernel_rfl) (fun _ _ _ h => h) (sure_yes (by rfl) (fun w => by go_simp; try with_reducible rfl)) hHeld ?_
      simp only [List.setIfInBounds_toArray, List.set_cons_zero, List.set_cons_succ]
      refine take_at (i := 13) 18 rfl rfl (by kernel_rfl) (by kernel_rfl) (by kernel_rfl) (fun _ _ _ h => h) (addr_yields (by rfl) 3 (.tmp 17) rfl (ad.add (j * 2)) rfl .i64 r0 Tryz.underlying3 (fun w h => (World.cell?_of_block (h.block _ (World.block_lt_of_cell? _ _ CD.out))).trans CD.out)) hHeld ?_
      simp only [List.setIfInBounds_toArray, List.set_cons_zero, List.set_cons_succ]
      refine take_at (i := 15) 20 rfl rfl (by kernel_rfl) (by kernel_rfl) (by kernel_rfl) (fun _ _ _ h => h) (cell_yields (by rfl) 3 (.tmp 19) rfl w.heap.size 0 rfl .i64 r Tryz.underlying3 (fun w h => (World.cell?_of_block (h.block _ (World.block_lt_of_cell? _ _ C0.out))).trans C0.out)) hHeld ?_
      simp only [List.setIfInBounds_toArray, List.set_cons_zero, List.set_cons_succ]
      refine take_at (i := 16) 21 rfl rfl (by kernel_rfl) (by kernel_rfl) (by kernel_rfl) (fun _ _ _ h => h) (sure_yes (by rfl) (fun w => by go_simp; try with_reducible rfl)) hHeld ?_
      simp only [List.setIfInBounds_toArray, List.set_cons_zero, List.set_cons_succ]
      refine take_at (i := 17) 22 rfl rfl (by kernel_rfl) (by kernel_rfl) (by kernel_rfl) (fun _ _ _ h => h) (sure_yes (by rfl) (fun w => by go_simp; try with_reducible rfl)) hHeld ?_
      simp only [List.setIfInBounds_toArray, List.set_cons_zero, List.set_cons_succ]
      refine take_at (i := 18) 23 rfl rfl (by kernel_rfl) (by kernel_rfl) (by kernel_rfl) (fun _ _ _ h => h) (sure_yes (by rfl) (fun w => by go_simp; try with_reducible rfl)) hHeld ?_
      simp only [List.setIfInBounds_toArray, List.set_cons_zero, List.set_cons_succ]
      refine take_at (i := 19) 4 rfl rfl (by kernel_rfl) (by kernel_rfl) (by kernel_rfl) (fun _ _ _ h => h) (sure_yes (by rfl) (fun w => by go_simp; try with_reducible rfl)) hHeld ?_
      simp only [List.setIfInBounds_toArray, List.set_cons_zero, List.set_cons_succ]
      refine wpAnyH_done (by kernel_rfl) ?_ _
      go_wp2
      go_ret
      exact ⟨by rw [HR.out]; rfl, below_next B0.out hHeld⟩
set_option maxRecDepth 100000 in
set_option maxHeartbeats 16000000 in
theorem vecMay_any (l : List D2) (hl : l.length < 2000000) (v : Value) (w : World) (hv : HasDots w v l) : Calls Tryz.prog 106 #[v] w fun e w' => e = .returned (.bool (mayV l)) ∧ Below w.heap.size w w' := by
  have HV := Lib.hid hv
  obtain ⟨n, hn⟩ : ∃ n, n = l.length := ⟨_, rfl⟩
  obtain ⟨ao, cap, rfl⟩ := dots_shape hv n hn
  have HN := Lib.hid hn
  have hn4 : n < 2000000 := by omega
  clear hn hv hl
  go_enter Tryz.func106, Tryz.ntmps106
  go_wp2
  go_loopw [7] (fun c wr => ∃ k : Nat, k ≤ n ∧ c = .int .i64 (k : Int) ∧ mayV (l.take k) = true ∧ Below w.heap.size w wr) (fun c _ => n - (intOf c).toNat)
  case atStart => exact ⟨0, Nat.zero_le _, rfl, mayV_nil, Below.refl _ _⟩
  case round =>
    obtain ⟨k, hk, rfl, hok, hb⟩ := hrel
    by_cases hlt : k < n
    · have q0 : (k : Int) < (n : Int) := by omega
      have hkl : k < l.length := by rw [← HN.out]; exact hlt
      obtain ⟨d, hd⟩ : ∃ d, l[k]? = some d := ⟨_, List.getElem?_eq_getElem hkl⟩
      have HA := Lib.hid (mayV_take hd)
      obtain ⟨r, q⟩ := d
      have HVr := dots_below HV.out hb
      obtain ⟨ad, cap', e, c0, c1⟩ := dots_at HVr n k HN.out.symm _ hd
      cases e
      have C0 := Lib.hid (And.intro c0 c1)
      have KK := Lib.hid (show k + 1 ≤ n ∧ n - (k + 1) < n - k by omega)
      have D0 := Lib.hid (heap_last wr (.cells #[.int .i64 r, .int .i64 q] 24 (0, 0)))
      have B0 := Lib.hid (hb.alloc hb.size (.cells #[.int .i64 r, .int .i64 q] 24 (0, 0)))
      have HT := Lib.hid (dots_below (dots_part HVr k hk HN.out) ((Below.refl wr.heap.size wr).alloc (Nat.le_refl _) (.cells #[.int .i64 r, .int .i64 q] 24 (0, 0))))
      have MF := Lib.hid (fun w hv => mayFollow_any (l.take k) (by rw [List.length_take]; omega) r q (.slice (some ad) k cap) w hv)
      have q1 : (k : Int) ≤ (cap : Int) := by obtain ⟨ao, c', e, -, hc⟩ := HVr; injection e with e1 e2 e3; subst e3; have := (hc ad e1.symm).1; have := HN.out; omega
      have HO := Lib.hid hok
      obtain ⟨B, hB⟩ : ∃ B, fol (l.take k) (r, q) = B := ⟨_, rfl⟩
      rw [hB] at MF HA
      clear c0 c1 hb hd hkl HVr hok hB
      go_wp2_with (first
        | (refine load_dot10 (by rfl) 24 (.tmp 10) rfl (ad.add (k * 2)) rfl r q Tryz.underlying24 (by kernel_rfl) C0.out ?_))
      generalize wr.alloc (.cells #[.int .i64 r, .int .i64 q] 24 (0, 0)) = W1 at *
      refine wp_region_held_drew (S := fun w' => Below W1.heap.size W1 w') (by kernel_rfl) (drawS (Below.refl _ _)) (fun hHeld => ?_)
      generalize W1.drew = wd at hHeld ⊢
      refine take_at (i := 0) 12 rfl rfl (by kernel_rfl) (by kernel_rfl) (by kernel_rfl) (fun _ _ _ h => h) (sure_yes (by rfl) (fun w => by go_simp; try with_reducible rfl)) hHeld ?_
      simp only [List.setIfInBounds_toArray, List.set_cons_zero, List.set_cons_succ]
      refine take_at (i := 1) 13 rfl rfl (by kernel_rfl) (by kernel_rfl) (by kernel_rfl) (fun _ _ _ h => h) (sure_yes (by rfl) (fun w => by go_simp; try with_reducible rfl)) hHeld ?_
      simp only [List.setIfInBounds_toArray, List.set_cons_zero, List.set_cons_succ]
      refine take_at (i := 2) 14 rfl rfl (by kernel_rfl) (by kernel_rfl) (by kernel_rfl) (fun _ _ _ h => h) (sure_yes (by rfl) (fun w => by go_simp; try with_reducible rfl)) hHeld ?_
      simp only [List.setIfInBounds_toArray, List.set_cons_zero, List.set_cons_succ]
      refine take_at (i := 3) 15 rfl rfl (by kernel_rfl) (by kernel_rfl) (by kernel_rfl) (fun _ _ _ h => h) (row_yields (by rfl) 24 (.tmp 4) rfl wr.heap.size rfl 24 _ (0, 0) _ Tryz.underlying24 rfl (by kernel_rfl) (fun _ h => row_kept D0.out h)) hHeld ?_
      simp only [List.setIfInBounds_toArray, List.set_cons_zero, List.set_cons_succ]
      refine wpAnyH_ready (rs := [4]) (by kernel_rfl) (by simp) ?_
      refine AllReadyH.cons rfl (fun K hK => ?_) AllReadyH.nil
      go_simp
      go_at_call 132
      refine (MF.out _ (dots_below HT.out hHeld)).mono ?_
      rintro e w6 ⟨rfl, hb⟩
      dsimp only
      refine hK.out _ _ (below_next hHeld hb) (fun hHeld => ?_)
      clear hK K hb
      refine take_at (i := 5) 17 rfl rfl (by kernel_rfl) (by kernel_rfl) (by kernel_rfl) (fun _ _ _ h => h) (sure_yes (by rfl) (fun w => by go_simp; try with_reducible rfl)) hHeld ?_
      simp only [List.setIfInBounds_toArray, List.set_cons_zero, List.set_cons_succ]
      refine wpAnyH_done (by kernel_rfl) ?_ _
      cases B with
      | true =>
        go_wp2
        refine ⟨⟨k + 1, KK.out.1, by simp, by rw [HA.out, HO.out]; rfl, below_next B0.out hHeld⟩, ?_⟩
        simp [intOf]; exact KK.out.2
      | false =>
        have HF := Lib.hid (mayV_ahead (l := l) (k := k + 1) (by rw [HA.out, HO.out]; rfl))
        go_wp2
        go_ret
        exact ⟨by rw [HF.out]; rfl, below_next B0.out hHeld⟩
    · have q0 : ¬ (k : Int) < (n : Int) := by omega
      have HE := Lib.hid (show l.take k = l by rw [show k = l.length by rw [← HN.out]; omega, List.take_length])
      rw [HE.out] at hok
      have HO := Lib.hid hok
      have HB := Lib.hid hb
      clear hok hb
      go_wp2
      go_ret
      exact ⟨by rw [HO.out]; rfl, HB.out⟩
end Go.Proofs.YtcdjkjadbhejpaaGreatDoor
namespace Go.Proofs.YtcdjkjadbhejpaaGreatDoor
open Go.RowKit
/-- What path.Own owes. -/
def OwnSays : Prop := ∀ w (s : List UInt8), s.length < 1152921504606846976 → PowTab w → Calls Tryz.prog 70 #[.string (str s)] w fun e w' => e = .returned (.bool (ownP s)) ∧ Below w.heap.size w w'
theorem zero_row : rowV .u8 32 zeroF = .agg #[.int .u8 0, .int .u8 0, .int .u8 0, .int .u8 0, .int .u8 0, .int .u8 0, .int .u8 0, .int .u8 0, .int .u8 0, .int .u8 0, .int .u8 0, .int .u8 0, .int .u8 0, .int .u8 0, .int .u8 0, .int .u8 0, .int .u8 0, .int .u8 0, .int .u8 0, .int .u8 0, .int .u8 0, .int .u8 0, .int .u8 0, .int .u8 0, .int .u8 0, .int .u8 0, .int .u8 0, .int .u8 0, .int .u8 0, .int .u8 0, .int .u8 0, .int .u8 0] := by kernel_rfl
set_option maxRecDepth 100000 in
set_option maxHeartbeats 4000000 in
theorem mayHappen_any (e : Ev) (v : Value) (w : World) : Calls Tryz.prog 71 #[.agg (evC e v)] w fun x w' => x = .returned (.bool (mayH e)) ∧ Below w.heap.size w w' := by
  have E0 := Lib.hid (box_ev w 30 e v)
  have B0 := Lib.hid ((Below.refl w.heap.size w).alloc (Nat.le_refl _) (.cells (evC e v) 30 (0, 0)))
  obtain ⟨-, -, -, c3, -, c5⟩ := evAt_cells E0.out
  obtain ⟨b, hb⟩ : ∃ b, sameRow 32 e.sum zeroF = b := ⟨_, rfl⟩
  have hq := eql_rowV (P := Tryz.prog) Tryz.underlying28 Tryz.underlying5 cellsByte e.sum zeroF hb
  have hg := guard_rowV (P := Tryz.prog) digestGuard (.tmp 22) (.tmp 23) .u8 32 e.sum zeroF
  rw [zero_row] at hq hg
  by_cases h1 : e.kind = 1
  · clear hq hg hb
    by_cases h3 : 0 ≤ e.size
    · have HM := Lib.hid (show mayH e = decide (e.size ≤ 65536) by simp [mayH, h1, h3])
      go_enter Tryz.func71, Tryz.ntmps71
      go_wp2
      go_ret
      exact ⟨by rw [HM.out]; rfl, B0.out⟩
    · have HM := Lib.hid (show mayH e = false by simp [mayH, h1, h3])
      go_enter Tryz.func71, Tryz.ntmps71
      go_wp2
      go_ret
      exact ⟨by rw [HM.out]; rfl, B0.out⟩
  · by_cases h2 : e.kind = 2
    · have HM := Lib.hid (show mayH e = (decide (e.size = 0) && b) by simp [mayH, h2, hb])
      clear hb
      by_cases h3 : e.size = 0
      · go_enter Tryz.func71, Tryz.ntmps71
        go_wp2_with (first
          | (refine load_sum_on (by rfl) 28 (.tmp 21) rfl w.heap.size rfl E0.out Tryz.underlying28 sumSize ?_))
        go_ret
        exact ⟨by rw [HM.out]; simp [h3], B0.out⟩
      · clear hq hg
        go_enter Tryz.func71, Tryz.ntmps71
        go_wp2
        go_ret
        exact ⟨by rw [HM.out]; simp [h3], B0.out⟩
    · have HM := Lib.hid (show mayH e = false by simp [mayH, h1, h2])
      clear hq hg hb
      go_enter Tryz.func71, Tryz.ntmps71
      go_wp2
      go_ret
      exact ⟨by rw [HM.out]; rfl, B0.out⟩
/- mayBeKnown, May, Knows. -/
set_option maxRecDepth 100000 in
set_option maxHeartbeats 16000000 in
theorem mayKnown_any (l : List D2) (hl : l.length < 2000000) (r q : Int) (hd : mayD r q = true) (v : Value) (w : World) (hv : HasDots w v l) : Calls Tryz.prog 69 #[v, .agg #[.int .i64 r, .int .i64 q]] w fun e w' => e = .returned (.bool (mayV l && decide (getV l r = q - 1))) ∧ Below w.heap.size w w' := by
  have HV := Lib.hid hv
  have MY := Lib.hid (fun w hv => vecMay_any l hl v w hv)
  have GT := Lib.hid (fun w hv => vecGet_any l hl r v w hv)
  have E0 := Lib.hid (show (w.alloc (.cells #[.int .i64 r, .int .i64 q] 24 (0, 0))).heap[w.heap.size]? = some (.cells #[.int .i64 r, .int .i64 q] 24 (0, 0)) from one_box w r q)
  obtain ⟨c0, c1⟩ := dot_cells (show _ = some (dotO r q) from E0.out)
  have C0 := Lib.hid c0
  have C1 := Lib.hid c1
  have B0 := Lib.hid ((Below.refl w.heap.size w).alloc (Nat.le_refl _) (.cells #[.int .i64 r, .int .i64 q] 24 (0, 0)))
  obtain ⟨ao, cap, rfl⟩ := dots_shape hv l.length rfl
  obtain ⟨n, hn⟩ : ∃ n, n = l.length := ⟨_, rfl⟩
  rw [← hn] at HV MY GT ⊢
  obtain ⟨G, hG⟩ : ∃ G, G = getV l r := ⟨_, rfl⟩
  rw [← hG] at GT ⊢
  obtain ⟨p, hp⟩ : ∃ p, q - 1 = p := ⟨_, rfl⟩
  have hq := mayT_bd (d := (r, q)) hd
  have hpb : -9223372036854775808 ≤ p ∧ p < 9223372036854775808 := by dsimp only at hq; omega
  have hw : IntKind.i64.wrap (q - 1) = p := by rw [hp, IntKind.wrap_i64]; omega
  rw [hp]
  clear hv hl hn hG c0 c1 hq hd hp hpb
  cases hm : mayV l with
  | true =>
    rw [hm] at MY
    clear hm
    go_enter Tryz.func69, Tryz.ntmps69
    go_upto_region 1 with fail
    generalize w.alloc (.cells #[.int .i64 r, .int .i64 q] 24 (0, 0)) = W0 at *
    refine wp_region_held_drew (S := fun w' => Below W0.heap.size W0 w') (by kernel_rfl) (drawS (Below.refl _ _)) (fun hHeld => ?_)
    generalize W0.drew = wd at hHeld ⊢
    refine take_at (i := 0) 5 rfl rfl (by kernel_rfl) (by kernel_rfl) (by kernel_rfl) (fun _ _ _ h => h) (sure_yes (by rfl) (fun w => by go_simp; try with_reducible rfl)) hHeld ?_
    simp only [List.setIfInBounds_toArray, List.set_cons_zero, List.set_cons_succ]
    refine wpAnyH_ready (rs := [1]) (by kernel_rfl) (by simp) ?_
    refine AllReadyH.cons rfl (fun CONT hCONT => ?_) AllReadyH.nil
    go_simp
    go_at_call 106
    refine (MY.out _ (dots_below HV.out (below_next B0.out hHeld))).mono ?_
    rintro e w6 ⟨rfl, hb⟩
    dsimp only
    refine hCONT.out _ _ (below_next hHeld hb) (fun hHeld => ?_)
    clear hCONT CONT hb
    refine take_at (i := 2) 7 rfl rfl (by kernel_rfl) (by kernel_rfl) (by kernel_rfl) (fun _ _ _ h => h) (sure_yes (by rfl) (fun w => by go_simp; try with_reducible rfl)) hHeld ?_
    simp only [List.setIfInBounds_toArray, List.set_cons_zero, List.set_cons_succ]
    refine take_at (i := 3) 8 rfl rfl (by kernel_rfl) (by kernel_rfl) (by kernel_rfl) (fun _ _ _ h => h) (sure_yes (by rfl) (fun w => by go_simp; try with_reducible rfl)) hHeld ?_
    simp only [List.setIfInBounds_toArray, List.set_cons_zero, List.set_cons_succ]
    refine take_at (i := 4) 9 rfl rfl (by kernel_rfl) (by kernel_rfl) (by kernel_rfl) (fun _ _ _ h => h) (sure_yes (by rfl) (fun w => by go_simp; try with_reducible rfl)) hHeld ?_
    simp only [List.setIfInBounds_toArray, List.set_cons_zero, List.set_cons_succ]
    refine take_at (i := 7) 12 rfl rfl (by kernel_rfl) (by kernel_rfl) (by kernel_rfl) (fun _ _ _ h => h) (sure_yes (by rfl) (fun w => by go_simp; try with_reducible rfl)) hHeld ?_
    simp only [List.setIfInBounds_toArray, List.set_cons_zero, List.set_cons_succ]
    refine take_at (i := 5) 10 rfl rfl (by kernel_rfl) (by kernel_rfl) (by kernel_rfl) (fun _ _ _ h => h) (cell_yields (by rfl) 3 (.tmp 9) rfl w.heap.size 0 rfl .i64 r Tryz.underlying3 (fun w h => (World.cell?_of_block (h.block _ (World.block_lt_of_cell? _ _ C0.out))).trans C0.out)) hHeld ?_
    simp only [List.setIfInBounds_toArray, List.set_cons_zero, List.set_cons_succ]
    refine take_at (i := 8) 13 rfl rfl (by kernel_rfl) (by kernel_rfl) (by kernel_rfl) (fun _ _ _ h => h) (cell_yields (by rfl) 2 (.tmp 12) rfl w.heap.size 1 rfl .i64 q Tryz.underlying2 (fun w h => (World.cell?_of_block (h.block _ (World.block_lt_of_cell? _ _ C1.out))).trans C1.out)) hHeld ?_
    simp only [List.setIfInBounds_toArray, List.set_cons_zero, List.set_cons_succ]
    refine take_at (i := 9) 14 rfl rfl (by kernel_rfl) (by kernel_rfl) (by kernel_rfl) (fun _ _ _ h => h) (sure_yes (by rfl) (fun w => by go_simp; try with_reducible rfl)) hHeld ?_
    simp only [List.setIfInBounds_toArray, List.set_cons_zero, List.set_cons_succ]
    refine wpAnyH_ready (rs := [6]) (by kernel_rfl) (by simp) ?_
    refine AllReadyH.cons rfl (fun CONT hCONT => ?_) AllReadyH.nil
    go_simp
    go_at_call 107
    refine (GT.out _ (dots_below HV.out (below_next B0.out hHeld))).mono ?_
    rintro e w7 ⟨rfl, hb⟩
    dsimp only
    refine hCONT.out _ _ (below_next hHeld hb) (fun hHeld => ?_)
    clear hCONT CONT hb
    refine take_at (i := 10) 15 rfl rfl (by kernel_rfl) (by kernel_rfl) (by kernel_rfl) (fun _ _ _ h => h) (sure_yes (by rfl) (fun w => by go_simp; try with_reducible rfl)) hHeld ?_
    simp only [List.setIfInBounds_toArray, List.set_cons_zero, List.set_cons_succ]
    refine take_at (i := 11) 16 rfl rfl (by kernel_rfl) (by kernel_rfl) (by kernel_rfl) (fun _ _ _ h => h) (sure_yes (by rfl) (fun w => by go_simp; try with_reducible rfl)) hHeld ?_
    simp only [List.setIfInBounds_toArray, List.set_cons_zero, List.set_cons_succ]
    refine take_at (i := 12) 4 rfl rfl (by kernel_rfl) (by kernel_rfl) (by kernel_rfl) (fun _ _ _ h => h) (sure_yes (by rfl) (fun w => by go_simp; try with_reducible rfl)) hHeld ?_
    simp only [List.setIfInBounds_toArray, List.set_cons_zero, List.set_cons_succ]
    refine wpAnyH_done (by kernel_rfl) ?_ _
    go_wp2
    go_ret
    exact ⟨by rw [Bool.true_and]; rfl, below_next B0.out hHeld⟩
  | false =>
    rw [hm] at MY
    clear hm
    go_enter Tryz.func69, Tryz.ntmps69
    go_upto_region 1 with fail
    generalize w.alloc (.cells #[.int .i64 r, .int .i64 q] 24 (0, 0)) = W0 at *
    refine wp_region_held_drew (S := fun w' => Below W0.heap.size W0 w') (by kernel_rfl) (drawS (Below.refl _ _)) (fun hHeld => ?_)
    generalize W0.drew = wd at hHeld ⊢
    refine take_at (i := 0) 5 rfl rfl (by kernel_rfl) (by kernel_rfl) (by kernel_rfl) (fun _ _ _ h => h) (sure_yes (by rfl) (fun w => by go_simp; try with_reducible rfl)) hHeld ?_
    simp only [List.setIfInBounds_toArray, List.set_cons_zero, List.set_cons_succ]
    refine wpAnyH_ready (rs := [1]) (by kernel_rfl) (by simp) ?_
    refine AllReadyH.cons rfl (fun CONT hCONT => ?_) AllReadyH.nil
    go_simp
    go_at_call 106
    refine (MY.out _ (dots_below HV.out (below_next B0.out hHeld))).mono ?_
    rintro e w6 ⟨rfl, hb⟩
    dsimp only
    refine hCONT.out _ _ (below_next hHeld hb) (fun hHeld => ?_)
    clear hCONT CONT hb
    refine take_at (i := 2) 7 rfl rfl (by kernel_rfl) (by kernel_rfl) (by kernel_rfl) (fun _ _ _ h => h) (sure_yes (by rfl) (fun w => by go_simp; try with_reducible rfl)) hHeld ?_
    simp only [List.setIfInBounds_toArray, List.set_cons_zero, List.set_cons_succ]
    refine take_at (i := 3) 8 rfl rfl (by kernel_rfl) (by kernel_rfl) (by kernel_rfl) (fun _ _ _ h => h) (.inr ⟨by rfl, rfl⟩) hHeld ?_
    simp only [List.setIfInBounds_toArray, List.set_cons_zero, List.set_cons_succ]
    refine take_at (i := 4) 9 rfl rfl (by kernel_rfl) (by kernel_rfl) (by kernel_rfl) (fun _ _ _ h => h) (.inr ⟨by rfl, rfl⟩) hHeld ?_
    simp only [List.setIfInBounds_toArray, List.set_cons_zero, List.set_cons_succ]
    refine take_at (i := 5) 10 rfl rfl (by kernel_rfl) (by kernel_rfl) (by kernel_rfl) (fun _ _ _ h => h) (.inr ⟨by rfl, rfl⟩) hHeld ?_
    simp only [List.setIfInBounds_toArray, List.set_cons_zero, List.set_cons_succ]
    refine take_at (i := 6) 11 rfl rfl (by kernel_rfl) (by kernel_rfl) (by kernel_rfl) (fun _ _ _ h => h) (.inr ⟨by rfl, rfl⟩) hHeld ?_
    simp only [List.setIfInBounds_toArray, List.set_cons_zero, List.set_cons_succ]
    refine take_at (i := 7) 12 rfl rfl (by kernel_rfl) (by kernel_rfl) (by kernel_rfl) (fun _ _ _ h => h) (.inr ⟨by rfl, rfl⟩) hHeld ?_
    simp only [List.setIfInBounds_toArray, List.set_cons_zero, List.set_cons_succ]
    refine take_at (i := 8) 13 rfl rfl (by kernel_rfl) (by kernel_rfl) (by kernel_rfl) (fun _ _ _ h => h) (.inr ⟨by rfl, rfl⟩) hHeld ?_
    simp only [List.setIfInBounds_toArray, List.set_cons_zero, List.set_cons_succ]
    refine take_at (i := 9) 14 rfl rfl (by kernel_rfl) (by kernel_rfl) (by kernel_rfl) (fun _ _ _ h => h) (.inr ⟨by rfl, rfl⟩) hHeld ?_
    simp only [List.setIfInBounds_toArray, List.set_cons_zero, List.set_cons_succ]
    refine take_at (i := 10) 15 rfl rfl (by kernel_rfl) (by kernel_rfl) (by kernel_rfl) (fun _ _ _ h => h) (.inr ⟨by rfl, rfl⟩) hHeld ?_
    simp only [List.setIfInBounds_toArray, List.set_cons_zero, List.set_cons_succ]
    refine take_at (i := 11) 16 rfl rfl (by kernel_rfl) (by kernel_rfl) (by kernel_rfl) (fun _ _ _ h => h) (sure_yes (by rfl) (fun w => by go_simp; try with_reducible rfl)) hHeld ?_
    simp only [List.setIfInBounds_toArray, List.set_cons_zero, List.set_cons_succ]
    refine take_at (i := 12) 4 rfl rfl (by kernel_rfl) (by kernel_rfl) (by kernel_rfl) (fun _ _ _ h => h) (sure_yes (by rfl) (fun w => by go_simp; try with_reducible rfl)) hHeld ?_
    simp only [List.setIfInBounds_toArray, List.set_cons_zero, List.set_cons_succ]
    refine wpAnyH_done (by kernel_rfl) ?_ _
    go_wp2
    go_ret
    exact ⟨by rw [Bool.false_and]; rfl, below_next B0.out hHeld⟩
set_option maxRecDepth 100000 in
set_option maxHeartbeats 16000000 in
theorem may_any12 (OWN : OwnSays) (e : Ev) (hl : e.deps.length < 2000000) (hp : e.path.length < 1152921504606846976) (v : Value) (w : World) (hv : HasDots w v e.deps) (hT : PowTab w) : Calls Tryz.prog 37 #[.agg (evC e v)] w fun x w' => x = .returned (.bool (mayE e)) ∧ Below w.heap.size w w' := by
  have HT := Lib.hid hT
  have HV := Lib.hid hv
  have E0 := Lib.hid (box_ev w 30 e v)
  have B0 := Lib.hid ((Below.refl w.heap.size w).alloc (Nat.le_refl _) (.cells (evC e v) 30 (0, 0)))
  have MY := Lib.hid (fun w => may_any9 e.r e.q w)
  have OW := Lib.hid (fun w hT => OWN w e.path hp hT)
  have HP := Lib.hid (fun w => mayHappen_any e v w)
  cases h1 : mayD e.r e.q with
  | false =>
    have HM := Lib.hid (show mayE e = false by simp [mayE, h1])
    rw [h1] at MY
    clear h1 hT hv hl hp
    go_enter Tryz.func37, Tryz.ntmps37
    go_wp2_with (first
      | (refine load_dot10 (by rfl) 24 (.tmp 3) rfl ⟨w.heap.size, 0, none⟩ rfl e.r e.q Tryz.underlying24 (by kernel_rfl) (evAt_dot E0.out) ?_)
      | (go_at_call 68; refine (MY.out _).mono ?_; rintro x w1 ⟨rfl, hb⟩; have B1 := Lib.hid (below_next B0.out hb); have E1 := Lib.hid (evAt_kept E0.out hb); obtain ⟨-, -, c2, -, -, -⟩ := evAt_cells E1.out; clear hb))
    go_ret
    exact ⟨by rw [HM.out]; rfl, B1.out⟩
  | true =>
    have KN := Lib.hid (fun w hv => mayKnown_any e.deps hl e.r e.q h1 v w hv)
    rw [h1] at MY
    obtain ⟨ao, cap, rfl⟩ := dots_shape hv e.deps.length rfl
    cases h2 : (mayV e.deps && decide (getV e.deps e.r = e.q - 1)) with
    | false =>
      have HM := Lib.hid (show mayE e = false by simp [mayE, h1, knownE, h2])
      rw [h2] at KN
      clear h1 h2 hT hv hl hp
      go_enter Tryz.func37, Tryz.ntmps37
      go_wp2_with (first
        | (refine load_dot10 (by rfl) 24 (.tmp 3) rfl ⟨w.heap.size, 0, none⟩ rfl e.r e.q Tryz.underlying24 (by kernel_rfl) (evAt_dot E0.out) ?_)
        | (go_at_call 68; refine (MY.out _).mono ?_; rintro x w1 ⟨rfl, hb⟩; have B1 := Lib.hid (below_next B0.out hb); have E1 := Lib.hid (evAt_kept E0.out hb); obtain ⟨-, -, c2, -, -, -⟩ := evAt_cells E1.out; clear hb)
        | (refine load_dot10 (by rfl) 24 (.tmp 9) rfl ⟨w.heap.size, 0, none⟩ rfl e.r e.q Tryz.underlying24 (by kernel_rfl) (evAt_dot E1.out) ?_)
        | (go_at_call 69; refine (KN.out _ (dots_below HV.out B1.out)).mono ?_; rintro x w2 ⟨rfl, hb⟩; have B2 := Lib.hid (below_next B1.out hb); have E2 := Lib.hid (evAt_kept E1.out hb); obtain ⟨-, -, -, -, c4, -⟩ := evAt_cells E2.out; clear hb))
      go_ret
      exact ⟨by rw [HM.out]; rfl, B2.out⟩
    | true =>
      rw [h2] at KN
      cases h3 : ownP e.path with
      | false =>
        have HM := Lib.hid (show mayE e = false by simp [mayE, h3])
        rw [h3] at OW
        clear h1 h2 h3 hT hv hl hp
        go_enter Tryz.func37, Tryz.ntmps37
        go_wp2_with (first
          | (refine load_dot10 (by rfl) 24 (.tmp 3) rfl ⟨w.heap.size, 0, none⟩ rfl e.r e.q Tryz.underlying24 (by kernel_rfl) (evAt_dot E0.out) ?_)
          | (go_at_call 68; refine (MY.out _).mono ?_; rintro x w1 ⟨rfl, hb⟩; have B1 := Lib.hid (below_next B0.out hb); have E1 := Lib.hid (evAt_kept E0.out hb); obtain ⟨-, -, c2, -, -, -⟩ := evAt_cells E1.out; clear hb)
          | (refine load_dot10 (by rfl) 24 (.tmp 9) rfl ⟨w.heap.size, 0, none⟩ rfl e.r e.q Tryz.underlying24 (by kernel_rfl) (evAt_dot E1.out) ?_)
          | (go_at_call 69; refine (KN.out _ (dots_below HV.out B1.out)).mono ?_; rintro x w2 ⟨rfl, hb⟩; have B2 := Lib.hid (below_next B1.out hb); have E2 := Lib.hid (evAt_kept E1.out hb); obtain ⟨-, -, -, -, c4, -⟩ := evAt_cells E2.out; clear hb)
          | (go_at_call 70; refine (OW.out _ (powTab_below HT.out B2.out)).mono ?_; rintro x w3 ⟨rfl, hb⟩; have B3 := Lib.hid (below_next B2.out hb); have E3 := Lib.hid (evAt_kept E2.out hb); clear hb))
        go_ret
        exact ⟨by rw [HM.out]; rfl, B3.out⟩
      | true =>
        have HM := Lib.hid (show mayE e = mayH e by simp [mayE, h1, knownE, h2, h3])
        rw [h3] at OW
        clear h1 h2 h3 hT hv hl hp
        go_enter Tryz.func37, Tryz.ntmps37
        go_wp2_with (first
          | (refine load_dot10 (by rfl) 24 (.tmp 3) rfl ⟨w.heap.size, 0, none⟩ rfl e.r e.q Tryz.underlying24 (by kernel_rfl) (evAt_dot E0.out) ?_)
          | (go_at_call 68; refine (MY.out _).mono ?_; rintro x w1 ⟨rfl, hb⟩; have B1 := Lib.hid (below_next B0.out hb); have E1 := Lib.hid (evAt_kept E0.out hb); obtain ⟨-, -, c2, -, -, -⟩ := evAt_cells E1.out; clear hb)
          | (refine load_dot10 (by rfl) 24 (.tmp 9) rfl ⟨w.heap.size, 0, none⟩ rfl e.r e.q Tryz.underlying24 (by kernel_rfl) (evAt_dot E1.out) ?_)
          | (go_at_call 69; refine (KN.out _ (dots_below HV.out B1.out)).mono ?_; rintro x w2 ⟨rfl, hb⟩; have B2 := Lib.hid (below_next B1.out hb); have E2 := Lib.hid (evAt_kept E1.out hb); obtain ⟨-, -, -, -, c4, -⟩ := evAt_cells E2.out; clear hb)
          | (go_at_call 70; refine (OW.out _ (powTab_below HT.out B2.out)).mono ?_; rintro x w3 ⟨rfl, hb⟩; have B3 := Lib.hid (below_next B2.out hb); have E3 := Lib.hid (evAt_kept E2.out hb); clear hb)
          | (refine load_ev_on (by rfl) 30 (.tmp 1) rfl w.heap.size rfl E3.out Tryz.underlying30 evSize ?_)
          | (go_at_call 71; refine (HP.out _).mono ?_; rintro x w4 ⟨rfl, hb⟩; have B4 := Lib.hid (below_next B3.out hb); clear hb))
        go_ret
        exact ⟨by rw [HM.out]; rfl, B4.out⟩
theorem two_evs (w : World) (T : TypeId) (e f : Ev) (v u : Value) : EvAt ((w.alloc (.cells (evC e v) T (0, 0))).alloc (.cells (evC f u) T (0, 0))) w.heap.size T e v ∧ EvAt ((w.alloc (.cells (evC e v) T (0, 0))).alloc (.cells (evC f u) T (0, 0))) (w.heap.size + 1) T f u ∧ Below w.heap.size w ((w.alloc (.cells (evC e v) T (0, 0))).alloc (.cells (evC f u) T (0, 0))) :=
  ⟨evAt_kept (box_ev w T e v) ((Below.refl _ _).alloc (Nat.le_refl _) _), by
    have h := box_ev (w.alloc (.cells (evC e v) T (0, 0))) T f u
    rwa [show (w.alloc (.cells (evC e v) T (0, 0))).heap.size = w.heap.size + 1 by simp] at h, ((Below.refl w.heap.size w).alloc (Nat.le_refl _) _).alloc (by simp) _⟩
set_option maxRecDepth 100000 in
set_option maxHeartbeats 16000000 in
theorem knows_any12 (e f : Ev) (hl : e.deps.length < 2000000) (v u : Value) (w : World) (hv : HasDots w v e.deps) : Calls Tryz.prog 73 #[.agg (evC e v), .agg (evC f u)] w fun x w' => x = .returned (.bool (hasV e.deps f.r f.q)) ∧ Below w.heap.size w w' := by
  obtain ⟨h1, h2, h3⟩ := two_evs w 30 e f v u
  have E1 := Lib.hid h1
  have E2 := Lib.hid h2
  have B0 := Lib.hid h3
  have HH := Lib.hid (vecHas_any e.deps hl f.r f.q v _ (dots_below hv h3))
  obtain ⟨-, -, c2, -, -, -⟩ := evAt_cells h1
  obtain ⟨ao, cap, rfl⟩ := dots_shape hv e.deps.length rfl
  clear h1 h2 h3 hv hl
  go_enter Tryz.func73, Tryz.ntmps73
  go_upto_region 1 with fail
  generalize (w.alloc (.cells (evC e (.slice ao e.deps.length cap)) 30 (0, 0))).alloc (.cells (evC f u) 30 (0, 0)) = W0 at *
  go_wp2_with (first
    | (refine load_dot10 (by rfl) 24 (.tmp 7) rfl ⟨w.heap.size + 1, 0, none⟩ rfl f.r f.q Tryz.underlying24 (by kernel_rfl) (evAt_dot E2.out) ?_)
    | (go_at_call 111; refine HH.out.mono ?_; rintro x w1 ⟨rfl, hb⟩; have B1 := Lib.hid (below_next B0.out hb); clear hb))
  go_ret
  exact ⟨rfl, B1.out⟩
end Go.Proofs.YtcdjkjadbhejpaaGreatDoor
namespace Go.Proofs.YtcdjkjadbhejpaaGreatDoor
open Go.RowKit
/-- Whether all fields of two events are the same. -/
def sameEv (e f : Ev) : Bool := (decide (e.r = f.r) && decide (e.q = f.q)) && (e.deps == f.deps && (decide (e.kind = f.kind) && (e.path == f.path && (sameRow 32 e.sum f.sum && decide (e.size = f.size)))))
theorem sameEv_iff (e f : Ev) : sameEv e f = true ↔ SameE e f := by
  simp only [sameEv, SameE, Bool.and_eq_true, decide_eq_true_eq, beq_iff_eq]
  constructor
  · rintro ⟨⟨h1, h2⟩, h3, h4, h5, h6, h7⟩; exact ⟨h1, h2, h3, h4, h5, h6, h7⟩
  · rintro ⟨h1, h2, h3, h4, h5, h6, h7⟩; exact ⟨⟨h1, h2⟩, h3, h4, h5, h6, h7⟩
set_option maxRecDepth 100000 in
set_option maxHeartbeats 16000000 in
theorem refSame_any12 (e f : Ev) (hl : e.deps.length < 2000000) (v u : Value) (w : World) (hv : HasDots w v e.deps) (hu : HasDots w u f.deps) : Calls Tryz.prog 42 #[.agg (evC e v), .agg (evC f u)] w fun x w' => x = .returned (.bool (sameEv e f)) ∧ Below w.heap.size w w' := by
  obtain ⟨n, hn⟩ : ∃ n, n = e.deps.length := ⟨_, rfl⟩
  obtain ⟨m, hm⟩ : ∃ m, m = f.deps.length := ⟨_, rfl⟩
  obtain ⟨ao, cap, rfl⟩ := dots_shape hv n hn
  obtain ⟨ao2, cap2, rfl⟩ := dots_shape hu m hm
  obtain ⟨h1, h2, h3⟩ := two_evs w 30 e f (.slice ao n cap) (.slice ao2 m cap2)
  have E1 := Lib.hid h1
  have E2 := Lib.hid h2
  have B0 := Lib.hid h3
  have EQ := Lib.hid (refEqual_any e.deps f.deps hl _ _ _ (dots_below hv h3) (dots_below hu h3))
  obtain ⟨-, -, c2, -, -, -⟩ := evAt_cells h1
  obtain ⟨-, -, g2, -, -, -⟩ := evAt_cells h2
  obtain ⟨b, hb⟩ : ∃ b, sameRow 32 e.sum f.sum = b := ⟨_, rfl⟩
  have HQ := Lib.hid (eql_rowV (P := Tryz.prog) Tryz.underlying28 Tryz.underlying5 cellsByte e.sum f.sum hb)
  have HG := Lib.hid (guard_rowV (P := Tryz.prog) digestGuard (.tmp 33) (.tmp 35) .u8 32 e.sum f.sum)
  have HH := Lib.hid (show sameEv e f = ((decide (e.r = f.r) && decide (e.q = f.q)) && (e.deps == f.deps && (decide (e.kind = f.kind) && (e.path == f.path && (b && decide (e.size = f.size)))))) by rw [sameEv, hb])
  have t1 : (str e.path).toList = e.path := str_toList _
  have t2 : (str f.path).toList = f.path := str_toList _
  clear h1 h2 h3 hv hu hl hn hm hb
  by_cases k1 : e.r = f.r ∧ e.q = f.q
  · obtain ⟨k1, k2⟩ := k1
    cases k3 : (e.deps == f.deps) with
    | false =>
      have HS := Lib.hid (show sameEv e f = false by rw [HH.out, k3]; simp)
      rw [k3] at EQ
      clear k3 HH
      go_enter Tryz.func42, Tryz.ntmps42
      go_upto_region 1 with fail
      generalize (w.alloc (.cells (evC e (.slice ao n cap)) 30 (0, 0))).alloc (.cells (evC f (.slice ao2 m cap2)) 30 (0, 0)) = W0 at *
      go_wp2_with (first
        | (refine load_dot10 (by rfl) 24 (.tmp 5) rfl ⟨w.heap.size, 0, none⟩ rfl e.r e.q Tryz.underlying24 (by kernel_rfl) (evAt_dot E1.out) ?_)
        | (refine load_dot10 (by rfl) 24 (.tmp 7) rfl ⟨(w.heap.size + 1), 0, none⟩ rfl f.r f.q Tryz.underlying24 (by kernel_rfl) (evAt_dot E2.out) ?_)
        | (go_at_call 78; refine (EQ.out.mono ?_); rintro x w1 ⟨rfl, hb⟩; have B1 := Lib.hid (below_next B0.out hb); have G1 := Lib.hid (evAt_kept E1.out hb); have G2 := Lib.hid (evAt_kept E2.out hb); obtain ⟨-, -, -, d3, d4, d5⟩ := evAt_cells G1.out; obtain ⟨-, -, -, f3, f4, f5⟩ := evAt_cells G2.out; clear hb))
      go_ret
      exact ⟨by rw [HS.out]; rfl, B1.out⟩
    | true =>
      rw [k3] at EQ
      by_cases k4 : e.kind = f.kind
      · by_cases k5 : e.path = f.path
        · cases b with
          | false =>
            have HS := Lib.hid (show sameEv e f = false by rw [HH.out]; simp)
            have hq := HQ.out
            have hg := HG.out
            clear k3 HH
            go_enter Tryz.func42, Tryz.ntmps42
            go_upto_region 1 with fail
            generalize (w.alloc (.cells (evC e (.slice ao n cap)) 30 (0, 0))).alloc (.cells (evC f (.slice ao2 m cap2)) 30 (0, 0)) = W0 at *
            go_wp2_with (first
              | (refine load_dot10 (by rfl) 24 (.tmp 5) rfl ⟨w.heap.size, 0, none⟩ rfl e.r e.q Tryz.underlying24 (by kernel_rfl) (evAt_dot E1.out) ?_)
              | (refine load_dot10 (by rfl) 24 (.tmp 7) rfl ⟨(w.heap.size + 1), 0, none⟩ rfl f.r f.q Tryz.underlying24 (by kernel_rfl) (evAt_dot E2.out) ?_)
              | (go_at_call 78; refine (EQ.out.mono ?_); rintro x w1 ⟨rfl, hb⟩; have B1 := Lib.hid (below_next B0.out hb); have G1 := Lib.hid (evAt_kept E1.out hb); have G2 := Lib.hid (evAt_kept E2.out hb); obtain ⟨-, -, -, d3, d4, d5⟩ := evAt_cells G1.out; obtain ⟨-, -, -, f3, f4, f5⟩ := evAt_cells G2.out; clear hb)
              | (refine load_sum_on (by rfl) 28 (.tmp 32) rfl w.heap.size rfl G1.out Tryz.underlying28 sumSize ?_)
              | (refine load_sum_on (by rfl) 28 (.tmp 34) rfl (w.heap.size + 1) rfl G2.out Tryz.underlying28 sumSize ?_))
            go_ret
            exact ⟨by rw [HS.out]; rfl, B1.out⟩
          | true =>
            have HS := Lib.hid (show sameEv e f = decide (e.size = f.size) by rw [HH.out, k3]; simp [k1, k2, k4, k5])
            have hq := HQ.out
            have hg := HG.out
            clear k3 HH
            go_enter Tryz.func42, Tryz.ntmps42
            go_upto_region 1 with fail
            generalize (w.alloc (.cells (evC e (.slice ao n cap)) 30 (0, 0))).alloc (.cells (evC f (.slice ao2 m cap2)) 30 (0, 0)) = W0 at *
            go_wp2_with (first
              | (refine load_dot10 (by rfl) 24 (.tmp 5) rfl ⟨w.heap.size, 0, none⟩ rfl e.r e.q Tryz.underlying24 (by kernel_rfl) (evAt_dot E1.out) ?_)
              | (refine load_dot10 (by rfl) 24 (.tmp 7) rfl ⟨(w.heap.size + 1), 0, none⟩ rfl f.r f.q Tryz.underlying24 (by kernel_rfl) (evAt_dot E2.out) ?_)
              | (go_at_call 78; refine (EQ.out.mono ?_); rintro x w1 ⟨rfl, hb⟩; have B1 := Lib.hid (below_next B0.out hb); have G1 := Lib.hid (evAt_kept E1.out hb); have G2 := Lib.hid (evAt_kept E2.out hb); obtain ⟨-, -, -, d3, d4, d5⟩ := evAt_cells G1.out; obtain ⟨-, -, -, f3, f4, f5⟩ := evAt_cells G2.out; clear hb)
              | (refine load_sum_on (by rfl) 28 (.tmp 32) rfl w.heap.size rfl G1.out Tryz.underlying28 sumSize ?_)
              | (refine load_sum_on (by rfl) 28 (.tmp 34) rfl (w.heap.size + 1) rfl G2.out Tryz.underlying28 sumSize ?_))
            go_ret
            exact ⟨by rw [HS.out]; rfl, B1.out⟩
        · have HS := Lib.hid (show sameEv e f = false by rw [HH.out]; simp [k5])
          have q5 : (e.path == f.path) = false := beq_eq_false_iff_ne.2 k5
          clear k3 HH
          go_enter Tryz.func42, Tryz.ntmps42
          go_upto_region 1 with fail
          generalize (w.alloc (.cells (evC e (.slice ao n cap)) 30 (0, 0))).alloc (.cells (evC f (.slice ao2 m cap2)) 30 (0, 0)) = W0 at *
          go_wp2_with (first
            | (refine load_dot10 (by rfl) 24 (.tmp 5) rfl ⟨w.heap.size, 0, none⟩ rfl e.r e.q Tryz.underlying24 (by kernel_rfl) (evAt_dot E1.out) ?_)
            | (refine load_dot10 (by rfl) 24 (.tmp 7) rfl ⟨(w.heap.size + 1), 0, none⟩ rfl f.r f.q Tryz.underlying24 (by kernel_rfl) (evAt_dot E2.out) ?_)
            | (go_at_call 78; refine (EQ.out.mono ?_); rintro x w1 ⟨rfl, hb⟩; have B1 := Lib.hid (below_next B0.out hb); have G1 := Lib.hid (evAt_kept E1.out hb); have G2 := Lib.hid (evAt_kept E2.out hb); obtain ⟨-, -, -, d3, d4, d5⟩ := evAt_cells G1.out; obtain ⟨-, -, -, f3, f4, f5⟩ := evAt_cells G2.out; clear hb))
          go_ret
          exact ⟨by rw [HS.out]; rfl, B1.out⟩
      · have HS := Lib.hid (show sameEv e f = false by rw [HH.out]; simp [k4])
        have q4 : (e.kind == f.kind) = false := beq_eq_false_iff_ne.2 k4
        clear k3 HH
        go_enter Tryz.func42, Tryz.ntmps42
        go_upto_region 1 with fail
        generalize (w.alloc (.cells (evC e (.slice ao n cap)) 30 (0, 0))).alloc (.cells (evC f (.slice ao2 m cap2)) 30 (0, 0)) = W0 at *
        go_wp2_with (first
          | (refine load_dot10 (by rfl) 24 (.tmp 5) rfl ⟨w.heap.size, 0, none⟩ rfl e.r e.q Tryz.underlying24 (by kernel_rfl) (evAt_dot E1.out) ?_)
          | (refine load_dot10 (by rfl) 24 (.tmp 7) rfl ⟨(w.heap.size + 1), 0, none⟩ rfl f.r f.q Tryz.underlying24 (by kernel_rfl) (evAt_dot E2.out) ?_)
          | (go_at_call 78; refine (EQ.out.mono ?_); rintro x w1 ⟨rfl, hb⟩; have B1 := Lib.hid (below_next B0.out hb); have G1 := Lib.hid (evAt_kept E1.out hb); have G2 := Lib.hid (evAt_kept E2.out hb); obtain ⟨-, -, -, d3, d4, d5⟩ := evAt_cells G1.out; obtain ⟨-, -, -, f3, f4, f5⟩ := evAt_cells G2.out; clear hb))
        go_ret
        exact ⟨by rw [HS.out]; rfl, B1.out⟩
  · have HS := Lib.hid (show sameEv e f = false by rw [HH.out]; simp only [Bool.and_eq_false_iff, decide_eq_false_iff_not]; exact .inl (by by_cases e.r = f.r <;> simp_all))
    have HK := Lib.hid (show ∀ w, (binOp .eql 24 (.agg #[.int .i64 e.r, .int .i64 e.q]) (.agg #[.int .i64 f.r, .int .i64 f.q])).run Tryz.prog w = .ok (.bool false) w from fun w => by go_simp; by_cases h1 : e.r = f.r <;> by_cases h2 : e.q = f.q <;> simp_all)
    clear HH k1
    have hk := HK.out
    go_enter Tryz.func42, Tryz.ntmps42
    go_upto_region 1 with fail
    generalize (w.alloc (.cells (evC e (.slice ao n cap)) 30 (0, 0))).alloc (.cells (evC f (.slice ao2 m cap2)) 30 (0, 0)) = W0 at *
    go_wp2_with (first
      | (refine load_dot10 (by rfl) 24 (.tmp 5) rfl ⟨w.heap.size, 0, none⟩ rfl e.r e.q Tryz.underlying24 (by kernel_rfl) (evAt_dot E1.out) ?_)
      | (refine load_dot10 (by rfl) 24 (.tmp 7) rfl ⟨(w.heap.size + 1), 0, none⟩ rfl f.r f.q Tryz.underlying24 (by kernel_rfl) (evAt_dot E2.out) ?_))
    go_ret
    exact ⟨by rw [HS.out]; rfl, B0.out⟩
end Go.Proofs.YtcdjkjadbhejpaaGreatDoor
namespace Go.Proofs.YtcdjkjadbhejpaaGreatDoor
open Go.RowKit
def orI2 (x0 x1 : Int) : Int := if x0 ≠ 0 then x0 else x1
def nth2 (x0 x1 : Int) (k : Nat) : Int := if k = 0 then x0 else x1
theorem nth2_cell (x0 x1 : Int) {w : World} {g k : Nat} {T : TypeId} (h : w.heap[g]? = some (.cells #[.int .i64 x0, .int .i64 x1] T (0, 0))) (hk : k < 2) : w.cell? ⟨g, k, none⟩ = some (.int .i64 (nth2 x0 x1 k)) := by
  rw [cell_of_row _ _ k _ _ _ h]
  match k, hk with
  | 0, _ => rfl
  | 1, _ => rfl
set_option maxRecDepth 100000 in
set_option maxHeartbeats 4000000 in
theorem or2_any (x0 x1 : Int) (g : Nat) (T : TypeId) (w : World) (h : w.heap[g]? = some (.cells #[.int .i64 x0, .int .i64 x1] T (0, 0))) : Calls Tryz.prog 110 #[.slice (some ⟨g, 0, none⟩) 2 2] w fun e w' => e = .returned (.int .i64 (orI2 x0 x1)) ∧ w = w' := by
  have HC := Lib.hid (fun k hk => nth2_cell x0 x1 (k := k) h hk)
  clear h
  go_enter Tryz.func110, Tryz.ntmps110
  go_wp2
  go_loopw [8] (fun i wr => w = wr ∧ ∃ k : Nat, k ≤ 2 ∧ i = .int .i64 k ∧ ∀ j, j < k → nth2 x0 x1 j = 0) (fun i _ => 2 - (intOf i).toNat)
  case atStart => exact ⟨rfl, 0, by omega, rfl, fun j hj => by omega⟩
  case round =>
    obtain ⟨rfl, k, hk, rfl, hall⟩ := hrel
    have HA := Lib.hid hall
    clear hall
    by_cases hlt : k < 2
    · have q1 : (k : Int) < 2 := by omega
      have hc := HC.out k hlt
      obtain ⟨x, hx⟩ : ∃ x, nth2 x0 x1 k = x := ⟨_, rfl⟩
      rw [hx] at hc
      have HX := Lib.hid hx
      clear hx
      by_cases h0 : x = 0
      · subst h0
        have hk1 : wrap64 ((k : Int) + 1) = ((k + 1 : Nat) : Int) := by rw [wrap64]; omega
        go_wp2
        go_roundw
        case rel => exact ⟨trivial, k + 1, by omega, by go_num, fun j h2 => by
          rcases Nat.lt_or_ge j k with h | h
          · exact HA.out j h
          · obtain rfl : j = k := by omega
            exact HX.out⟩
        case measure => simp [intOf]; omega
      · have t0 : (x != 0) = true := bne_iff_ne.2 h0
        have HR := Lib.hid (show orI2 x0 x1 = x by
          have a := HA.out
          have b := HX.out
          unfold nth2 at a b
          unfold orI2
          match k, hlt with
          | 0, _ => simp at b; subst b; simp [h0]
          | 1, _ => have a0 := a 0 (by omega); simp at a0 b; subst b; simp [a0])
        clear h0
        go_wp2
        go_ret
        exact ⟨by rw [HR.out]; try rfl, rfl⟩
    · obtain rfl : k = 2 := by omega
      have HR := Lib.hid (show orI2 x0 x1 = 0 by
        have a := HA.out
        have a0 := a 0 (by omega)
        have a1 := a 1 (by omega)
        simp [nth2] at a0 a1
        simp [orI2, a0, a1])
      go_wp2
      go_ret
      exact ⟨by rw [HR.out]; try rfl, rfl⟩
set_option maxRecDepth 100000 in
set_option maxHeartbeats 4000000 in
theorem isNaN_str (s : List UInt8) (w : World) : Calls Tryz.prog 88 #[.string (str s)] w fun e w' => e = .returned (.bool false) ∧ w = w' := by
  go_enter Tryz.func88, Tryz.ntmps88
  go_wp2
  go_ret
  exact ⟨by simp, rfl⟩
set_option maxRecDepth 100000 in
set_option maxHeartbeats 16000000 in
theorem cmpStr_any (a b : List UInt8) (w : World) : Calls Tryz.prog 48 #[.string (str a), .string (str b)] w fun e w' => e = .returned (.int .i64 (cmpB a b)) ∧ w = w' := by
  have N1 := Lib.hid (isNaN_str a)
  have N2 := Lib.hid (isNaN_str b)
  have s1 : (str a).toList = a := str_toList a
  have s2 : (str b).toList = b := str_toList b
  rcases cmpB_cases a b with ⟨hc, he⟩ | ⟨hc, hl, hn⟩ | ⟨hc, hl, hn⟩
  · have q1 : Op.bytesLess a b = false := by rw [he]; exact bytesLess_irrefl b
    have q2 : (a == b) = true := by rw [he]; simp
    clear he
    have HR := Lib.hid (show cmpB a b = 0 by exact hc)
    clear hc
    go_enter Tryz.func48, Tryz.ntmps48
    go_upto_region 2 with (first | (go_at_call 88; refine (N1.out _).mono ?_; rintro e w1 ⟨rfl, rfl⟩))
    go_wp2_with (first | (go_at_call 88; refine (N2.out _).mono ?_; rintro e w1 ⟨rfl, rfl⟩))
    go_ret
    exact ⟨by rw [HR.out]; try rfl, rfl⟩
  · have q1 : Op.bytesLess a b = true := hl
    clear hl hn
    have HR := Lib.hid (show cmpB a b = -1 by exact hc)
    clear hc
    go_enter Tryz.func48, Tryz.ntmps48
    go_upto_region 2 with (first | (go_at_call 88; refine (N1.out _).mono ?_; rintro e w1 ⟨rfl, rfl⟩))
    go_wp2_with (first | (go_at_call 88; refine (N2.out _).mono ?_; rintro e w1 ⟨rfl, rfl⟩))
    go_ret
    exact ⟨by rw [HR.out]; try rfl, rfl⟩
  · have q1 : Op.bytesLess a b = false := bl_asymm hl
    have q2 : (a == b) = false := beq_eq_false_iff_ne.2 hn
    clear hl hn
    have HR := Lib.hid (show cmpB a b = 1 by exact hc)
    clear hc
    go_enter Tryz.func48, Tryz.ntmps48
    go_upto_region 2 with (first | (go_at_call 88; refine (N1.out _).mono ?_; rintro e w1 ⟨rfl, rfl⟩))
    go_wp2_with (first | (go_at_call 88; refine (N2.out _).mono ?_; rintro e w1 ⟨rfl, rfl⟩))
    go_ret
    exact ⟨by rw [HR.out]; try rfl, rfl⟩
theorem str_yieldsC {P : Program} {ops : Array Oper} {S : World → Prop} {o : Oper} {a : Act} (hw : Region.wanted o (yielded ops a.tmps) = true) (ty : TypeId) (x : Operand) (ho : o.op = .load ty x)
    (ad : Addr) (hx : a.eval x = .pointer (some ad)) (s : ByteArray) (hu : P.underlying ty = some .string) (hS : ∀ w, S w → w.cell? ad = some (.string s)) : YieldsIf P ops S o (.string s) a :=
  .inl ⟨hw, fun w h => by
    have hc := hS w h
    unfold execOp
    simp [ho, hx, Instr.loadAt, Instr.sureAddr, loadVar, isAgg, run_underlying hu, hc]⟩
set_option maxRecDepth 100000 in
set_option maxHeartbeats 16000000 in
theorem cmp_any12 (e f : Ev) (h1 : I64 e.r) (h2 : I64 e.q) (h3 : I64 f.r) (h4 : I64 f.q) (v u : Value) (w : World) : Calls Tryz.prog 72 #[.agg (evC e v), .agg (evC f u)] w fun x w' => x = .returned (.int .i64 (cmpE e f)) ∧ Below w.heap.size w w' := by
  have CS := Lib.hid (fun w => cmpStr_any e.path f.path w)
  have CD := Lib.hid (fun w => compare_any e.r e.q f.r f.q h1 h2 h3 h4 w)
  have OR := Lib.hid (fun T w => or2_any (cmpB e.path f.path) (cmpD e.r e.q f.r f.q) w.heap.size T (w.alloc (.cells #[.int .i64 (cmpB e.path f.path), .int .i64 (cmpD e.r e.q f.r f.q)] T (0, 0))) (heap_last w _))
  have HR := Lib.hid (show cmpE e f = orI2 (cmpB e.path f.path) (cmpD e.r e.q f.r f.q) by unfold cmpE orI2; by_cases h : cmpB e.path f.path = 0 <;> simp [h])
  generalize cmpB e.path f.path = x0 at *
  generalize cmpD e.r e.q f.r f.q = x1 at *
  obtain ⟨g1, g2, g3⟩ := two_evs w 30 e f v u
  have E1 := Lib.hid g1
  have E2 := Lib.hid g2
  have B0 := Lib.hid g3
  clear g1 g2 g3 h1 h2 h3 h4
  go_enter Tryz.func72, Tryz.ntmps72
  go_upto_region 1 with fail
  generalize (w.alloc (.cells (evC e v) 30 (0, 0))).alloc (.cells (evC f u) 30 (0, 0)) = W0 at *
  refine wp_region_held_drew (S := fun w' => Below w.heap.size w w' ∧ EvAt w' w.heap.size 30 e v ∧ EvAt w' (w.heap.size + 1) 30 f u) (by kernel_rfl) ⟨drawS B0.out, E1.out, E2.out⟩ (fun hHeld => ?_)
  generalize W0.drew = wd at hHeld ⊢
  refine take_at (i := 0) 5 rfl rfl (by kernel_rfl) (by kernel_rfl) (by kernel_rfl) (fun _ _ _ h => h) (sure_yes (by rfl) (fun w => by go_simp; try with_reducible rfl)) hHeld ?_
  simp only [List.setIfInBounds_toArray, List.set_cons_zero, List.set_cons_succ]
  refine take_at (i := 2) 7 rfl rfl (by kernel_rfl) (by kernel_rfl) (by kernel_rfl) (fun _ _ _ h => h) (sure_yes (by rfl) (fun w => by go_simp; try with_reducible rfl)) hHeld ?_
  simp only [List.setIfInBounds_toArray, List.set_cons_zero, List.set_cons_succ]
  refine take_at (i := 5) 10 rfl rfl (by kernel_rfl) (by kernel_rfl) (by kernel_rfl) (fun _ _ _ h => h) (sure_yes (by rfl) (fun w => by go_simp; try with_reducible rfl)) hHeld ?_
  simp only [List.setIfInBounds_toArray, List.set_cons_zero, List.set_cons_succ]
  refine take_at (i := 7) 12 rfl rfl (by kernel_rfl) (by kernel_rfl) (by kernel_rfl) (fun _ _ _ h => h) (sure_yes (by rfl) (fun w => by go_simp; try with_reducible rfl)) hHeld ?_
  simp only [List.setIfInBounds_toArray, List.set_cons_zero, List.set_cons_succ]
  refine take_at (i := 1) 6 rfl rfl (by kernel_rfl) (by kernel_rfl) (by kernel_rfl) (fun _ _ _ h => h) (str_yieldsC (by rfl) 9 (.tmp 5) rfl ⟨w.heap.size, 4, none⟩ rfl _ Tryz.underlying9 (fun _ h => (evAt_cells h.2.1).2.2.2.2.1)) hHeld ?_
  simp only [List.setIfInBounds_toArray, List.set_cons_zero, List.set_cons_succ]
  refine take_at (i := 3) 8 rfl rfl (by kernel_rfl) (by kernel_rfl) (by kernel_rfl) (fun _ _ _ h => h) (str_yieldsC (by rfl) 9 (.tmp 7) rfl ⟨w.heap.size + 1, 4, none⟩ rfl _ Tryz.underlying9 (fun _ h => (evAt_cells h.2.2).2.2.2.2.1)) hHeld ?_
  simp only [List.setIfInBounds_toArray, List.set_cons_zero, List.set_cons_succ]
  refine take_at (i := 6) 11 rfl rfl (by kernel_rfl) (by kernel_rfl) (by kernel_rfl) (fun _ _ _ h => h) (dot_yields (by rfl) 24 (.tmp 10) rfl ⟨w.heap.size, 0, none⟩ rfl e.r e.q Tryz.underlying24 (by kernel_rfl) (fun _ h => evAt_dot h.2.1)) hHeld ?_
  simp only [List.setIfInBounds_toArray, List.set_cons_zero, List.set_cons_succ]
  refine take_at (i := 8) 13 rfl rfl (by kernel_rfl) (by kernel_rfl) (by kernel_rfl) (fun _ _ _ h => h) (dot_yields (by rfl) 24 (.tmp 12) rfl ⟨w.heap.size + 1, 0, none⟩ rfl f.r f.q Tryz.underlying24 (by kernel_rfl) (fun _ h => evAt_dot h.2.2)) hHeld ?_
  simp only [List.setIfInBounds_toArray, List.set_cons_zero, List.set_cons_succ]
  refine wpAnyH_ready (rs := [4]) (by kernel_rfl) (by simp) ?_
  refine AllReadyH.cons rfl (fun CONT hCONT => ?_) AllReadyH.nil
  go_simp
  go_at_call 48
  refine (CS.out _).mono ?_
  rintro x wz ⟨rfl, rfl⟩
  dsimp only
  refine hCONT.out _ _ hHeld (fun hHeld => ?_)
  clear hCONT CONT
  refine wpAnyH_ready (rs := [9]) (by kernel_rfl) (by simp) ?_
  refine AllReadyH.cons rfl (fun CONT hCONT => ?_) AllReadyH.nil
  go_simp
  go_at_call 96
  refine (CD.out _).mono ?_
  rintro x wz ⟨rfl, hb⟩
  dsimp only
  refine hCONT.out _ _ ⟨below_next hHeld.1 hb, evAt_kept hHeld.2.1 hb, evAt_kept hHeld.2.2 hb⟩ (fun hHeld => ?_)
  clear hCONT CONT hb
  refine wpAnyH_ready (rs := [10]) (by kernel_rfl) (by simp) ?_
  refine AllReadyH.cons rfl (fun CONT hCONT => ?_) AllReadyH.nil
  go_simp
  refine hCONT.out _ _ ⟨hHeld.1.alloc hHeld.1.size _, evAt_kept hHeld.2.1 ((Below.refl _ _).alloc (Nat.le_refl _) _), evAt_kept hHeld.2.2 ((Below.refl _ _).alloc (Nat.le_refl _) _)⟩ (fun hHeld => ?_)
  clear hCONT CONT
  refine wpAnyH_ready (rs := [11]) (by kernel_rfl) (by simp) ?_
  refine AllReadyH.cons rfl (fun CONT hCONT => ?_) AllReadyH.nil
  go_simp
  go_at_call 110
  refine (OR.out _ _).mono ?_
  rintro x wz ⟨rfl, rfl⟩
  dsimp only
  refine hCONT.out _ _ hHeld (fun hHeld => ?_)
  clear hCONT CONT
  refine take_at (i := 12) 4 rfl rfl (by kernel_rfl) (by kernel_rfl) (by kernel_rfl) (fun _ _ _ h => h) (sure_yes (by rfl) (fun w => by go_simp; try with_reducible rfl)) hHeld ?_
  simp only [List.setIfInBounds_toArray, List.set_cons_zero, List.set_cons_succ]
  refine wpAnyH_done (by kernel_rfl) ?_ _
  go_wp2
  go_ret
  exact ⟨by rw [HR.out]; rfl, hHeld.1⟩
end Go.Proofs.YtcdjkjadbhejpaaGreatDoor
