/-
Texts that all claims of this seat share, part 9: SortSwap, SortMerge, SortSymM.
-/
import Derived.Test.YtppmbdpfledejaaGreatDoorPk8
namespace Go.Proofs.YtppmbdpfledejaaGreatDoor
open Go.RowKit
theorem swap2_sets {α : Type} (P : List α) (x : α) (M : List α) (y : α) (Q : List α) (p q : Nat) (hp : p = P.length) (hq : q = P.length + 1 + M.length) : ((P ++ x :: (M ++ y :: Q)).set p y).set q x = P ++ y :: (M ++ x :: Q) := by
  subst hp
  rw [List.set_append_right _ _ (Nat.le_refl _), Nat.sub_self, List.set_cons_zero, List.set_append_right _ _ (by omega), show q - P.length = M.length + 1 by omega, List.set_cons_succ, List.set_append_right _ _ (Nat.le_refl _), Nat.sub_self, List.set_cons_zero]
theorem own_len {B : Nat} {T : TypeId} {g n cap : Nat} {l : List Sh} {w : World} (h : w.ownsRow B T 36 (.slice (some ⟨g, 0, none⟩) n cap) n (shsC l)) : n = l.length := by
  have h := h.1
  rw [shsC_length] at h
  exact (Nat.eq_of_mul_eq_mul_right (by decide) h).symm
def midS (P X M Y Q : List Sh) (i : Nat) : List Sh := P ++ Y.take i ++ (X.drop i ++ M ++ X.take i ++ Y.drop i ++ Q)
theorem midS_zero (P X M Y Q : List Sh) : midS P X M Y Q 0 = P ++ X ++ M ++ Y ++ Q := by simp [midS]
theorem midS_end (P X M Y Q : List Sh) (k : Nat) (hx : X.length = k) (hy : Y.length = k) : midS P X M Y Q k = P ++ Y ++ M ++ X ++ Q := by
  subst hx; rw [midS, ← hy, List.take_length, List.drop_length, hy, List.take_length, List.drop_length]; simp
theorem midS_at (P X M Y Q : List Sh) (i : Nat) (x y : Sh) (hx : X[i]? = some x) (hy : Y[i]? = some y) : midS P X M Y Q i = (P ++ Y.take i) ++ x :: ((X.drop (i + 1) ++ M ++ X.take i) ++ y :: (Y.drop (i + 1) ++ Q)) := by
  unfold midS
  rw [drop_at hx, drop_at hy]; simp
theorem midS_next (P X M Y Q : List Sh) (i : Nat) (x y : Sh) (hx : X[i]? = some x) (hy : Y[i]? = some y) : midS P X M Y Q (i + 1) = (P ++ Y.take i) ++ y :: ((X.drop (i + 1) ++ M ++ X.take i) ++ x :: (Y.drop (i + 1) ++ Q)) := by
  unfold midS
  rw [List.take_add_one, List.take_add_one, hx, hy]; simp
set_option linter.unusedSimpArgs false in
set_option maxRecDepth 100000 in
set_option maxHeartbeats 16000000 in
theorem swapSh_any (P X M Y Q : List Sh) (k a b n cap g B : Nat) (hX : X.length = k) (hY : Y.length = k) (ha : a = P.length) (hb : b = P.length + k + M.length) (hn5 : n ≤ 50000) (u : Value) (w : World) (hw : w.ownsRow B 33 36 (.slice (some ⟨g, 0, none⟩) n cap) n (shsC (P ++ X ++ M ++ Y ++ Q))) :
    Calls Tryz.prog 149 #[(.slice (some ⟨g, 0, none⟩) n cap), .int .i64 (a : Int), .int .i64 (b : Int), .int .i64 (k : Int), u] w fun x w' => x = .returned (.tuple #[]) ∧ w'.ownsRow B 33 36 (.slice (some ⟨g, 0, none⟩) n cap) n (shsC (P ++ Y ++ M ++ X ++ Q)) ∧ Below B w w' := by
  obtain ⟨hBg, hB0⟩ := own_in hw
  have HBG := Lib.hid hBg
  have HB0 := Lib.hid hB0
  have hn := own_len hw
  have hnn : n = P.length + k + M.length + k + Q.length := by rw [hn]; simp only [List.length_append, hX, hY]
  have HNN := Lib.hid hnn
  have hk5 : k ≤ 50000 := by omega
  have HW := Lib.hid hw
  have HX := Lib.hid hX
  have HY := Lib.hid hY
  have HA := Lib.hid ha
  have HB := Lib.hid hb
  clear hw hn hnn hBg hB0 hX hY ha hb
  go_enter Tryz.func149, Tryz.ntmps149
  go_wp2
  go_loopw [10] (fun c wr => ∃ i : Nat, c = .int .i64 (i : Int) ∧ i ≤ k ∧ wr.ownsRow B 33 36 (.slice (some ⟨g, 0, none⟩) n cap) n (shsC (midS P X M Y Q i)) ∧ Below B w wr) (fun c _ => k - (intOf c).toNat)
  case atStart => exact ⟨0, rfl, by omega, by rw [midS_zero]; exact HW.out, Below.refl _ _⟩
  case round =>
    obtain ⟨i, rfl, hik, ho, hb⟩ := hrel
    have BEL := Lib.hid hb
    clear hb
    by_cases hi : i < k
    · obtain ⟨x, hx⟩ : ∃ x, X[i]? = some x := ⟨_, List.getElem?_eq_getElem (by have := HX.out; omega)⟩
      obtain ⟨y, hy⟩ : ∃ x, Y[i]? = some x := ⟨_, List.getElem?_eq_getElem (by have := HY.out; omega)⟩
      have HNX := Lib.hid (midS_next P X M Y Q i x y hx hy)
      rw [midS_at P X M Y Q i x y hx hy] at ho
      obtain ⟨P1, hP⟩ : ∃ P1, P1 = P ++ Y.take i := ⟨_, rfl⟩
      obtain ⟨M1, hM⟩ : ∃ M1, M1 = X.drop (i + 1) ++ M ++ X.take i := ⟨_, rfl⟩
      obtain ⟨Q1, hQ⟩ : ∃ Q1, Q1 = Y.drop (i + 1) ++ Q := ⟨_, rfl⟩
      have hPl : P1.length = P.length + i := by rw [hP, List.length_append, List.length_take]; have := HY.out; omega
      have hMl : M1.length + 1 = k + M.length := by rw [hM, List.length_append, List.length_append, List.length_drop, List.length_take]; have := HX.out; omega
      have HNX := Lib.hid (show midS P X M Y Q (i + 1) = P1 ++ y :: (M1 ++ x :: Q1) by rw [hP, hM, hQ]; exact HNX.out)
      rw [← hP, ← hM, ← hQ] at ho
      obtain ⟨p, hp⟩ : ∃ p, p = P1.length := ⟨_, rfl⟩
      obtain ⟨q, hq⟩ : ∃ q, q = P1.length + 1 + M1.length := ⟨_, rfl⟩
      have HIX := Lib.hid (show (P1 ++ x :: (M1 ++ y :: Q1))[p]? = some x from at_pre P1 x _ p hp)
      have HIY := Lib.hid (show (P1 ++ x :: (M1 ++ y :: Q1))[q]? = some y by
        have h := at_pre (P1 ++ x :: M1) y Q1 q (by rw [List.length_append, List.length_cons]; omega)
        rw [List.append_assoc] at h; exact h)
      have HLN := Lib.hid (own_len ho)
      have hpa : p = a + i := by have := HA.out; omega
      have hqb : q = b + i := by have := HA.out; have := HB.out; omega
      have hqn : q < n := by have := HNN.out; have := HB.out; omega
      have hpq : p < q := by omega
      have OWN := Lib.hid ho
      have HP := Lib.hid hp
      have HQ := Lib.hid hq
      have q1 : (i : Int) < (k : Int) := by omega
      have q2 : (a : Int) + (i : Int) = (p : Int) := by omega
      have q3 : (b : Int) + (i : Int) = (q : Int) := by omega
      have q4 : IntKind.i64.wrap (p : Int) = (p : Int) := by rw [IntKind.wrap_i64]; omega
      have q5 : IntKind.i64.wrap (q : Int) = (q : Int) := by rw [IntKind.wrap_i64]; omega
      have q6 : (p : Int) < (n : Int) := by omega
      have q7 : (q : Int) < (n : Int) := by omega
      have q8 : p < n := by omega
      have q9 : IntKind.i64.wrap ((i : Int) + 1) = ((i + 1 : Nat) : Int) := by rw [IntKind.wrap_i64]; omega
      clear ho hP hM hQ hPl hMl hp hq hpa hqb hx hy
      generalize wr = w3 at *
      go_upto_region 3 with fail
      have OD := Lib.hid (own_below OWN.out (drawS (Below.refl w3.heap.size w3)))
      have BD := Lib.hid (below_in BEL.out HB0.out (drawS (Below.refl w3.heap.size w3)))
      refine wp_region_held_drew (S := fun _ => True) (by kernel_rfl) trivial (fun hHeld => ?_)
      generalize w3.drew = we at OD BD ⊢
      have CXD := Lib.hid (own_sh OD.out p x HIX.out)
      have CYD := Lib.hid (own_sh OD.out q y HIY.out)
      refine take_at (i := 0) 16 rfl rfl (by kernel_rfl) (by kernel_rfl) (by kernel_rfl) (fun _ _ _ h => h) (sure_yes (by rfl) (fun w => by go_simp; try with_reducible rfl)) hHeld ?_
      simp only [List.setIfInBounds_toArray, List.set_cons_zero, List.set_cons_succ]
      refine take_at (i := 1) 17 rfl rfl (by kernel_rfl) (by kernel_rfl) (by kernel_rfl) (fun _ _ _ h => h) (sure_yes (by rfl) (fun w => by go_simp; try with_reducible rfl)) hHeld ?_
      simp only [List.setIfInBounds_toArray, List.set_cons_zero, List.set_cons_succ]
      refine take_at (i := 2) 18 rfl rfl (by kernel_rfl) (by kernel_rfl) (by kernel_rfl) (fun _ _ _ h => h) (sure_yes (by rfl) (fun w => by go_simp; try with_reducible rfl)) hHeld ?_
      simp only [List.setIfInBounds_toArray, List.set_cons_zero, List.set_cons_succ]
      refine take_at (i := 3) 19 rfl rfl (by kernel_rfl) (by kernel_rfl) (by kernel_rfl) (fun _ _ _ h => h) (sure_yes (by rfl) (fun w => by go_simp; try with_reducible rfl)) hHeld ?_
      simp only [List.setIfInBounds_toArray, List.set_cons_zero, List.set_cons_succ]
      refine take_at (i := 4) 20 rfl rfl (by kernel_rfl) (by kernel_rfl) (by kernel_rfl) (fun _ _ _ h => h) (sure_yes (by rfl) (fun w => by go_simp; try with_reducible rfl)) hHeld ?_
      simp only [List.setIfInBounds_toArray, List.set_cons_zero, List.set_cons_succ]
      refine take_at (i := 5) 21 rfl rfl (by kernel_rfl) (by kernel_rfl) (by kernel_rfl) (fun _ _ _ h => h) (sure_yes (by rfl) (fun w => by go_simp; try with_reducible rfl)) hHeld ?_
      simp only [List.setIfInBounds_toArray, List.set_cons_zero, List.set_cons_succ]
      refine take_at (i := 6) 22 rfl rfl (by kernel_rfl) (by kernel_rfl) (by kernel_rfl) (fun _ _ _ h => h) (sure_yes (by rfl) (fun w => by go_simp; try with_reducible rfl)) hHeld ?_
      simp only [List.setIfInBounds_toArray, List.set_cons_zero, List.set_cons_succ]
      refine take_at (i := 7) 23 rfl rfl (by kernel_rfl) (by kernel_rfl) (by kernel_rfl) (fun _ _ _ h => h) (sure_yes (by rfl) (fun w => by go_simp; try with_reducible rfl)) hHeld ?_
      simp only [List.setIfInBounds_toArray, List.set_cons_zero, List.set_cons_succ]
      refine take_at (i := 8) 24 rfl rfl (by kernel_rfl) (by kernel_rfl) (by kernel_rfl) (fun _ _ _ h => h) (sure_yes (by rfl) (fun w => by go_simp; try with_reducible rfl)) hHeld ?_
      simp only [List.setIfInBounds_toArray, List.set_cons_zero, List.set_cons_succ]
      refine take_at (i := 9) 25 rfl rfl (by kernel_rfl) (by kernel_rfl) (by kernel_rfl) (fun _ _ _ h => h) (sure_yes (by rfl) (fun w => by go_simp; try with_reducible rfl)) hHeld ?_
      simp only [List.setIfInBounds_toArray, List.set_cons_zero, List.set_cons_succ]
      refine take_at (i := 10) 26 rfl rfl (by kernel_rfl) (by kernel_rfl) (by kernel_rfl) (fun _ _ _ h => h) (sure_yes (by rfl) (fun w => by go_simp; try with_reducible rfl)) hHeld ?_
      simp only [List.setIfInBounds_toArray, List.set_cons_zero, List.set_cons_succ]
      refine take_at (i := 11) 27 rfl rfl (by kernel_rfl) (by kernel_rfl) (by kernel_rfl) (fun _ _ _ h => h) (sure_yes (by rfl) (fun w => by go_simp; try with_reducible rfl)) hHeld ?_
      simp only [List.setIfInBounds_toArray, List.set_cons_zero, List.set_cons_succ]
      refine take_at (i := 12) 28 rfl rfl (by kernel_rfl) (by kernel_rfl) (by kernel_rfl) (fun _ _ _ h => h) (sure_yes (by rfl) (fun w => by go_simp; try with_reducible rfl)) hHeld ?_
      simp only [List.setIfInBounds_toArray, List.set_cons_zero, List.set_cons_succ]
      refine take_at (i := 14) 30 rfl rfl (by kernel_rfl) (by kernel_rfl) (by kernel_rfl) (fun _ _ _ h => h) (sure_yes (by rfl) (fun w => by go_simp; try with_reducible rfl)) hHeld ?_
      simp only [List.setIfInBounds_toArray, List.set_cons_zero, List.set_cons_succ]
      refine take_at (i := 15) 31 rfl rfl (by kernel_rfl) (by kernel_rfl) (by kernel_rfl) (fun _ _ _ h => h) (sure_yes (by rfl) (fun w => by go_simp; try with_reducible rfl)) hHeld ?_
      simp only [List.setIfInBounds_toArray, List.set_cons_zero, List.set_cons_succ]
      refine take_at (i := 16) 32 rfl rfl (by kernel_rfl) (by kernel_rfl) (by kernel_rfl) (fun _ _ _ h => h) (sure_yes (by rfl) (fun w => by go_simp; try with_reducible rfl)) hHeld ?_
      simp only [List.setIfInBounds_toArray, List.set_cons_zero, List.set_cons_succ]
      refine take_at (i := 17) 33 rfl rfl (by kernel_rfl) (by kernel_rfl) (by kernel_rfl) (fun _ _ _ h => h) (sure_yes (by rfl) (fun w => by go_simp; try with_reducible rfl)) hHeld ?_
      simp only [List.setIfInBounds_toArray, List.set_cons_zero, List.set_cons_succ]
      refine take_at (i := 18) 34 rfl rfl (by kernel_rfl) (by kernel_rfl) (by kernel_rfl) (fun _ _ _ h => h) (sure_yes (by rfl) (fun w => by go_simp; try with_reducible rfl)) hHeld ?_
      simp only [List.setIfInBounds_toArray, List.set_cons_zero, List.set_cons_succ]
      refine ready_two 13 19 (by kernel_rfl) ?_ ?_
      · refine opH_shA 29 rfl rfl (by rfl) 33 (.tmp 28) rfl ⟨g, q * 36, none⟩ rfl Tryz.underlying33 shSize CYD.out trivial ?_
        simp only [Act.put, List.setIfInBounds_toArray, List.set_cons_zero, List.set_cons_succ]
        refine ready_one 19 (by kernel_rfl) ?_
        refine opH_shA 35 rfl rfl (by rfl) 33 (.tmp 34) rfl ⟨g, p * 36, none⟩ rfl Tryz.underlying33 shSize CXD.out trivial ?_
        simp only [Act.put, List.setIfInBounds_toArray, List.set_cons_zero, List.set_cons_succ]
        refine take_at (i := 20) 36 rfl rfl (by kernel_rfl) (by kernel_rfl) (by kernel_rfl) (fun _ _ _ h => h) (sure_yes (by rfl) (fun w => by go_simp; try with_reducible rfl)) hHeld ?_
        simp only [List.setIfInBounds_toArray, List.set_cons_zero, List.set_cons_succ]
        refine ready_one 21 (by kernel_rfl) ?_
        refine opH_list rfl ?_
        refine store_sh rfl 33 (.tmp 36) (.tmp 29) rfl rfl B 33 g n cap p _ OD.out HLN.out (by omega) _ rfl rfl y rfl shSize ?_
        intro wf ho hs
        refine opH_end trivial ?_
        have O1 := Lib.hid ho
        have B1 := Lib.hid (solo_in BD.out hs HBG.out)
        clear ho hs
        refine take_at (i := 22) 37 rfl rfl (by kernel_rfl) (by kernel_rfl) (by kernel_rfl) (fun _ _ _ h => h) (sure_yes (by rfl) (fun w => by go_simp; try with_reducible rfl)) hHeld ?_
        simp only [List.setIfInBounds_toArray, List.set_cons_zero, List.set_cons_succ]
        refine ready_one 23 (by kernel_rfl) ?_
        refine opH_list rfl ?_
        refine store_sh rfl 33 (.tmp 37) (.tmp 35) rfl rfl B 33 g n cap q _ O1.out (by rw [List.length_set]; exact HLN.out) (by omega) _ rfl rfl x rfl shSize ?_
        intro wh ho hs
        refine opH_end trivial ?_
        have O2 := Lib.hid ho
        have B2 := Lib.hid (solo_in B1.out hs HBG.out)
        clear ho hs
        refine wpAnyH_done (by kernel_rfl) ?_ _
        clear hHeld
        go_wp2
        go_roundw
        case rel => exact ⟨i + 1, by go_num, by omega, by
          have h := O2.out
          rw [swap2_sets P1 x M1 y Q1 p q HP.out HQ.out, ← HNX.out] at h; exact h, B2.out⟩
        case measure => simp [intOf] <;> omega
      · refine opH_shA 35 rfl rfl (by rfl) 33 (.tmp 34) rfl ⟨g, p * 36, none⟩ rfl Tryz.underlying33 shSize CXD.out trivial ?_
        simp only [Act.put, List.setIfInBounds_toArray, List.set_cons_zero, List.set_cons_succ]
        refine ready_one 13 (by kernel_rfl) ?_
        refine opH_shA 29 rfl rfl (by rfl) 33 (.tmp 28) rfl ⟨g, q * 36, none⟩ rfl Tryz.underlying33 shSize CYD.out trivial ?_
        simp only [Act.put, List.setIfInBounds_toArray, List.set_cons_zero, List.set_cons_succ]
        refine take_at (i := 20) 36 rfl rfl (by kernel_rfl) (by kernel_rfl) (by kernel_rfl) (fun _ _ _ h => h) (sure_yes (by rfl) (fun w => by go_simp; try with_reducible rfl)) hHeld ?_
        simp only [List.setIfInBounds_toArray, List.set_cons_zero, List.set_cons_succ]
        refine ready_one 21 (by kernel_rfl) ?_
        refine opH_list rfl ?_
        refine store_sh rfl 33 (.tmp 36) (.tmp 29) rfl rfl B 33 g n cap p _ OD.out HLN.out (by omega) _ rfl rfl y rfl shSize ?_
        intro wf ho hs
        refine opH_end trivial ?_
        have O1 := Lib.hid ho
        have B1 := Lib.hid (solo_in BD.out hs HBG.out)
        clear ho hs
        refine take_at (i := 22) 37 rfl rfl (by kernel_rfl) (by kernel_rfl) (by kernel_rfl) (fun _ _ _ h => h) (sure_yes (by rfl) (fun w => by go_simp; try with_reducible rfl)) hHeld ?_
        simp only [List.setIfInBounds_toArray, List.set_cons_zero, List.set_cons_succ]
        refine ready_one 23 (by kernel_rfl) ?_
        refine opH_list rfl ?_
        refine store_sh rfl 33 (.tmp 37) (.tmp 35) rfl rfl B 33 g n cap q _ O1.out (by rw [List.length_set]; exact HLN.out) (by omega) _ rfl rfl x rfl shSize ?_
        intro wh ho hs
        refine opH_end trivial ?_
        have O2 := Lib.hid ho
        have B2 := Lib.hid (solo_in B1.out hs HBG.out)
        clear ho hs
        refine wpAnyH_done (by kernel_rfl) ?_ _
        clear hHeld
        go_wp2
        go_roundw
        case rel => exact ⟨i + 1, by go_num, by omega, by
          have h := O2.out
          rw [swap2_sets P1 x M1 y Q1 p q HP.out HQ.out, ← HNX.out] at h; exact h, B2.out⟩
        case measure => simp [intOf] <;> omega
    · obtain rfl : i = k := by omega
      have q1 : ¬ (i : Int) < (i : Int) := by omega
      have OWN := Lib.hid (show wr.ownsRow B 33 36 (.slice (some ⟨g, 0, none⟩) n cap) n (shsC (P ++ Y ++ M ++ X ++ Q)) by rw [← midS_end P X M Y Q i HX.out HY.out]; exact ho)
      clear ho
      go_wp2
      refine bodyPost_end (results_none rfl _ _ _) rfl ?_
      exact ⟨rfl, (by have h := OWN.out; simpa only [List.append_assoc] using h), BEL.out⟩
set_option linter.unusedSimpArgs false in
set_option maxRecDepth 100000 in
set_option maxHeartbeats 16000000 in
theorem rotSh_any (P X Y Q : List Sh) (a m b n cap g B : Nat) (hX : 0 < X.length) (hY : 0 < Y.length) (ha : a = P.length) (hm : m = P.length + X.length) (hb : b = P.length + X.length + Y.length) (hn5 : n ≤ 50000) (u : Value) (w : World) (hw : w.ownsRow B 33 36 (.slice (some ⟨g, 0, none⟩) n cap) n (shsC (P ++ X ++ Y ++ Q))) :
    Calls Tryz.prog 131 #[(.slice (some ⟨g, 0, none⟩) n cap), .int .i64 (a : Int), .int .i64 (m : Int), .int .i64 (b : Int), u] w fun x w' => x = .returned (.tuple #[]) ∧ w'.ownsRow B 33 36 (.slice (some ⟨g, 0, none⟩) n cap) n (shsC (P ++ Y ++ X ++ Q)) ∧ Below B w w' := by
  obtain ⟨hBg, hB0⟩ := own_in hw
  have HB0 := Lib.hid hB0
  have hn := own_len hw
  have hnn : b ≤ n := by rw [hn, hb]; simp only [List.length_append]; omega
  have HNN := Lib.hid (And.intro hnn (And.intro ha (And.intro hm hb)))
  have hn2 := hn5
  have HW := Lib.hid hw
  have HPOS := Lib.hid (And.intro hX hY)
  have SW := Lib.hid (fun (P X M Y Q : List Sh) (k a b : Nat) hX hY ha hb w hw => swapSh_any P X M Y Q k a b n cap g B hX hY ha hb hn5 u w hw)
  obtain ⟨i0, hi0⟩ : ∃ i, i = X.length := ⟨_, rfl⟩
  obtain ⟨j0, hj0⟩ : ∃ i, i = Y.length := ⟨_, rfl⟩
  have HI0 := Lib.hid hi0
  have HJ0 := Lib.hid hj0
  have z1 : (m : Int) - (a : Int) = (i0 : Int) := by omega
  have z2 : (b : Int) - (m : Int) = (j0 : Int) := by omega
  have z3 : IntKind.i64.wrap (i0 : Int) = (i0 : Int) := by rw [IntKind.wrap_i64]; omega
  have z4 : IntKind.i64.wrap (j0 : Int) = (j0 : Int) := by rw [IntKind.wrap_i64]; omega
  clear hw hn hnn hBg hB0 hX hY ha hm hb hi0 hj0
  go_enter Tryz.func131, Tryz.ntmps131
  go_wp2
  go_loopw [10, 11] (fun c d wr => ∃ (i j : Nat) (Yd U V Xd : List Sh), c = .int .i64 (i : Int) ∧ d = .int .i64 (j : Int) ∧ (0 < i ∧ 0 < j) ∧ (U.length = i ∧ V.length = j) ∧ (m = P.length + Yd.length + i ∧ Yd.length + i + j ≤ X.length + Y.length) ∧ Yd ++ V ++ U ++ Xd = Y ++ X ∧ wr.ownsRow B 33 36 (.slice (some ⟨g, 0, none⟩) n cap) n (shsC (P ++ Yd ++ U ++ V ++ Xd ++ Q)) ∧ Below B w wr) (fun c d _ => (intOf c).toNat + (intOf d).toNat)
  case atStart =>
    refine ⟨i0, j0, [], X, Y, [], rfl, rfl, by rw [HI0.out, HJ0.out]; exact HPOS.out, ⟨HI0.out.symm, HJ0.out.symm⟩, ⟨?_, ?_⟩, by simp, ?_, Below.refl _ _⟩
    · have := HNN.out.2.2.1; have := HI0.out; rw [List.length_nil]; omega
    · have := HI0.out; have := HJ0.out; rw [List.length_nil]; omega
    · have h := HW.out; simpa using h
  case round =>
    obtain ⟨i, j, Yd, U, V, Xd, rfl, rfl, ⟨hi, hj⟩, ⟨hU, hV⟩, ⟨hmm, hle⟩, hdone, ho, hb⟩ := hrel
    have hbn : m + j ≤ b := by have := HNN.out; omega
    have hb5 : b ≤ 50000 := by have := HNN.out; omega
    have HD := Lib.hid hdone
    have HO := Lib.hid ho
    have BEL := Lib.hid hb
    have HUV := Lib.hid (And.intro hU hV)
    have HMM := Lib.hid (And.intro hmm hle)
    obtain ⟨s, hs⟩ : ∃ s, s = m - i := ⟨_, rfl⟩
    have z1 : (m : Int) - (i : Int) = (s : Int) := by omega
    have z2 : IntKind.i64.wrap (s : Int) = (s : Int) := by rw [IntKind.wrap_i64]; omega
    have HS := Lib.hid (show s = P.length + Yd.length by omega)
    clear hdone ho hb hU hV hs
    generalize wr = w1 at *
    by_cases hij : i = j
    · subst hij
      clear hmm hle hbn
      have SWC := Lib.hid (fun w hw => SW.out (P ++ Yd) U [] V (Xd ++ Q) i s m HUV.out.1 HUV.out.2 (by rw [HS.out, List.length_append]) (by have := HMM.out; rw [List.length_append, List.length_nil]; omega) w hw)
      have HO1 := Lib.hid (show w1.ownsRow B 33 36 (.slice (some ⟨g, 0, none⟩) n cap) n (shsC (P ++ Yd ++ U ++ [] ++ V ++ (Xd ++ Q))) by have h := HO.out; simpa using h)
      go_wp2_with (first
        | (go_at_call 149; refine (SWC.out _ HO1.out).mono ?_; rintro x w2 ⟨rfl, h1, h2⟩; have E1 := Lib.hid h1; have E2 := Lib.hid (BEL.out.trans h2); clear h1 h2))
      refine bodyPost_end (results_none rfl _ _ _) rfl ?_
      refine ⟨rfl, ?_, E2.out⟩
      have h := E1.out
      have e : P ++ Yd ++ V ++ [] ++ U ++ (Xd ++ Q) = P ++ Y ++ X ++ Q := by
        have h := congrArg (fun l => P ++ l ++ Q) HD.out
        simpa using h
      rw [e] at h
      simpa only [List.append_assoc] using h
    · by_cases hgt : j < i
      · have q1 : ¬ (i : Int) = (j : Int) := by omega
        have q2 : (i : Int) > (j : Int) := by omega
        obtain ⟨d, hd⟩ : ∃ d, d = i - j := ⟨_, rfl⟩
        have q3 : (i : Int) - (j : Int) = (d : Int) := by omega
        have q4 : IntKind.i64.wrap (d : Int) = (d : Int) := by rw [IntKind.wrap_i64]; omega
        have HDD := Lib.hid (show d + j = i ∧ 0 < d ∧ 0 < j by omega)
        have eU : U.take j ++ U.drop j = U := List.take_append_drop _ _
        have lU : (U.take j).length = j ∧ (U.drop j).length = d := ⟨by rw [List.length_take, HUV.out.1]; omega, by rw [List.length_drop, HUV.out.1]; omega⟩
        obtain ⟨U1, hU1⟩ : ∃ U1, U1 = U.take j := ⟨_, rfl⟩
        obtain ⟨U2, hU2⟩ : ∃ U1, U1 = U.drop j := ⟨_, rfl⟩
        rw [← hU1, ← hU2] at eU lU
        have EU := Lib.hid eU
        have LU := Lib.hid lU
        have SWC := Lib.hid (fun w hw => SW.out (P ++ Yd) U1 U2 V (Xd ++ Q) j s m LU.out.1 HUV.out.2 (by rw [HS.out, List.length_append]) (by have := HMM.out; have := HDD.out; rw [List.length_append, LU.out.2]; omega) w hw)
        have HO1 := Lib.hid (show w1.ownsRow B 33 36 (.slice (some ⟨g, 0, none⟩) n cap) n (shsC (P ++ Yd ++ U1 ++ U2 ++ V ++ (Xd ++ Q))) by have h := HO.out; rw [← EU.out] at h; simpa using h)
        clear hU1 hU2 eU lU hd hmm hle hbn hi hj hij hgt
        go_wp2_with (first
          | (go_at_call 149; refine (SWC.out _ HO1.out).mono ?_; rintro x w2 ⟨rfl, h1, h2⟩; have E1 := Lib.hid h1; have E2 := Lib.hid (BEL.out.trans h2); clear h1 h2))
        refine ⟨⟨d, j, Yd ++ V, U2, U1, Xd, rfl, rfl, ⟨HDD.out.2.1, HDD.out.2.2⟩, ⟨LU.out.2, LU.out.1⟩, ⟨?_, ?_⟩, ?_, ?_, E2.out⟩, ?_⟩
        · have := HMM.out; have := HDD.out; rw [List.length_append, HUV.out.2]; omega
        · have := HMM.out; have := HDD.out; rw [List.length_append, HUV.out.2]; omega
        · have h := HD.out; rw [← EU.out] at h; simpa using h
        · have h := E1.out; simpa using h
        · have := HDD.out; simp [intOf] <;> omega
      · have q1 : ¬ (i : Int) = (j : Int) := by omega
        have q2 : ¬ (i : Int) > (j : Int) := by omega
        obtain ⟨d, hd⟩ : ∃ d, d = j - i := ⟨_, rfl⟩
        obtain ⟨t, ht⟩ : ∃ t, t = m + d := ⟨_, rfl⟩
        obtain ⟨r, hr⟩ : ∃ r, r = m + j := ⟨_, rfl⟩
        have q3 : (j : Int) - (i : Int) = (d : Int) := by omega
        have q4 : IntKind.i64.wrap (d : Int) = (d : Int) := by rw [IntKind.wrap_i64]; omega
        have q5 : (m : Int) + (j : Int) = (r : Int) := by omega
        have q6 : IntKind.i64.wrap (r : Int) = (r : Int) := by rw [IntKind.wrap_i64]; omega
        have q7 : (r : Int) - (i : Int) = (t : Int) := by omega
        have q8 : IntKind.i64.wrap (t : Int) = (t : Int) := by rw [IntKind.wrap_i64]; omega
        have HDD := Lib.hid (show d + i = j ∧ 0 < d ∧ 0 < i ∧ t = m + d by omega)
        have eU : V.take d ++ V.drop d = V := List.take_append_drop _ _
        have lU : (V.take d).length = d ∧ (V.drop d).length = i := ⟨by rw [List.length_take, HUV.out.2]; omega, by rw [List.length_drop, HUV.out.2]; omega⟩
        obtain ⟨V1, hU1⟩ : ∃ U1, U1 = V.take d := ⟨_, rfl⟩
        obtain ⟨V2, hU2⟩ : ∃ U1, U1 = V.drop d := ⟨_, rfl⟩
        rw [← hU1, ← hU2] at eU lU
        have EU := Lib.hid eU
        have LU := Lib.hid lU
        have SWC := Lib.hid (fun w hw => SW.out (P ++ Yd) U V1 V2 (Xd ++ Q) i s t HUV.out.1 LU.out.2 (by rw [HS.out, List.length_append]) (by have := HMM.out; have := HDD.out; rw [List.length_append, LU.out.1]; omega) w hw)
        have HO1 := Lib.hid (show w1.ownsRow B 33 36 (.slice (some ⟨g, 0, none⟩) n cap) n (shsC (P ++ Yd ++ U ++ V1 ++ V2 ++ (Xd ++ Q))) by have h := HO.out; rw [← EU.out] at h; simpa using h)
        clear hU1 hU2 eU lU hd ht hr hmm hle hbn hi hj hij hgt
        go_wp2_with (first
          | (go_at_call 149; refine (SWC.out _ HO1.out).mono ?_; rintro x w2 ⟨rfl, h1, h2⟩; have E1 := Lib.hid h1; have E2 := Lib.hid (BEL.out.trans h2); clear h1 h2))
        refine ⟨⟨i, d, Yd, V2, V1, U ++ Xd, rfl, rfl, ⟨HDD.out.2.2.1, HDD.out.2.1⟩, ⟨LU.out.2, LU.out.1⟩, ⟨?_, ?_⟩, ?_, ?_, E2.out⟩, ?_⟩
        · have := HMM.out; omega
        · have := HMM.out; have := HDD.out; omega
        · have h := HD.out; rw [← EU.out] at h; simpa using h
        · have h := E1.out; simpa using h
        · have := HDD.out; simp [intOf] <;> omega
end Go.Proofs.YtppmbdpfledejaaGreatDoor
namespace Go.Proofs.YtppmbdpfledejaaGreatDoor
open Go.RowKit
theorem half_nums (i j : Nat) (hij : i < j) (hj : j ≤ 50000) : ∃ s h : Nat, (i : Int) + (j : Int) = (s : Int) ∧ IntKind.i64.wrap (s : Int) = (s : Int) ∧ IntKind.u64.wrap (s : Int) = (s : Int) ∧ (s : Int) / 2 = (h : Int) ∧ IntKind.u64.wrap (h : Int) = (h : Int) ∧ IntKind.i64.wrap (h : Int) = (h : Int) ∧ i ≤ h ∧ h < j ∧ IntKind.i64.wrap ((h : Int) + 1) = ((h + 1 : Nat) : Int) :=
  ⟨i + j, (i + j) / 2, by omega, by rw [IntKind.wrap_i64]; omega, by rw [show IntKind.u64.wrap ((i + j : Nat) : Int) = ((i + j : Nat) : Int) % 18446744073709551616 from rfl]; omega, by omega, by rw [show IntKind.u64.wrap (((i + j) / 2 : Nat) : Int) = (((i + j) / 2 : Nat) : Int) % 18446744073709551616 from rfl]; omega, by rw [IntKind.wrap_i64]; omega, by omega, by omega, by rw [IntKind.wrap_i64]; omega⟩
theorem take_lt {Y : List Sh} {z : Sh} {e : Nat} (hs : SortedK Sh.path Y) (h : 0 < e → ∃ y, Y[e - 1]? = some y ∧ ltK Sh.path y z = true) : ∀ x ∈ Y.take e, ltK Sh.path x z = true := by
  intro x hx
  obtain ⟨k, hk, rfl⟩ := List.getElem_of_mem hx
  rw [List.length_take] at hk
  obtain ⟨y, hy, hy2⟩ := h (by omega)
  obtain ⟨hl, rfl⟩ := List.getElem?_eq_some_iff.1 hy
  rw [List.getElem_take]
  refine leK_ltK ?_ hy2
  by_cases hke : k = e - 1
  · subst hke; exact leK_refl _
  · exact List.pairwise_iff_getElem.1 hs k (e - 1) (by omega) hl (by omega)
theorem drop_le {Y : List Sh} {z : Sh} {e : Nat} (hs : SortedK Sh.path Y) (h : e < Y.length → ∃ y, Y[e]? = some y ∧ leK Sh.path z y) : ∀ x ∈ Y.drop e, leK Sh.path z x := by
  intro x hx
  obtain ⟨k, hk, rfl⟩ := List.getElem_of_mem hx
  rw [List.length_drop] at hk
  obtain ⟨y, hy, hy2⟩ := h (by omega)
  obtain ⟨hl, rfl⟩ := List.getElem?_eq_some_iff.1 hy
  rw [List.getElem_drop]
  refine leK_trans hy2 ?_
  by_cases hke : k = 0
  · subst hke; exact leK_refl _
  · exact List.pairwise_iff_getElem.1 hs e (e + k) hl (by omega) (by omega)
theorem take_le {Y : List Sh} {z : Sh} {e : Nat} (hs : SortedK Sh.path Y) (h : 0 < e → ∃ y, Y[e - 1]? = some y ∧ leK Sh.path y z) : ∀ x ∈ Y.take e, leK Sh.path x z := by
  intro x hx
  obtain ⟨k, hk, rfl⟩ := List.getElem_of_mem hx
  rw [List.length_take] at hk
  obtain ⟨y, hy, hy2⟩ := h (by omega)
  obtain ⟨hl, rfl⟩ := List.getElem?_eq_some_iff.1 hy
  rw [List.getElem_take]
  refine leK_trans ?_ hy2
  by_cases hke : k = e - 1
  · subst hke; exact leK_refl _
  · exact List.pairwise_iff_getElem.1 hs k (e - 1) (by omega) hl (by omega)
theorem drop_lt {Y : List Sh} {z : Sh} {e : Nat} (hs : SortedK Sh.path Y) (h : e < Y.length → ∃ y, Y[e]? = some y ∧ ltK Sh.path z y = true) : ∀ x ∈ Y.drop e, ltK Sh.path z x = true := by
  intro x hx
  obtain ⟨k, hk, rfl⟩ := List.getElem_of_mem hx
  rw [List.length_drop] at hk
  obtain ⟨y, hy, hy2⟩ := h (by omega)
  obtain ⟨hl, rfl⟩ := List.getElem?_eq_some_iff.1 hy
  rw [List.getElem_drop]
  refine ltK_leK hy2 ?_
  by_cases hke : k = 0
  · subst hke; exact leK_refl _
  · exact List.pairwise_iff_getElem.1 hs e (e + k) hl (by omega) (by omega)
set_option linter.unusedSimpArgs false in
set_option maxRecDepth 100000 in
set_option maxHeartbeats 16000000 in
theorem symA_any (F : FuncId) (hF : CmpF F) (P : List Sh) (z : Sh) (Y Q : List Sh) (a m b n cap g B : Nat) (hY : 0 < Y.length) (sY : SortedK Sh.path Y) (ha : a = P.length) (hm : m = P.length + 1) (hb : b = P.length + 1 + Y.length) (hn5 : n ≤ 50000) (w : World) (hw : w.ownsRow B 33 36 (.slice (some ⟨g, 0, none⟩) n cap) n (shsC (P ++ z :: (Y ++ Q)))) :
    Calls Tryz.prog 105 #[(.slice (some ⟨g, 0, none⟩) n cap), .int .i64 (a : Int), .int .i64 (m : Int), .int .i64 (b : Int), .func (.func F) #[] #[]] w fun x w' => x = .returned (.tuple #[]) ∧ ∃ S, StableK Sh.path (z :: Y) S ∧ w'.ownsRow B 33 36 (.slice (some ⟨g, 0, none⟩) n cap) n (shsC (P ++ S ++ Q)) ∧ Below B w w' := by
  obtain ⟨hBg, hB0⟩ := own_in hw
  have HBG := Lib.hid hBg
  have HB0 := Lib.hid hB0
  have hn := own_len hw
  have hnn : b ≤ n := by rw [hn, hb]; simp only [List.length_append, List.length_cons]; omega
  have HNN := Lib.hid (And.intro hnn (And.intro ha (And.intro hm hb)))
  have HW := Lib.hid hw
  have HSY := Lib.hid sY
  have CMF := Lib.hid hF
  have q0 : (m : Int) - (a : Int) = (1 : Int) := by omega
  have qa : (a : Int) < (n : Int) := by omega
  have qan : a < n := by omega
  have hb5 : b ≤ 50000 := by omega
  clear hF hw hn hBg hB0 sY hnn ha hm hb
  go_enter Tryz.func105, Tryz.ntmps105
  go_wp2
  go_loopw [10, 11, 12] (fun c d e wr => ∃ i j : Nat, c = .int .i64 (i : Int) ∧ d = .int .i64 (j : Int) ∧ m ≤ i ∧ i ≤ j ∧ j ≤ b ∧ (m < i → ∃ y, Y[i - 1 - m]? = some y ∧ ltK Sh.path y z = true) ∧ (j < b → ∃ y, Y[j - m]? = some y ∧ leK Sh.path z y) ∧ wr.ownsRow B 33 36 (.slice (some ⟨g, 0, none⟩) n cap) n (shsC (P ++ z :: (Y ++ Q))) ∧ Below B w wr) (fun c d _ _ => (intOf d).toNat - (intOf c).toNat)
  case atStart => exact ⟨m, b, rfl, rfl, Nat.le_refl _, by have := HNN.out; omega, Nat.le_refl _, fun h => by omega, fun h => by omega, HW.out, Below.refl _ _⟩
  case round =>
    obtain ⟨i, j, rfl, rfl, hmi, hij, hjb, hlo, hhi, ho, hbw⟩ := hrel
    obtain ⟨hnn, ha, hm, hb⟩ := HNN.out
    have HLO := Lib.hid hlo
    have HHI := Lib.hid hhi
    have OWN := Lib.hid ho
    have BEL := Lib.hid hbw
    clear hlo hhi ho hbw
    generalize wr = w2 at *
    by_cases hlt : i < j
    · have q1 : (i : Int) < (j : Int) := by omega
      obtain ⟨s, h, t1, t2, t3, t4, t5, t6, hih, hhj, t7⟩ := half_nums i j hlt (by omega)
      obtain ⟨y, hy⟩ : ∃ y, Y[h - m]? = some y := ⟨_, List.getElem?_eq_getElem (by omega)⟩
      have HYH := Lib.hid hy
      have CX := Lib.hid (own_sh OWN.out h y (by
        rw [List.getElem?_append_right (by omega), show h - P.length = (h - m) + 1 by omega, List.getElem?_cons_succ, List.getElem?_append_left (by omega)]; exact hy))
      have CY := Lib.hid (own_sh OWN.out a z (by rw [List.getElem?_append_right (by omega), show a - P.length = 0 by omega]; rfl))
      have q2 : (h : Int) < (n : Int) := by omega
      have q3 : h < n := by omega
      obtain ⟨c, hc⟩ : ∃ c, cmpB y.path z.path = c := ⟨_, rfl⟩
      have HC := Lib.hid hc
      have HLT := Lib.hid (lt_cmp y z)
      have HN3 := Lib.hid (And.intro hmi (And.intro hjb (And.intro hih hhj)))
      clear hc hy hlt hij hmi hjb hih hhj hnn ha hm hb
      by_cases hc0 : c < 0
      · have q9 : decide (c < 0) = true := decide_eq_true hc0
        have HXY := Lib.hid (show ltK Sh.path y z = true by rw [← HLT.out, HC.out]; exact q9)
        clear hc0
        go_upto_region 5 with fail
        refine wp_region_held_drew (S := fun w' => Below w2.heap.size w2 w') (by kernel_rfl) (drawS (Below.refl _ _)) (fun hHeld => ?_)
        generalize w2.drew = wd at hHeld ⊢
        refine take_at (i := 0) 40 rfl rfl (by kernel_rfl) (by kernel_rfl) (by kernel_rfl) (fun _ _ _ h => h) (sure_yes (by rfl) (fun w => by go_simp; try with_reducible rfl)) hHeld ?_
        simp only [List.setIfInBounds_toArray, List.set_cons_zero, List.set_cons_succ]
        refine take_at (i := 1) 41 rfl rfl (by kernel_rfl) (by kernel_rfl) (by kernel_rfl) (fun _ _ _ h => h) (sure_yes (by rfl) (fun w => by go_simp; try with_reducible rfl)) hHeld ?_
        simp only [List.setIfInBounds_toArray, List.set_cons_zero, List.set_cons_succ]
        refine take_at (i := 2) 42 rfl rfl (by kernel_rfl) (by kernel_rfl) (by kernel_rfl) (fun _ _ _ h => h) (sure_yes (by rfl) (fun w => by go_simp; try with_reducible rfl)) hHeld ?_
        simp only [List.setIfInBounds_toArray, List.set_cons_zero, List.set_cons_succ]
        refine take_at (i := 3) 43 rfl rfl (by kernel_rfl) (by kernel_rfl) (by kernel_rfl) (fun _ _ _ h => h) (sure_yes (by rfl) (fun w => by go_simp; try with_reducible rfl)) hHeld ?_
        simp only [List.setIfInBounds_toArray, List.set_cons_zero, List.set_cons_succ]
        refine take_at (i := 5) 45 rfl rfl (by kernel_rfl) (by kernel_rfl) (by kernel_rfl) (fun _ _ _ h => h) (sure_yes (by rfl) (fun w => by go_simp; try with_reducible rfl)) hHeld ?_
        simp only [List.setIfInBounds_toArray, List.set_cons_zero, List.set_cons_succ]
        refine take_at (i := 6) 46 rfl rfl (by kernel_rfl) (by kernel_rfl) (by kernel_rfl) (fun _ _ _ h => h) (sure_yes (by rfl) (fun w => by go_simp; try with_reducible rfl)) hHeld ?_
        simp only [List.setIfInBounds_toArray, List.set_cons_zero, List.set_cons_succ]
        refine take_at (i := 7) 47 rfl rfl (by kernel_rfl) (by kernel_rfl) (by kernel_rfl) (fun _ _ _ h => h) (sure_yes (by rfl) (fun w => by go_simp; try with_reducible rfl)) hHeld ?_
        simp only [List.setIfInBounds_toArray, List.set_cons_zero, List.set_cons_succ]
        refine take_at (i := 4) 44 rfl rfl (by kernel_rfl) (by kernel_rfl) (by kernel_rfl) (fun _ _ _ h => h) (shA_yields (by rfl) 33 (.tmp 43) rfl ⟨g, h * 36, none⟩ rfl Tryz.underlying33 shSize (fun w h j u hu => cell_under12 (CX.out j u hu) h)) hHeld ?_
        simp only [List.setIfInBounds_toArray, List.set_cons_zero, List.set_cons_succ]
        refine take_at (i := 8) 48 rfl rfl (by kernel_rfl) (by kernel_rfl) (by kernel_rfl) (fun _ _ _ h => h) (shA_yields (by rfl) 33 (.tmp 47) rfl ⟨g, a * 36, none⟩ rfl Tryz.underlying33 shSize (fun w h j u hu => cell_under12 (CY.out j u hu) h)) hHeld ?_
        simp only [List.setIfInBounds_toArray, List.set_cons_zero, List.set_cons_succ]
        refine ready_one 9 (by kernel_rfl) ?_
        refine opH_c2 49 rfl rfl (by rfl) F (.tmp 40) (.tmp 44) (.tmp 48) 33 33 rfl rfl (.agg (shC y)) (.agg (shC z)) rfl rfl CMF.out.2 _ (CMF.out.1 y z _) ?_
        rintro x wz ⟨rfl, hb⟩
        refine ⟨_, rfl, below_next hHeld hb, ?_⟩
        replace hHeld := below_next hHeld hb
        rw [HC.out]
        clear hb
        simp only [List.setIfInBounds_toArray, List.set_cons_zero, List.set_cons_succ]
        refine take_at (i := 10) 50 rfl rfl (by kernel_rfl) (by kernel_rfl) (by kernel_rfl) (fun _ _ _ h => h) (sure_yes (by rfl) (fun w => by go_simp; try with_reducible rfl)) hHeld ?_
        simp only [List.setIfInBounds_toArray, List.set_cons_zero, List.set_cons_succ]
        refine wpAnyH_done (by kernel_rfl) ?_ _
        have Z := Lib.hid hHeld
        clear hHeld
        have OWN2 := Lib.hid (own_below OWN.out Z.out)
        have BEL2 := Lib.hid (below_in BEL.out HB0.out Z.out)
        generalize wz = w3 at *
        go_wp2
        refine ⟨⟨h + 1, j, by go_num, rfl, by have := HN3.out; omega, by have := HN3.out; omega, HN3.out.2.1, fun _ => ⟨y, by rw [show h + 1 - 1 - m = h - m by omega]; exact HYH.out, HXY.out⟩, HHI.out, OWN2.out, BEL2.out⟩, ?_⟩
        have := HN3.out; simp [intOf] <;> omega
      · have q9 : decide (c < 0) = false := decide_eq_false hc0
        have HXY := Lib.hid (show leK Sh.path z y by unfold leK; rw [← HLT.out, HC.out]; exact q9)
        clear hc0
        go_upto_region 5 with fail
        refine wp_region_held_drew (S := fun w' => Below w2.heap.size w2 w') (by kernel_rfl) (drawS (Below.refl _ _)) (fun hHeld => ?_)
        generalize w2.drew = wd at hHeld ⊢
        refine take_at (i := 0) 40 rfl rfl (by kernel_rfl) (by kernel_rfl) (by kernel_rfl) (fun _ _ _ h => h) (sure_yes (by rfl) (fun w => by go_simp; try with_reducible rfl)) hHeld ?_
        simp only [List.setIfInBounds_toArray, List.set_cons_zero, List.set_cons_succ]
        refine take_at (i := 1) 41 rfl rfl (by kernel_rfl) (by kernel_rfl) (by kernel_rfl) (fun _ _ _ h => h) (sure_yes (by rfl) (fun w => by go_simp; try with_reducible rfl)) hHeld ?_
        simp only [List.setIfInBounds_toArray, List.set_cons_zero, List.set_cons_succ]
        refine take_at (i := 2) 42 rfl rfl (by kernel_rfl) (by kernel_rfl) (by kernel_rfl) (fun _ _ _ h => h) (sure_yes (by rfl) (fun w => by go_simp; try with_reducible rfl)) hHeld ?_
        simp only [List.setIfInBounds_toArray, List.set_cons_zero, List.set_cons_succ]
        refine take_at (i := 3) 43 rfl rfl (by kernel_rfl) (by kernel_rfl) (by kernel_rfl) (fun _ _ _ h => h) (sure_yes (by rfl) (fun w => by go_simp; try with_reducible rfl)) hHeld ?_
        simp only [List.setIfInBounds_toArray, List.set_cons_zero, List.set_cons_succ]
        refine take_at (i := 5) 45 rfl rfl (by kernel_rfl) (by kernel_rfl) (by kernel_rfl) (fun _ _ _ h => h) (sure_yes (by rfl) (fun w => by go_simp; try with_reducible rfl)) hHeld ?_
        simp only [List.setIfInBounds_toArray, List.set_cons_zero, List.set_cons_succ]
        refine take_at (i := 6) 46 rfl rfl (by kernel_rfl) (by kernel_rfl) (by kernel_rfl) (fun _ _ _ h => h) (sure_yes (by rfl) (fun w => by go_simp; try with_reducible rfl)) hHeld ?_
        simp only [List.setIfInBounds_toArray, List.set_cons_zero, List.set_cons_succ]
        refine take_at (i := 7) 47 rfl rfl (by kernel_rfl) (by kernel_rfl) (by kernel_rfl) (fun _ _ _ h => h) (sure_yes (by rfl) (fun w => by go_simp; try with_reducible rfl)) hHeld ?_
        simp only [List.setIfInBounds_toArray, List.set_cons_zero, List.set_cons_succ]
        refine take_at (i := 4) 44 rfl rfl (by kernel_rfl) (by kernel_rfl) (by kernel_rfl) (fun _ _ _ h => h) (shA_yields (by rfl) 33 (.tmp 43) rfl ⟨g, h * 36, none⟩ rfl Tryz.underlying33 shSize (fun w h j u hu => cell_under12 (CX.out j u hu) h)) hHeld ?_
        simp only [List.setIfInBounds_toArray, List.set_cons_zero, List.set_cons_succ]
        refine take_at (i := 8) 48 rfl rfl (by kernel_rfl) (by kernel_rfl) (by kernel_rfl) (fun _ _ _ h => h) (shA_yields (by rfl) 33 (.tmp 47) rfl ⟨g, a * 36, none⟩ rfl Tryz.underlying33 shSize (fun w h j u hu => cell_under12 (CY.out j u hu) h)) hHeld ?_
        simp only [List.setIfInBounds_toArray, List.set_cons_zero, List.set_cons_succ]
        refine ready_one 9 (by kernel_rfl) ?_
        refine opH_c2 49 rfl rfl (by rfl) F (.tmp 40) (.tmp 44) (.tmp 48) 33 33 rfl rfl (.agg (shC y)) (.agg (shC z)) rfl rfl CMF.out.2 _ (CMF.out.1 y z _) ?_
        rintro x wz ⟨rfl, hb⟩
        refine ⟨_, rfl, below_next hHeld hb, ?_⟩
        replace hHeld := below_next hHeld hb
        rw [HC.out]
        clear hb
        simp only [List.setIfInBounds_toArray, List.set_cons_zero, List.set_cons_succ]
        refine take_at (i := 10) 50 rfl rfl (by kernel_rfl) (by kernel_rfl) (by kernel_rfl) (fun _ _ _ h => h) (sure_yes (by rfl) (fun w => by go_simp; try with_reducible rfl)) hHeld ?_
        simp only [List.setIfInBounds_toArray, List.set_cons_zero, List.set_cons_succ]
        refine wpAnyH_done (by kernel_rfl) ?_ _
        have Z := Lib.hid hHeld
        clear hHeld
        have OWN2 := Lib.hid (own_below OWN.out Z.out)
        have BEL2 := Lib.hid (below_in BEL.out HB0.out Z.out)
        generalize wz = w3 at *
        go_wp2
        refine ⟨⟨i, h, rfl, rfl, HN3.out.1, HN3.out.2.2.1, by have := HN3.out; omega, HLO.out, fun _ => ⟨y, HYH.out, HXY.out⟩, OWN2.out, BEL2.out⟩, ?_⟩
        have := HN3.out; simp [intOf] <;> omega
    · obtain rfl : i = j := by omega
      have q1 : ¬ (i : Int) < (i : Int) := by omega
      obtain ⟨e, he⟩ : ∃ e, e = i - m := ⟨_, rfl⟩
      have hLT := take_lt (e := e) (z := z) HSY.out (fun h => by obtain ⟨y, hy, hy2⟩ := HLO.out (by omega); exact ⟨y, by rw [← hy]; congr 1; omega, hy2⟩)
      have hLE := drop_le (e := e) (z := z) HSY.out (fun h => by obtain ⟨y, hy, hy2⟩ := HHI.out (by omega); exact ⟨y, by rw [he]; exact hy, hy2⟩)
      obtain ⟨Y1, h1⟩ : ∃ Y1, Y1 = Y.take e := ⟨_, rfl⟩
      obtain ⟨Y2, h2⟩ : ∃ Y2, Y2 = Y.drop e := ⟨_, rfl⟩
      have eY : Y1 ++ Y2 = Y := by rw [h1, h2]; exact List.take_append_drop _ _
      have lY : Y1.length = e := by rw [h1, List.length_take]; omega
      have HEND := Lib.hid (show StableK Sh.path (z :: Y) (Y1 ++ z :: Y2) by rw [← eY]; exact stable_left (by rw [eY]; exact HSY.out) (by rw [h1]; exact hLT) (by rw [h2]; exact hLE))
      have HLY := Lib.hid lY
      have OWN0 := Lib.hid (show w2.ownsRow B 33 36 (.slice (some ⟨g, 0, none⟩) n cap) n (shsC (P ++ z :: (Y1 ++ (Y2 ++ Q)))) by rw [← List.append_assoc Y1, eY]; exact OWN.out)
      obtain ⟨f, hf⟩ : ∃ f, f = a + e := ⟨_, rfl⟩
      have q3 : (i : Int) - 1 = (f : Int) := by omega
      have q4 : IntKind.i64.wrap (f : Int) = (f : Int) := by rw [IntKind.wrap_i64]; omega
      have hfn : f < n := by omega
      have HF := Lib.hid (And.intro hf (And.intro hfn ha))
      clear hLT hLE h1 h2 eY lY hf he hij hmi hjb hlt hnn ha hm hb
      go_wp2
      go_loopw [13] (fun c wr => ∃ t k : Nat, c = .int .i64 (k : Int) ∧ k = a + t ∧ t ≤ e ∧ wr.ownsRow B 33 36 (.slice (some ⟨g, 0, none⟩) n cap) n (shsC (P ++ Y1.take t ++ z :: (Y1.drop t ++ (Y2 ++ Q)))) ∧ Below B w wr) (fun c _ => f - (intOf c).toNat)
      case atStart => exact ⟨0, a, rfl, rfl, Nat.zero_le _, by have h := OWN0.out; simpa using h, BEL.out⟩
      case round =>
        obtain ⟨t, k, rfl, hk, hte, ho, hbw⟩ := hrel
        have BEL2 := Lib.hid hbw
        clear hbw
        by_cases hlt : t < e
        · obtain ⟨y, hy⟩ : ∃ y, Y1[t]? = some y := ⟨_, List.getElem?_eq_getElem (by have := HLY.out; omega)⟩
          rw [drop_at hy] at ho
          obtain ⟨P1, hP1⟩ : ∃ P1, P1 = P ++ Y1.take t := ⟨_, rfl⟩
          obtain ⟨U, hU⟩ : ∃ U, U = Y1.drop (t + 1) ++ (Y2 ++ Q) := ⟨_, rfl⟩
          have hp : k = P1.length := by rw [hP1, List.length_append, List.length_take]; have := HLY.out; have := HF.out; omega
          obtain ⟨q, hq⟩ : ∃ q, q = k + 1 := ⟨_, rfl⟩
          have HO := Lib.hid (show wr.ownsRow B 33 36 (.slice (some ⟨g, 0, none⟩) n cap) n (shsC (P1 ++ z :: y :: U)) by rw [hP1, hU]; exact ho)
          have HIX := Lib.hid (show (P1 ++ z :: y :: U)[k]? = some z from at_pre P1 z _ k hp)
          have HIY := Lib.hid (show (P1 ++ z :: y :: U)[q]? = some y by
            have h := at_pre (P1 ++ [z]) y U q (by rw [List.length_append, List.length_singleton]; omega)
            rw [List.append_assoc] at h; exact h)
          have HLN := Lib.hid (own_len HO.out)
          have HNX := Lib.hid (show P1 ++ y :: z :: U = P ++ Y1.take (t + 1) ++ z :: (Y1.drop (t + 1) ++ (Y2 ++ Q)) by rw [List.take_add_one, hy, hP1, hU]; simp)
          have HPQ := Lib.hid (And.intro hp (And.intro hq hk))
          have q5 : (k : Int) < (f : Int) := by have := HF.out; omega
          have q6 : (k : Int) + 1 = (q : Int) := by omega
          have q7 : IntKind.i64.wrap (q : Int) = (q : Int) := by rw [IntKind.wrap_i64]; have := HF.out; omega
          have q8 : (k : Int) < (n : Int) := by have := HF.out; omega
          have q9 : (q : Int) < (n : Int) := by have := HF.out; omega
          have q10 : k < n := by omega
          have q11 : q < n := by omega
          clear ho hP1 hU hp hq hk hy
          generalize wr = w3 at *
          go_upto_region 11 with fail
          have OD := Lib.hid (own_below HO.out (drawS (Below.refl w3.heap.size w3)))
          have BD := Lib.hid (below_in BEL2.out HB0.out (drawS (Below.refl w3.heap.size w3)))
          refine wp_region_held_drew (S := fun _ => True) (by kernel_rfl) trivial (fun hHeld => ?_)
          generalize w3.drew = we at OD BD ⊢
          have CXD := Lib.hid (own_sh OD.out k z HIX.out)
          have CYD := Lib.hid (own_sh OD.out q y HIY.out)
          refine take_at (i := 0) 61 rfl rfl (by kernel_rfl) (by kernel_rfl) (by kernel_rfl) (fun _ _ _ h => h) (sure_yes (by rfl) (fun w => by go_simp; try with_reducible rfl)) hHeld ?_
          simp only [List.setIfInBounds_toArray, List.set_cons_zero, List.set_cons_succ]
          refine take_at (i := 1) 62 rfl rfl (by kernel_rfl) (by kernel_rfl) (by kernel_rfl) (fun _ _ _ h => h) (sure_yes (by rfl) (fun w => by go_simp; try with_reducible rfl)) hHeld ?_
          simp only [List.setIfInBounds_toArray, List.set_cons_zero, List.set_cons_succ]
          refine take_at (i := 2) 63 rfl rfl (by kernel_rfl) (by kernel_rfl) (by kernel_rfl) (fun _ _ _ h => h) (sure_yes (by rfl) (fun w => by go_simp; try with_reducible rfl)) hHeld ?_
          simp only [List.setIfInBounds_toArray, List.set_cons_zero, List.set_cons_succ]
          refine take_at (i := 3) 64 rfl rfl (by kernel_rfl) (by kernel_rfl) (by kernel_rfl) (fun _ _ _ h => h) (sure_yes (by rfl) (fun w => by go_simp; try with_reducible rfl)) hHeld ?_
          simp only [List.setIfInBounds_toArray, List.set_cons_zero, List.set_cons_succ]
          refine take_at (i := 4) 65 rfl rfl (by kernel_rfl) (by kernel_rfl) (by kernel_rfl) (fun _ _ _ h => h) (sure_yes (by rfl) (fun w => by go_simp; try with_reducible rfl)) hHeld ?_
          simp only [List.setIfInBounds_toArray, List.set_cons_zero, List.set_cons_succ]
          refine take_at (i := 5) 66 rfl rfl (by kernel_rfl) (by kernel_rfl) (by kernel_rfl) (fun _ _ _ h => h) (sure_yes (by rfl) (fun w => by go_simp; try with_reducible rfl)) hHeld ?_
          simp only [List.setIfInBounds_toArray, List.set_cons_zero, List.set_cons_succ]
          refine take_at (i := 6) 67 rfl rfl (by kernel_rfl) (by kernel_rfl) (by kernel_rfl) (fun _ _ _ h => h) (sure_yes (by rfl) (fun w => by go_simp; try with_reducible rfl)) hHeld ?_
          simp only [List.setIfInBounds_toArray, List.set_cons_zero, List.set_cons_succ]
          refine take_at (i := 7) 68 rfl rfl (by kernel_rfl) (by kernel_rfl) (by kernel_rfl) (fun _ _ _ h => h) (sure_yes (by rfl) (fun w => by go_simp; try with_reducible rfl)) hHeld ?_
          simp only [List.setIfInBounds_toArray, List.set_cons_zero, List.set_cons_succ]
          refine take_at (i := 8) 69 rfl rfl (by kernel_rfl) (by kernel_rfl) (by kernel_rfl) (fun _ _ _ h => h) (sure_yes (by rfl) (fun w => by go_simp; try with_reducible rfl)) hHeld ?_
          simp only [List.setIfInBounds_toArray, List.set_cons_zero, List.set_cons_succ]
          refine take_at (i := 10) 71 rfl rfl (by kernel_rfl) (by kernel_rfl) (by kernel_rfl) (fun _ _ _ h => h) (sure_yes (by rfl) (fun w => by go_simp; try with_reducible rfl)) hHeld ?_
          simp only [List.setIfInBounds_toArray, List.set_cons_zero, List.set_cons_succ]
          refine take_at (i := 11) 72 rfl rfl (by kernel_rfl) (by kernel_rfl) (by kernel_rfl) (fun _ _ _ h => h) (sure_yes (by rfl) (fun w => by go_simp; try with_reducible rfl)) hHeld ?_
          simp only [List.setIfInBounds_toArray, List.set_cons_zero, List.set_cons_succ]
          refine take_at (i := 12) 73 rfl rfl (by kernel_rfl) (by kernel_rfl) (by kernel_rfl) (fun _ _ _ h => h) (sure_yes (by rfl) (fun w => by go_simp; try with_reducible rfl)) hHeld ?_
          simp only [List.setIfInBounds_toArray, List.set_cons_zero, List.set_cons_succ]
          refine ready_two 9 13 (by kernel_rfl) ?_ ?_
          · refine opH_shA 70 rfl rfl (by rfl) 33 (.tmp 69) rfl ⟨g, q * 36, none⟩ rfl Tryz.underlying33 shSize CYD.out trivial ?_
            simp only [Act.put, List.setIfInBounds_toArray, List.set_cons_zero, List.set_cons_succ]
            refine ready_one 13 (by kernel_rfl) ?_
            refine opH_shA 74 rfl rfl (by rfl) 33 (.tmp 73) rfl ⟨g, k * 36, none⟩ rfl Tryz.underlying33 shSize CXD.out trivial ?_
            simp only [Act.put, List.setIfInBounds_toArray, List.set_cons_zero, List.set_cons_succ]
            refine take_at (i := 14) 75 rfl rfl (by kernel_rfl) (by kernel_rfl) (by kernel_rfl) (fun _ _ _ h => h) (sure_yes (by rfl) (fun w => by go_simp; try with_reducible rfl)) hHeld ?_
            simp only [List.setIfInBounds_toArray, List.set_cons_zero, List.set_cons_succ]
            refine ready_one 15 (by kernel_rfl) ?_
            refine opH_list rfl ?_
            refine store_sh rfl 33 (.tmp 75) (.tmp 70) rfl rfl B 33 g n cap k _ OD.out HLN.out (by omega) _ rfl rfl y rfl shSize ?_
            intro wf ho hs
            refine opH_end trivial ?_
            have O1 := Lib.hid ho
            have B1 := Lib.hid (solo_in BD.out hs HBG.out)
            clear ho hs
            refine take_at (i := 16) 76 rfl rfl (by kernel_rfl) (by kernel_rfl) (by kernel_rfl) (fun _ _ _ h => h) (sure_yes (by rfl) (fun w => by go_simp; try with_reducible rfl)) hHeld ?_
            simp only [List.setIfInBounds_toArray, List.set_cons_zero, List.set_cons_succ]
            refine ready_one 17 (by kernel_rfl) ?_
            refine opH_list rfl ?_
            refine store_sh rfl 33 (.tmp 76) (.tmp 74) rfl rfl B 33 g n cap q _ O1.out (by rw [List.length_set]; exact HLN.out) (by omega) _ rfl rfl z rfl shSize ?_
            intro wh ho hs
            refine opH_end trivial ?_
            have O2 := Lib.hid ho
            have B2 := Lib.hid (solo_in B1.out hs HBG.out)
            clear ho hs
            refine wpAnyH_done (by kernel_rfl) ?_ _
            clear hHeld
            go_wp2
            refine ⟨⟨t + 1, q, rfl, by have := HPQ.out; omega, by omega, by
              have h := O2.out
              have e := swap2_sets P1 z [] y U k q HPQ.out.1 (by have := HPQ.out; rw [List.length_nil]; omega)
              simp only [List.nil_append] at e
              rw [e, HNX.out] at h; exact h, B2.out⟩, ?_⟩
            have := HPQ.out; simp [intOf] <;> omega
          · refine opH_shA 74 rfl rfl (by rfl) 33 (.tmp 73) rfl ⟨g, k * 36, none⟩ rfl Tryz.underlying33 shSize CXD.out trivial ?_
            simp only [Act.put, List.setIfInBounds_toArray, List.set_cons_zero, List.set_cons_succ]
            refine ready_one 9 (by kernel_rfl) ?_
            refine opH_shA 70 rfl rfl (by rfl) 33 (.tmp 69) rfl ⟨g, q * 36, none⟩ rfl Tryz.underlying33 shSize CYD.out trivial ?_
            simp only [Act.put, List.setIfInBounds_toArray, List.set_cons_zero, List.set_cons_succ]
            refine take_at (i := 14) 75 rfl rfl (by kernel_rfl) (by kernel_rfl) (by kernel_rfl) (fun _ _ _ h => h) (sure_yes (by rfl) (fun w => by go_simp; try with_reducible rfl)) hHeld ?_
            simp only [List.setIfInBounds_toArray, List.set_cons_zero, List.set_cons_succ]
            refine ready_one 15 (by kernel_rfl) ?_
            refine opH_list rfl ?_
            refine store_sh rfl 33 (.tmp 75) (.tmp 70) rfl rfl B 33 g n cap k _ OD.out HLN.out (by omega) _ rfl rfl y rfl shSize ?_
            intro wf ho hs
            refine opH_end trivial ?_
            have O1 := Lib.hid ho
            have B1 := Lib.hid (solo_in BD.out hs HBG.out)
            clear ho hs
            refine take_at (i := 16) 76 rfl rfl (by kernel_rfl) (by kernel_rfl) (by kernel_rfl) (fun _ _ _ h => h) (sure_yes (by rfl) (fun w => by go_simp; try with_reducible rfl)) hHeld ?_
            simp only [List.setIfInBounds_toArray, List.set_cons_zero, List.set_cons_succ]
            refine ready_one 17 (by kernel_rfl) ?_
            refine opH_list rfl ?_
            refine store_sh rfl 33 (.tmp 76) (.tmp 74) rfl rfl B 33 g n cap q _ O1.out (by rw [List.length_set]; exact HLN.out) (by omega) _ rfl rfl z rfl shSize ?_
            intro wh ho hs
            refine opH_end trivial ?_
            have O2 := Lib.hid ho
            have B2 := Lib.hid (solo_in B1.out hs HBG.out)
            clear ho hs
            refine wpAnyH_done (by kernel_rfl) ?_ _
            clear hHeld
            go_wp2
            refine ⟨⟨t + 1, q, rfl, by have := HPQ.out; omega, by omega, by
              have h := O2.out
              have e := swap2_sets P1 z [] y U k q HPQ.out.1 (by have := HPQ.out; rw [List.length_nil]; omega)
              simp only [List.nil_append] at e
              rw [e, HNX.out] at h; exact h, B2.out⟩, ?_⟩
            have := HPQ.out; simp [intOf] <;> omega
        · obtain rfl : t = e := by omega
          have q5 : ¬ (k : Int) < (f : Int) := by have := HF.out; omega
          have OWN9 := Lib.hid (show wr.ownsRow B 33 36 (.slice (some ⟨g, 0, none⟩) n cap) n (shsC (P ++ (Y1 ++ z :: Y2) ++ Q)) by
            have h := ho
            rw [← HLY.out, List.take_length, List.drop_length] at h
            simpa using h)
          clear ho hk
          go_wp2
          refine bodyPost_ret (results_none rfl _ _ _) rfl ?_
          exact ⟨rfl, Y1 ++ z :: Y2, HEND.out, (by have h := OWN9.out; simpa using h), BEL2.out⟩
set_option linter.unusedSimpArgs false in
set_option maxRecDepth 100000 in
set_option maxHeartbeats 16000000 in
theorem symB_any (F : FuncId) (hF : CmpF F) (P X : List Sh) (z : Sh) (Q : List Sh) (a m b n cap g B : Nat) (hX : 1 < X.length) (sX : SortedK Sh.path X) (ha : a = P.length) (hm : m = P.length + X.length) (hb : b = P.length + X.length + 1) (hn5 : n ≤ 50000) (w : World) (hw : w.ownsRow B 33 36 (.slice (some ⟨g, 0, none⟩) n cap) n (shsC (P ++ (X ++ z :: Q)))) :
    Calls Tryz.prog 105 #[(.slice (some ⟨g, 0, none⟩) n cap), .int .i64 (a : Int), .int .i64 (m : Int), .int .i64 (b : Int), .func (.func F) #[] #[]] w fun x w' => x = .returned (.tuple #[]) ∧ ∃ S, StableK Sh.path (X ++ [z]) S ∧ w'.ownsRow B 33 36 (.slice (some ⟨g, 0, none⟩) n cap) n (shsC (P ++ S ++ Q)) ∧ Below B w w' := by
  obtain ⟨hBg, hB0⟩ := own_in hw
  have HBG := Lib.hid hBg
  have HB0 := Lib.hid hB0
  have hn := own_len hw
  have hnn : b ≤ n := by rw [hn, hb]; simp only [List.length_append, List.length_cons]; omega
  have HNN := Lib.hid (And.intro hnn (And.intro ha (And.intro hm hb)))
  have HW := Lib.hid hw
  have HSX := Lib.hid sX
  have CMF := Lib.hid hF
  obtain ⟨l, hl⟩ : ∃ l, l = X.length := ⟨_, rfl⟩
  have HL := Lib.hid hl
  have q0 : (m : Int) - (a : Int) = (l : Int) := by omega
  have q0b : ((l : Int) == 1) = false := by have : (l : Int) ≠ 1 := by omega
                                            simpa using this
  have q0d : IntKind.i64.wrap (l : Int) = (l : Int) := by rw [IntKind.wrap_i64]; omega
  have q0e : (b : Int) - (m : Int) = (1 : Int) := by omega
  have q0f : ¬ l = 1 := by omega
  have qa : (m : Int) < (n : Int) := by omega
  have qan : m < n := by omega
  have hb5 : b ≤ 50000 := by omega
  clear hF hw hn hBg hB0 sX hnn ha hm hb hl hX
  go_enter Tryz.func105, Tryz.ntmps105
  go_wp2
  go_loopw [14, 15, 16] (fun c d e wr => ∃ i j : Nat, c = .int .i64 (i : Int) ∧ d = .int .i64 (j : Int) ∧ a ≤ i ∧ i ≤ j ∧ j ≤ m ∧ (a < i → ∃ y, X[i - 1 - a]? = some y ∧ leK Sh.path y z) ∧ (j < m → ∃ y, X[j - a]? = some y ∧ ltK Sh.path z y = true) ∧ wr.ownsRow B 33 36 (.slice (some ⟨g, 0, none⟩) n cap) n (shsC (P ++ (X ++ z :: Q))) ∧ Below B w wr) (fun c d _ _ => (intOf d).toNat - (intOf c).toNat)
  case atStart => exact ⟨a, m, rfl, rfl, Nat.le_refl _, by have := HNN.out; omega, Nat.le_refl _, fun h => by omega, fun h => by omega, HW.out, Below.refl _ _⟩
  case round =>
    obtain ⟨i, j, rfl, rfl, hmi, hij, hjb, hlo, hhi, ho, hbw⟩ := hrel
    obtain ⟨hnn, ha, hm, hb⟩ := HNN.out
    have hl := HL.out
    have HLO := Lib.hid hlo
    have HHI := Lib.hid hhi
    have OWN := Lib.hid ho
    have BEL := Lib.hid hbw
    clear hlo hhi ho hbw
    generalize wr = w2 at *
    by_cases hlt : i < j
    · have q1 : (i : Int) < (j : Int) := by omega
      obtain ⟨s, h, t1, t2, t3, t4, t5, t6, hih, hhj, t7⟩ := half_nums i j hlt (by omega)
      obtain ⟨y, hy⟩ : ∃ y, X[h - a]? = some y := ⟨_, List.getElem?_eq_getElem (by omega)⟩
      have HYH := Lib.hid hy
      have CY := Lib.hid (own_sh OWN.out h y (by
        rw [List.getElem?_append_right (by omega), List.getElem?_append_left (by omega), show h - P.length = h - a by omega]; exact hy))
      have CX := Lib.hid (own_sh OWN.out m z (by rw [List.getElem?_append_right (by omega), List.getElem?_append_right (by omega), show m - P.length - X.length = 0 by omega]; rfl))
      have q2 : (h : Int) < (n : Int) := by omega
      have q3 : h < n := by omega
      obtain ⟨c, hc⟩ : ∃ c, cmpB z.path y.path = c := ⟨_, rfl⟩
      have HC := Lib.hid hc
      have HLT := Lib.hid (lt_cmp z y)
      have HN3 := Lib.hid (And.intro hmi (And.intro hjb (And.intro hih hhj)))
      clear hc hy hlt hij hmi hjb hih hhj hnn ha hm hb hl
      by_cases hc0 : c < 0
      · have q9 : decide (c < 0) = true := decide_eq_true hc0
        have HXY := Lib.hid (show ltK Sh.path z y = true by rw [← HLT.out, HC.out]; exact q9)
        clear hc0
        go_upto_region 17 with fail
        refine wp_region_held_drew (S := fun w' => Below w2.heap.size w2 w') (by kernel_rfl) (drawS (Below.refl _ _)) (fun hHeld => ?_)
        generalize w2.drew = wd at hHeld ⊢
        refine take_at (i := 0) 92 rfl rfl (by kernel_rfl) (by kernel_rfl) (by kernel_rfl) (fun _ _ _ h => h) (sure_yes (by rfl) (fun w => by go_simp; try with_reducible rfl)) hHeld ?_
        simp only [List.setIfInBounds_toArray, List.set_cons_zero, List.set_cons_succ]
        refine take_at (i := 1) 93 rfl rfl (by kernel_rfl) (by kernel_rfl) (by kernel_rfl) (fun _ _ _ h => h) (sure_yes (by rfl) (fun w => by go_simp; try with_reducible rfl)) hHeld ?_
        simp only [List.setIfInBounds_toArray, List.set_cons_zero, List.set_cons_succ]
        refine take_at (i := 2) 94 rfl rfl (by kernel_rfl) (by kernel_rfl) (by kernel_rfl) (fun _ _ _ h => h) (sure_yes (by rfl) (fun w => by go_simp; try with_reducible rfl)) hHeld ?_
        simp only [List.setIfInBounds_toArray, List.set_cons_zero, List.set_cons_succ]
        refine take_at (i := 3) 95 rfl rfl (by kernel_rfl) (by kernel_rfl) (by kernel_rfl) (fun _ _ _ h => h) (sure_yes (by rfl) (fun w => by go_simp; try with_reducible rfl)) hHeld ?_
        simp only [List.setIfInBounds_toArray, List.set_cons_zero, List.set_cons_succ]
        refine take_at (i := 5) 97 rfl rfl (by kernel_rfl) (by kernel_rfl) (by kernel_rfl) (fun _ _ _ h => h) (sure_yes (by rfl) (fun w => by go_simp; try with_reducible rfl)) hHeld ?_
        simp only [List.setIfInBounds_toArray, List.set_cons_zero, List.set_cons_succ]
        refine take_at (i := 6) 98 rfl rfl (by kernel_rfl) (by kernel_rfl) (by kernel_rfl) (fun _ _ _ h => h) (sure_yes (by rfl) (fun w => by go_simp; try with_reducible rfl)) hHeld ?_
        simp only [List.setIfInBounds_toArray, List.set_cons_zero, List.set_cons_succ]
        refine take_at (i := 7) 99 rfl rfl (by kernel_rfl) (by kernel_rfl) (by kernel_rfl) (fun _ _ _ h => h) (sure_yes (by rfl) (fun w => by go_simp; try with_reducible rfl)) hHeld ?_
        simp only [List.setIfInBounds_toArray, List.set_cons_zero, List.set_cons_succ]
        refine take_at (i := 4) 96 rfl rfl (by kernel_rfl) (by kernel_rfl) (by kernel_rfl) (fun _ _ _ h => h) (shA_yields (by rfl) 33 (.tmp 95) rfl ⟨g, m * 36, none⟩ rfl Tryz.underlying33 shSize (fun w h j u hu => cell_under12 (CX.out j u hu) h)) hHeld ?_
        simp only [List.setIfInBounds_toArray, List.set_cons_zero, List.set_cons_succ]
        refine take_at (i := 8) 100 rfl rfl (by kernel_rfl) (by kernel_rfl) (by kernel_rfl) (fun _ _ _ h => h) (shA_yields (by rfl) 33 (.tmp 99) rfl ⟨g, h * 36, none⟩ rfl Tryz.underlying33 shSize (fun w h j u hu => cell_under12 (CY.out j u hu) h)) hHeld ?_
        simp only [List.setIfInBounds_toArray, List.set_cons_zero, List.set_cons_succ]
        refine ready_one 9 (by kernel_rfl) ?_
        refine opH_c2 101 rfl rfl (by rfl) F (.tmp 92) (.tmp 96) (.tmp 100) 33 33 rfl rfl (.agg (shC z)) (.agg (shC y)) rfl rfl CMF.out.2 _ (CMF.out.1 z y _) ?_
        rintro x wz ⟨rfl, hb⟩
        refine ⟨_, rfl, below_next hHeld hb, ?_⟩
        replace hHeld := below_next hHeld hb
        rw [HC.out]
        clear hb
        simp only [List.setIfInBounds_toArray, List.set_cons_zero, List.set_cons_succ]
        refine take_at (i := 10) 102 rfl rfl (by kernel_rfl) (by kernel_rfl) (by kernel_rfl) (fun _ _ _ h => h) (sure_yes (by rfl) (fun w => by go_simp; try with_reducible rfl)) hHeld ?_
        simp only [List.setIfInBounds_toArray, List.set_cons_zero, List.set_cons_succ]
        refine take_at (i := 11) 103 rfl rfl (by kernel_rfl) (by kernel_rfl) (by kernel_rfl) (fun _ _ _ h => h) (sure_yes (by rfl) (fun w => by go_simp; try with_reducible rfl)) hHeld ?_
        simp only [List.setIfInBounds_toArray, List.set_cons_zero, List.set_cons_succ]
        refine wpAnyH_done (by kernel_rfl) ?_ _
        have Z := Lib.hid hHeld
        clear hHeld
        have OWN2 := Lib.hid (own_below OWN.out Z.out)
        have BEL2 := Lib.hid (below_in BEL.out HB0.out Z.out)
        generalize wz = w3 at *
        go_wp2
        refine ⟨⟨i, h, rfl, rfl, HN3.out.1, HN3.out.2.2.1, by have := HN3.out; omega, HLO.out, fun _ => ⟨y, HYH.out, HXY.out⟩, OWN2.out, BEL2.out⟩, ?_⟩
        have := HN3.out; simp [intOf] <;> omega
      · have q9 : decide (c < 0) = false := decide_eq_false hc0
        have HXY := Lib.hid (show leK Sh.path y z by unfold leK; rw [← HLT.out, HC.out]; exact q9)
        clear hc0
        go_upto_region 17 with fail
        refine wp_region_held_drew (S := fun w' => Below w2.heap.size w2 w') (by kernel_rfl) (drawS (Below.refl _ _)) (fun hHeld => ?_)
        generalize w2.drew = wd at hHeld ⊢
        refine take_at (i := 0) 92 rfl rfl (by kernel_rfl) (by kernel_rfl) (by kernel_rfl) (fun _ _ _ h => h) (sure_yes (by rfl) (fun w => by go_simp; try with_reducible rfl)) hHeld ?_
        simp only [List.setIfInBounds_toArray, List.set_cons_zero, List.set_cons_succ]
        refine take_at (i := 1) 93 rfl rfl (by kernel_rfl) (by kernel_rfl) (by kernel_rfl) (fun _ _ _ h => h) (sure_yes (by rfl) (fun w => by go_simp; try with_reducible rfl)) hHeld ?_
        simp only [List.setIfInBounds_toArray, List.set_cons_zero, List.set_cons_succ]
        refine take_at (i := 2) 94 rfl rfl (by kernel_rfl) (by kernel_rfl) (by kernel_rfl) (fun _ _ _ h => h) (sure_yes (by rfl) (fun w => by go_simp; try with_reducible rfl)) hHeld ?_
        simp only [List.setIfInBounds_toArray, List.set_cons_zero, List.set_cons_succ]
        refine take_at (i := 3) 95 rfl rfl (by kernel_rfl) (by kernel_rfl) (by kernel_rfl) (fun _ _ _ h => h) (sure_yes (by rfl) (fun w => by go_simp; try with_reducible rfl)) hHeld ?_
        simp only [List.setIfInBounds_toArray, List.set_cons_zero, List.set_cons_succ]
        refine take_at (i := 5) 97 rfl rfl (by kernel_rfl) (by kernel_rfl) (by kernel_rfl) (fun _ _ _ h => h) (sure_yes (by rfl) (fun w => by go_simp; try with_reducible rfl)) hHeld ?_
        simp only [List.setIfInBounds_toArray, List.set_cons_zero, List.set_cons_succ]
        refine take_at (i := 6) 98 rfl rfl (by kernel_rfl) (by kernel_rfl) (by kernel_rfl) (fun _ _ _ h => h) (sure_yes (by rfl) (fun w => by go_simp; try with_reducible rfl)) hHeld ?_
        simp only [List.setIfInBounds_toArray, List.set_cons_zero, List.set_cons_succ]
        refine take_at (i := 7) 99 rfl rfl (by kernel_rfl) (by kernel_rfl) (by kernel_rfl) (fun _ _ _ h => h) (sure_yes (by rfl) (fun w => by go_simp; try with_reducible rfl)) hHeld ?_
        simp only [List.setIfInBounds_toArray, List.set_cons_zero, List.set_cons_succ]
        refine take_at (i := 4) 96 rfl rfl (by kernel_rfl) (by kernel_rfl) (by kernel_rfl) (fun _ _ _ h => h) (shA_yields (by rfl) 33 (.tmp 95) rfl ⟨g, m * 36, none⟩ rfl Tryz.underlying33 shSize (fun w h j u hu => cell_under12 (CX.out j u hu) h)) hHeld ?_
        simp only [List.setIfInBounds_toArray, List.set_cons_zero, List.set_cons_succ]
        refine take_at (i := 8) 100 rfl rfl (by kernel_rfl) (by kernel_rfl) (by kernel_rfl) (fun _ _ _ h => h) (shA_yields (by rfl) 33 (.tmp 99) rfl ⟨g, h * 36, none⟩ rfl Tryz.underlying33 shSize (fun w h j u hu => cell_under12 (CY.out j u hu) h)) hHeld ?_
        simp only [List.setIfInBounds_toArray, List.set_cons_zero, List.set_cons_succ]
        refine ready_one 9 (by kernel_rfl) ?_
        refine opH_c2 101 rfl rfl (by rfl) F (.tmp 92) (.tmp 96) (.tmp 100) 33 33 rfl rfl (.agg (shC z)) (.agg (shC y)) rfl rfl CMF.out.2 _ (CMF.out.1 z y _) ?_
        rintro x wz ⟨rfl, hb⟩
        refine ⟨_, rfl, below_next hHeld hb, ?_⟩
        replace hHeld := below_next hHeld hb
        rw [HC.out]
        clear hb
        simp only [List.setIfInBounds_toArray, List.set_cons_zero, List.set_cons_succ]
        refine take_at (i := 10) 102 rfl rfl (by kernel_rfl) (by kernel_rfl) (by kernel_rfl) (fun _ _ _ h => h) (sure_yes (by rfl) (fun w => by go_simp; try with_reducible rfl)) hHeld ?_
        simp only [List.setIfInBounds_toArray, List.set_cons_zero, List.set_cons_succ]
        refine take_at (i := 11) 103 rfl rfl (by kernel_rfl) (by kernel_rfl) (by kernel_rfl) (fun _ _ _ h => h) (sure_yes (by rfl) (fun w => by go_simp; try with_reducible rfl)) hHeld ?_
        simp only [List.setIfInBounds_toArray, List.set_cons_zero, List.set_cons_succ]
        refine wpAnyH_done (by kernel_rfl) ?_ _
        have Z := Lib.hid hHeld
        clear hHeld
        have OWN2 := Lib.hid (own_below OWN.out Z.out)
        have BEL2 := Lib.hid (below_in BEL.out HB0.out Z.out)
        generalize wz = w3 at *
        go_wp2
        refine ⟨⟨h + 1, j, by go_num, rfl, by have := HN3.out; omega, by have := HN3.out; omega, HN3.out.2.1, fun _ => ⟨y, by rw [show h + 1 - 1 - a = h - a by omega]; exact HYH.out, HXY.out⟩, HHI.out, OWN2.out, BEL2.out⟩, ?_⟩
        have := HN3.out; simp [intOf] <;> omega
    · obtain rfl : i = j := by omega
      have q1 : ¬ (i : Int) < (i : Int) := by omega
      obtain ⟨e, he⟩ : ∃ e, e = i - a := ⟨_, rfl⟩
      have hLE := take_le (e := e) (z := z) HSX.out (fun h => by obtain ⟨y, hy, hy2⟩ := HLO.out (by omega); exact ⟨y, by rw [← hy]; congr 1; omega, hy2⟩)
      have hLT := drop_lt (e := e) (z := z) HSX.out (fun h => by obtain ⟨y, hy, hy2⟩ := HHI.out (by omega); exact ⟨y, by rw [he]; exact hy, hy2⟩)
      obtain ⟨X1, h1⟩ : ∃ X1, X1 = X.take e := ⟨_, rfl⟩
      obtain ⟨X2, h2⟩ : ∃ X2, X2 = X.drop e := ⟨_, rfl⟩
      have eX : X1 ++ X2 = X := by rw [h1, h2]; exact List.take_append_drop _ _
      have lX : X1.length = e ∧ X2.length = l - e := ⟨by rw [h1, List.length_take]; omega, by rw [h2, List.length_drop, hl]⟩
      have HEND := Lib.hid (show StableK Sh.path (X ++ [z]) (X1 ++ z :: X2) by rw [← eX]; exact stable_right (by rw [eX]; exact HSX.out) (by rw [h1]; exact hLE) (by rw [h2]; exact hLT))
      have HLX := Lib.hid lX
      have OWN0 := Lib.hid (show w2.ownsRow B 33 36 (.slice (some ⟨g, 0, none⟩) n cap) n (shsC (P ++ X1 ++ (X2 ++ z :: Q))) by rw [List.append_assoc, ← List.append_assoc X1, eX]; exact OWN.out)
      have HF := Lib.hid (show m = i + X2.length ∧ i = P.length + X1.length ∧ m < n by have := lX; omega)
      clear hLT hLE h1 h2 eX lX he hij hmi hjb hlt hnn ha hm hb hl
      go_wp2
      go_loopw [17] (fun c wr => ∃ r k : Nat, c = .int .i64 (k : Int) ∧ k = i + r ∧ r ≤ X2.length ∧ wr.ownsRow B 33 36 (.slice (some ⟨g, 0, none⟩) n cap) n (shsC (P ++ X1 ++ (X2.take r ++ z :: (X2.drop r ++ Q)))) ∧ Below B w wr) (fun c _ => (intOf c).toNat)
      case atStart => exact ⟨X2.length, m, rfl, HF.out.1, Nat.le_refl _, by have h := OWN0.out; rw [List.take_length, List.drop_length]; exact h, BEL.out⟩
      case round =>
        obtain ⟨r, k, rfl, hk, hte, ho, hbw⟩ := hrel
        have BEL2 := Lib.hid hbw
        clear hbw
        by_cases hlt : 0 < r
        · obtain ⟨d, hd⟩ : ∃ d, d = r - 1 := ⟨_, rfl⟩
          obtain rfl : r = d + 1 := by omega
          obtain ⟨y, hy⟩ : ∃ y, X2[d]? = some y := ⟨_, List.getElem?_eq_getElem (by omega)⟩
          obtain ⟨P1, hP1⟩ : ∃ P1, P1 = P ++ X1 ++ X2.take d := ⟨_, rfl⟩
          obtain ⟨U, hU⟩ : ∃ U, U = X2.drop (d + 1) ++ Q := ⟨_, rfl⟩
          obtain ⟨p, hp⟩ : ∃ p, p = i + d := ⟨_, rfl⟩
          have hpl : p = P1.length := by rw [hP1, List.length_append, List.length_append, List.length_take]; have := HF.out; omega
          have HO := Lib.hid (show wr.ownsRow B 33 36 (.slice (some ⟨g, 0, none⟩) n cap) n (shsC (P1 ++ y :: z :: U)) by
            have h := ho
            rw [List.take_add_one, hy] at h
            rw [hP1, hU]
            simpa using h)
          have HIY := Lib.hid (show (P1 ++ y :: z :: U)[p]? = some y from at_pre P1 y _ p hpl)
          have HIX := Lib.hid (show (P1 ++ y :: z :: U)[k]? = some z by
            have h := at_pre (P1 ++ [y]) z U k (by rw [List.length_append, List.length_singleton]; omega)
            rw [List.append_assoc] at h; exact h)
          have HLN := Lib.hid (own_len HO.out)
          have HNX := Lib.hid (show P1 ++ z :: y :: U = P ++ X1 ++ (X2.take d ++ z :: (X2.drop d ++ Q)) by rw [drop_at hy, hP1, hU]; simp)
          have HPQ := Lib.hid (show p = P1.length ∧ k = p + 1 ∧ p = i + d by omega)
          have q5 : (k : Int) > (i : Int) := by omega
          have q5b : i < k := by omega
          have q6 : (k : Int) - 1 = (p : Int) := by omega
          have q7 : IntKind.i64.wrap (p : Int) = (p : Int) := by rw [IntKind.wrap_i64]; have := HF.out; omega
          have q8 : (k : Int) < (n : Int) := by have := HF.out; omega
          have q9 : (p : Int) < (n : Int) := by have := HF.out; omega
          have q10 : k < n := by omega
          have q11 : p < n := by omega
          clear ho hP1 hU hp hpl hk hy
          generalize wr = w3 at *
          go_upto_region 23 with fail
          have OD := Lib.hid (own_below HO.out (drawS (Below.refl w3.heap.size w3)))
          have BD := Lib.hid (below_in BEL2.out HB0.out (drawS (Below.refl w3.heap.size w3)))
          refine wp_region_held_drew (S := fun _ => True) (by kernel_rfl) trivial (fun hHeld => ?_)
          generalize w3.drew = we at OD BD ⊢
          have CXD := Lib.hid (own_sh OD.out k z HIX.out)
          have CYD := Lib.hid (own_sh OD.out p y HIY.out)
          refine take_at (i := 0) 113 rfl rfl (by kernel_rfl) (by kernel_rfl) (by kernel_rfl) (fun _ _ _ h => h) (sure_yes (by rfl) (fun w => by go_simp; try with_reducible rfl)) hHeld ?_
          simp only [List.setIfInBounds_toArray, List.set_cons_zero, List.set_cons_succ]
          refine take_at (i := 1) 114 rfl rfl (by kernel_rfl) (by kernel_rfl) (by kernel_rfl) (fun _ _ _ h => h) (sure_yes (by rfl) (fun w => by go_simp; try with_reducible rfl)) hHeld ?_
          simp only [List.setIfInBounds_toArray, List.set_cons_zero, List.set_cons_succ]
          refine take_at (i := 2) 115 rfl rfl (by kernel_rfl) (by kernel_rfl) (by kernel_rfl) (fun _ _ _ h => h) (sure_yes (by rfl) (fun w => by go_simp; try with_reducible rfl)) hHeld ?_
          simp only [List.setIfInBounds_toArray, List.set_cons_zero, List.set_cons_succ]
          refine take_at (i := 3) 116 rfl rfl (by kernel_rfl) (by kernel_rfl) (by kernel_rfl) (fun _ _ _ h => h) (sure_yes (by rfl) (fun w => by go_simp; try with_reducible rfl)) hHeld ?_
          simp only [List.setIfInBounds_toArray, List.set_cons_zero, List.set_cons_succ]
          refine take_at (i := 4) 117 rfl rfl (by kernel_rfl) (by kernel_rfl) (by kernel_rfl) (fun _ _ _ h => h) (sure_yes (by rfl) (fun w => by go_simp; try with_reducible rfl)) hHeld ?_
          simp only [List.setIfInBounds_toArray, List.set_cons_zero, List.set_cons_succ]
          refine take_at (i := 5) 118 rfl rfl (by kernel_rfl) (by kernel_rfl) (by kernel_rfl) (fun _ _ _ h => h) (sure_yes (by rfl) (fun w => by go_simp; try with_reducible rfl)) hHeld ?_
          simp only [List.setIfInBounds_toArray, List.set_cons_zero, List.set_cons_succ]
          refine take_at (i := 6) 119 rfl rfl (by kernel_rfl) (by kernel_rfl) (by kernel_rfl) (fun _ _ _ h => h) (sure_yes (by rfl) (fun w => by go_simp; try with_reducible rfl)) hHeld ?_
          simp only [List.setIfInBounds_toArray, List.set_cons_zero, List.set_cons_succ]
          refine take_at (i := 7) 120 rfl rfl (by kernel_rfl) (by kernel_rfl) (by kernel_rfl) (fun _ _ _ h => h) (sure_yes (by rfl) (fun w => by go_simp; try with_reducible rfl)) hHeld ?_
          simp only [List.setIfInBounds_toArray, List.set_cons_zero, List.set_cons_succ]
          refine take_at (i := 8) 121 rfl rfl (by kernel_rfl) (by kernel_rfl) (by kernel_rfl) (fun _ _ _ h => h) (sure_yes (by rfl) (fun w => by go_simp; try with_reducible rfl)) hHeld ?_
          simp only [List.setIfInBounds_toArray, List.set_cons_zero, List.set_cons_succ]
          refine take_at (i := 10) 123 rfl rfl (by kernel_rfl) (by kernel_rfl) (by kernel_rfl) (fun _ _ _ h => h) (sure_yes (by rfl) (fun w => by go_simp; try with_reducible rfl)) hHeld ?_
          simp only [List.setIfInBounds_toArray, List.set_cons_zero, List.set_cons_succ]
          refine take_at (i := 11) 124 rfl rfl (by kernel_rfl) (by kernel_rfl) (by kernel_rfl) (fun _ _ _ h => h) (sure_yes (by rfl) (fun w => by go_simp; try with_reducible rfl)) hHeld ?_
          simp only [List.setIfInBounds_toArray, List.set_cons_zero, List.set_cons_succ]
          refine take_at (i := 12) 125 rfl rfl (by kernel_rfl) (by kernel_rfl) (by kernel_rfl) (fun _ _ _ h => h) (sure_yes (by rfl) (fun w => by go_simp; try with_reducible rfl)) hHeld ?_
          simp only [List.setIfInBounds_toArray, List.set_cons_zero, List.set_cons_succ]
          refine ready_two 9 13 (by kernel_rfl) ?_ ?_
          · refine opH_shA 122 rfl rfl (by rfl) 33 (.tmp 121) rfl ⟨g, p * 36, none⟩ rfl Tryz.underlying33 shSize CYD.out trivial ?_
            simp only [Act.put, List.setIfInBounds_toArray, List.set_cons_zero, List.set_cons_succ]
            refine ready_one 13 (by kernel_rfl) ?_
            refine opH_shA 126 rfl rfl (by rfl) 33 (.tmp 125) rfl ⟨g, k * 36, none⟩ rfl Tryz.underlying33 shSize CXD.out trivial ?_
            simp only [Act.put, List.setIfInBounds_toArray, List.set_cons_zero, List.set_cons_succ]
            refine take_at (i := 14) 127 rfl rfl (by kernel_rfl) (by kernel_rfl) (by kernel_rfl) (fun _ _ _ h => h) (sure_yes (by rfl) (fun w => by go_simp; try with_reducible rfl)) hHeld ?_
            simp only [List.setIfInBounds_toArray, List.set_cons_zero, List.set_cons_succ]
            refine ready_one 15 (by kernel_rfl) ?_
            refine opH_list rfl ?_
            refine store_sh rfl 33 (.tmp 127) (.tmp 122) rfl rfl B 33 g n cap k _ OD.out HLN.out (by omega) _ rfl rfl y rfl shSize ?_
            intro wf ho hs
            refine opH_end trivial ?_
            have O1 := Lib.hid ho
            have B1 := Lib.hid (solo_in BD.out hs HBG.out)
            clear ho hs
            refine take_at (i := 16) 128 rfl rfl (by kernel_rfl) (by kernel_rfl) (by kernel_rfl) (fun _ _ _ h => h) (sure_yes (by rfl) (fun w => by go_simp; try with_reducible rfl)) hHeld ?_
            simp only [List.setIfInBounds_toArray, List.set_cons_zero, List.set_cons_succ]
            refine ready_one 17 (by kernel_rfl) ?_
            refine opH_list rfl ?_
            refine store_sh rfl 33 (.tmp 128) (.tmp 126) rfl rfl B 33 g n cap p _ O1.out (by rw [List.length_set]; exact HLN.out) (by omega) _ rfl rfl z rfl shSize ?_
            intro wh ho hs
            refine opH_end trivial ?_
            have O2 := Lib.hid ho
            have B2 := Lib.hid (solo_in B1.out hs HBG.out)
            clear ho hs
            refine wpAnyH_done (by kernel_rfl) ?_ _
            clear hHeld
            go_wp2
            refine ⟨⟨d, p, rfl, HPQ.out.2.2, by omega, by
              have h := O2.out
              rw [HPQ.out.2.1, swap_sets P1 y z U p HPQ.out.1, HNX.out] at h; exact h, B2.out⟩, ?_⟩
            have := HPQ.out; simp [intOf] <;> omega
          · refine opH_shA 126 rfl rfl (by rfl) 33 (.tmp 125) rfl ⟨g, k * 36, none⟩ rfl Tryz.underlying33 shSize CXD.out trivial ?_
            simp only [Act.put, List.setIfInBounds_toArray, List.set_cons_zero, List.set_cons_succ]
            refine ready_one 9 (by kernel_rfl) ?_
            refine opH_shA 122 rfl rfl (by rfl) 33 (.tmp 121) rfl ⟨g, p * 36, none⟩ rfl Tryz.underlying33 shSize CYD.out trivial ?_
            simp only [Act.put, List.setIfInBounds_toArray, List.set_cons_zero, List.set_cons_succ]
            refine take_at (i := 14) 127 rfl rfl (by kernel_rfl) (by kernel_rfl) (by kernel_rfl) (fun _ _ _ h => h) (sure_yes (by rfl) (fun w => by go_simp; try with_reducible rfl)) hHeld ?_
            simp only [List.setIfInBounds_toArray, List.set_cons_zero, List.set_cons_succ]
            refine ready_one 15 (by kernel_rfl) ?_
            refine opH_list rfl ?_
            refine store_sh rfl 33 (.tmp 127) (.tmp 122) rfl rfl B 33 g n cap k _ OD.out HLN.out (by omega) _ rfl rfl y rfl shSize ?_
            intro wf ho hs
            refine opH_end trivial ?_
            have O1 := Lib.hid ho
            have B1 := Lib.hid (solo_in BD.out hs HBG.out)
            clear ho hs
            refine take_at (i := 16) 128 rfl rfl (by kernel_rfl) (by kernel_rfl) (by kernel_rfl) (fun _ _ _ h => h) (sure_yes (by rfl) (fun w => by go_simp; try with_reducible rfl)) hHeld ?_
            simp only [List.setIfInBounds_toArray, List.set_cons_zero, List.set_cons_succ]
            refine ready_one 17 (by kernel_rfl) ?_
            refine opH_list rfl ?_
            refine store_sh rfl 33 (.tmp 128) (.tmp 126) rfl rfl B 33 g n cap p _ O1.out (by rw [List.length_set]; exact HLN.out) (by omega) _ rfl rfl z rfl shSize ?_
            intro wh ho hs
            refine opH_end trivial ?_
            have O2 := Lib.hid ho
            have B2 := Lib.hid (solo_in B1.out hs HBG.out)
            clear ho hs
            refine wpAnyH_done (by kernel_rfl) ?_ _
            clear hHeld
            go_wp2
            refine ⟨⟨d, p, rfl, HPQ.out.2.2, by omega, by
              have h := O2.out
              rw [HPQ.out.2.1, swap_sets P1 y z U p HPQ.out.1, HNX.out] at h; exact h, B2.out⟩, ?_⟩
            have := HPQ.out; simp [intOf] <;> omega
        · obtain rfl : r = 0 := by omega
          obtain rfl : k = i := by omega
          have q5 : ¬ (k : Int) > (k : Int) := by omega
          have OWN9 := Lib.hid (show wr.ownsRow B 33 36 (.slice (some ⟨g, 0, none⟩) n cap) n (shsC (P ++ (X1 ++ z :: X2) ++ Q)) by
            have h := ho
            rw [List.take_zero, List.drop_zero] at h
            simpa using h)
          clear ho hk
          go_wp2
          refine bodyPost_ret (results_none rfl _ _ _) rfl ?_
          exact ⟨rfl, X1 ++ z :: X2, HEND.out, (by have h := OWN9.out; simpa using h), BEL2.out⟩
end Go.Proofs.YtppmbdpfledejaaGreatDoor
namespace Go.Proofs.YtppmbdpfledejaaGreatDoor
open Go.RowKit
theorem cross_lt {X Y : List Sh} {d e : Nat} (sX : SortedK Sh.path X) (sY : SortedK Sh.path Y) (he : e ≤ Y.length) (h : d < X.length → 0 < e → ∃ x y, X[d]? = some x ∧ Y[e - 1]? = some y ∧ ltK Sh.path y x = true) : ∀ x ∈ X.drop d, ∀ y ∈ Y.take e, ltK Sh.path y x = true := by
  intro x hx y hy
  have hd : d < X.length := by have := List.length_pos_of_mem hx; rw [List.length_drop] at this; omega
  have h0 : 0 < e := by have := List.length_pos_of_mem hy; rw [List.length_take] at this; omega
  obtain ⟨x0, y0, h1, h2, h3⟩ := h hd h0
  exact ltK_leK (take_lt sY (fun _ => ⟨y0, h2, h3⟩) y hy) (drop_le sX (fun _ => ⟨x0, h1, leK_refl _⟩) x hx)
theorem cross_le {X Y : List Sh} {d e : Nat} (sX : SortedK Sh.path X) (sY : SortedK Sh.path Y) (hd : d ≤ X.length) (h : 0 < d → e < Y.length → ∃ x y, X[d - 1]? = some x ∧ Y[e]? = some y ∧ leK Sh.path x y) : ∀ x ∈ X.take d, ∀ y ∈ Y.drop e, leK Sh.path x y := by
  intro x hx y hy
  have h0 : 0 < d := by have := List.length_pos_of_mem hx; rw [List.length_take] at this; omega
  have he : e < Y.length := by have := List.length_pos_of_mem hy; rw [List.length_drop] at this; omega
  obtain ⟨x0, y0, h1, h2, h3⟩ := h h0 he
  exact leK_trans (take_le sX (fun _ => ⟨x0, h1, leK_refl _⟩) x hx) (drop_le sY (fun _ => ⟨y0, h2, h3⟩) y hy)
theorem mid_nums (a m b : Nat) (h1 : a < m) (h2 : m < b) (hb : b ≤ 50000) : ∃ s md nn p : Nat, ((a : Int) + (b : Int) = (s : Int) ∧ IntKind.i64.wrap (s : Int) = (s : Int) ∧ IntKind.u64.wrap (s : Int) = (s : Int) ∧ (s : Int) / 2 = (md : Int) ∧ IntKind.u64.wrap (md : Int) = (md : Int) ∧ IntKind.i64.wrap (md : Int) = (md : Int)) ∧ ((md : Int) + (m : Int) = (nn : Int) ∧ IntKind.i64.wrap (nn : Int) = (nn : Int) ∧ (nn : Int) - 1 = (p : Int) ∧ IntKind.i64.wrap (p : Int) = (p : Int)) ∧ (md + md ≤ a + b ∧ a + b ≤ md + md + 1 ∧ nn = md + m ∧ nn = p + 1) :=
  ⟨a + b, (a + b) / 2, (a + b) / 2 + m, (a + b) / 2 + m - 1, ⟨by omega, by rw [IntKind.wrap_i64]; omega, by rw [show IntKind.u64.wrap ((a + b : Nat) : Int) = ((a + b : Nat) : Int) % 18446744073709551616 from rfl]; omega, by omega, by rw [show IntKind.u64.wrap (((a + b) / 2 : Nat) : Int) = (((a + b) / 2 : Nat) : Int) % 18446744073709551616 from rfl]; omega, by rw [IntKind.wrap_i64]; omega⟩, ⟨by omega, by rw [IntKind.wrap_i64]; omega, by omega, by rw [IntKind.wrap_i64]; omega⟩, by omega, by omega, rfl, by omega⟩
end Go.Proofs.YtppmbdpfledejaaGreatDoor
