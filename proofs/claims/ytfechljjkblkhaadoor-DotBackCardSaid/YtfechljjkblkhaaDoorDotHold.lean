/-
Two dots held against each other, walked over the landed code: halves of 32 bits as the parts of complex numbers, each part held against the other's as a float.
-/
import Derived.Test.YtfechljjkblkhaaDoorRef09Parse
import Derived.Test.YtfechljjkblkhaaDoorDotFace
import Derived.Test.YtfechljjkblkhaaDoorFloat
import Derived.WalkLawsBesides
namespace Go.Proofs.YtfechljjkblkhaaDoor
open Go.RowKit
/-- A whole number below 2^53. -/
def Sm (a : Int) : Prop := a.natAbs < 9007199254740992
def cmpI (a b : Int) : Int := if a < b then -1 else if b < a then 1 else 0
theorem compare_lt {x y : Int} (h : x < y) : compare x y = .lt := by simp [compare, compareOfLessAndEq, h]
theorem compare_eq (x : Int) : compare x x = .eq := by simp [compare, compareOfLessAndEq]
theorem compare_gt {x y : Int} (h : y < x) : compare x y = .gt := by
  have h1 : ¬ x < y := by omega
  have h2 : ¬ x = y := by omega
  simp [compare, compareOfLessAndEq, h1, h2]
theorem fl_order (a b : Int) (ha : Sm a) (hb : Sm b) : FloatKind.f64.format.order (floatOfInt .f64 a) (floatOfInt .f64 b) = some (compare a b) := by
  unfold Sm at ha hb
  have h := order_nums a b (by omega) (by omega)
  rw [show floatOfInt .f64 a = FloatKind.f64.nearest a from rfl, show floatOfInt .f64 b = FloatKind.f64.nearest b from rfl, h]
  rcases Int.lt_trichotomy a b with c | c | c
  · rw [compare_lt c, compare_lt ((floatV_lt ha hb).2 c)]
  · subst c; rw [compare_eq, compare_eq]
  · rw [compare_gt c, compare_gt ((floatV_lt hb ha).2 c)]
theorem isNaN_num (a : Int) (ha : Sm a) (w : World) : Calls Tryd.prog 29 #[.float .f64 (floatOfInt .f64 a)] w fun e w' => e = .returned (.bool false) ∧ w = w' := by
  have h1 := fl_order a a ha ha
  rw [compare_eq] at h1
  clear ha
  generalize floatOfInt .f64 a = x at *
  go_enter Tryd.func29, Tryd.ntmps29
  go_wp2
  go_ret
  exact ⟨rfl, rfl⟩
theorem cmpFloat_num (a b : Int) (ha : Sm a) (hb : Sm b) (w : World) : Calls Tryd.prog 23 #[.float .f64 (floatOfInt .f64 a), .float .f64 (floatOfInt .f64 b)] w fun e w' => e = .returned (.int .i64 (cmpI a b)) ∧ w = w' := by
  have N1 := Lib.hid (isNaN_num a ha)
  have N2 := Lib.hid (isNaN_num b hb)
  have h1 := fl_order a b ha hb
  clear ha hb
  generalize floatOfInt .f64 a = x at *
  generalize floatOfInt .f64 b = y at *
  rcases Int.lt_trichotomy a b with c | c | c
  · rw [compare_lt c] at h1
    have HR := Lib.hid (show cmpI a b = -1 by rw [cmpI, if_pos c])
    clear c
    go_enter Tryd.func23, Tryd.ntmps23
    go_upto_region 2 with (first | (go_at_call 29; refine (N1.out _).mono ?_; rintro e w1 ⟨rfl, rfl⟩))
    go_wp2_with (first | (go_at_call 29; refine (N2.out _).mono ?_; rintro e w1 ⟨rfl, rfl⟩))
    go_ret
    exact ⟨by rw [HR.out]; try rfl, rfl⟩
  · subst c
    rw [compare_eq] at h1
    have HR := Lib.hid (show cmpI a a = 0 by rw [cmpI, if_neg (by omega), if_neg (by omega)])
    go_enter Tryd.func23, Tryd.ntmps23
    go_upto_region 2 with (first | (go_at_call 29; refine (N1.out _).mono ?_; rintro e w1 ⟨rfl, rfl⟩))
    go_wp2_with (first | (go_at_call 29; refine (N2.out _).mono ?_; rintro e w1 ⟨rfl, rfl⟩))
    go_ret
    exact ⟨by rw [HR.out]; try rfl, rfl⟩
  · rw [compare_gt c] at h1
    have HR := Lib.hid (show cmpI a b = 1 by rw [cmpI, if_neg (by omega), if_pos c])
    clear c
    go_enter Tryd.func23, Tryd.ntmps23
    go_upto_region 2 with (first | (go_at_call 29; refine (N1.out _).mono ?_; rintro e w1 ⟨rfl, rfl⟩))
    go_wp2_with (first | (go_at_call 29; refine (N2.out _).mono ?_; rintro e w1 ⟨rfl, rfl⟩))
    go_ret
    exact ⟨by rw [HR.out]; try rfl, rfl⟩
/-- The first number that isn't 0. -/
def orI (x0 x1 x2 x3 : Int) : Int := if x0 ≠ 0 then x0 else if x1 ≠ 0 then x1 else if x2 ≠ 0 then x2 else x3
def four (x0 x1 x2 x3 : Int) : Array Value := #[.int .i64 x0, .int .i64 x1, .int .i64 x2, .int .i64 x3]
/-- The k-th of four. -/
def nth4 (x0 x1 x2 x3 : Int) (k : Nat) : Int := if k = 0 then x0 else if k = 1 then x1 else if k = 2 then x2 else x3
theorem nth4_cell (x0 x1 x2 x3 : Int) {w : World} {g k : Nat} {T : TypeId} (h : w.heap[g]? = some (.cells (four x0 x1 x2 x3) T (0, 0))) (hk : k < 4) : w.cell? ⟨g, k, none⟩ = some (.int .i64 (nth4 x0 x1 x2 x3 k)) := by
  rw [cell_of_row _ _ k _ _ _ h]
  match k, hk with
  | 0, _ => rfl
  | 1, _ => rfl
  | 2, _ => rfl
  | 3, _ => rfl
set_option maxHeartbeats 4000000 in
theorem or_any (x0 x1 x2 x3 : Int) (g : Nat) (T : TypeId) (w : World) (h : w.heap[g]? = some (.cells (four x0 x1 x2 x3) T (0, 0))) : Calls Tryd.prog 22 #[.slice (some ⟨g, 0, none⟩) 4 4] w fun e w' => e = .returned (.int .i64 (orI x0 x1 x2 x3)) ∧ w = w' := by
  have HC := Lib.hid (fun k hk => nth4_cell x0 x1 x2 x3 (k := k) h hk)
  clear h
  go_enter Tryd.func22, Tryd.ntmps22
  go_wp2
  go_loopw [8] (fun i wr => w = wr ∧ ∃ k : Nat, k ≤ 4 ∧ i = .int .i64 k ∧ ∀ j, j < k → nth4 x0 x1 x2 x3 j = 0) (fun i _ => 4 - (intOf i).toNat)
  case atStart => exact ⟨rfl, 0, by omega, rfl, fun j hj => by omega⟩
  case round =>
    obtain ⟨rfl, k, hk, rfl, hall⟩ := hrel
    have HA := Lib.hid hall
    clear hall
    by_cases hlt : k < 4
    · have q1 : (k : Int) < 4 := by omega
      have hc := HC.out k hlt
      obtain ⟨x, hx⟩ : ∃ x, nth4 x0 x1 x2 x3 k = x := ⟨_, rfl⟩
      rw [hx] at hc
      have HX := Lib.hid hx
      clear hx
      by_cases h0 : x = 0
      · subst h0
        have hk1 : wrap64 ((k : Int) + 1) = ((k + 1 : Nat) : Int) := by rw [wrap64]; omega
        go_wp2
        go_roundw
        case rel => exact ⟨trivial, k + 1, by omega, by go_num, fun j h2 => by
          rcases Nat.lt_or_ge j k with h | h
          · exact HA.out j h
          · obtain rfl : j = k := by omega
            exact HX.out⟩
        case measure => simp [intOf]; omega
      · have t0 : (x != 0) = true := bne_iff_ne.2 h0
        have HR := Lib.hid (show orI x0 x1 x2 x3 = x by
          have a := HA.out
          have b := HX.out
          unfold nth4 at a b
          unfold orI
          match k, hlt with
          | 0, _ => simp at b; subst b; simp [h0]
          | 1, _ => have a0 := a 0 (by omega); simp at a0 b; subst b; simp [h0, a0]
          | 2, _ => have a0 := a 0 (by omega); have a1 := a 1 (by omega); simp at a0 a1 b; subst b; simp [h0, a0, a1]
          | 3, _ => have a0 := a 0 (by omega); have a1 := a 1 (by omega); have a2 := a 2 (by omega); simp at a0 a1 a2 b; subst b; simp [a0, a1, a2])
        clear h0
        go_wp2
        go_ret
        exact ⟨by rw [HR.out]; try rfl, rfl⟩
    · obtain rfl : k = 4 := by omega
      have HR := Lib.hid (show orI x0 x1 x2 x3 = 0 by
        have a := HA.out
        have a0 := a 0 (by omega)
        have a1 := a 1 (by omega)
        have a2 := a 2 (by omega)
        have a3 := a 3 (by omega)
        unfold nth4 at a0 a1 a2 a3
        simp at a0 a1 a2 a3
        unfold orI
        simp [a0, a1, a2, a3])
      clear hlt
      go_wp2
      go_ret
      exact ⟨by rw [HR.out]; try rfl, rfl⟩
def hiI (a : Int) : Int := a / 4294967296
def loI (a : Int) : Int := a % 4294967296
theorem hiI_sm {a : Int} (h : I64 a) : Sm (hiI a) := by unfold I64 at h; unfold Sm hiI; omega
theorem loI_sm (a : Int) : Sm (loI a) := by unfold Sm loI; omega
set_option maxHeartbeats 4000000 in
theorem halves_any (r q : Int) (w : World) : Calls Tryd.prog 21 #[.agg #[.int .i64 r, .int .i64 q]] w fun e w' => e = .returned (.tuple #[.complex .f64 (floatOfInt .f64 (hiI r)) (floatOfInt .f64 (hiI q)), .complex .f64 (floatOfInt .f64 (loI r)) (floatOfInt .f64 (loI q))]) ∧ Below w.heap.size w w' := by
  have h1 := one_box w r q
  obtain ⟨c1, c2⟩ := dot_cells h1
  have B0 := Lib.hid ((Below.refl w.heap.size w).alloc (Nat.le_refl _) (dotO r q))
  clear h1
  unfold dotO at *
  go_enter Tryd.func21, Tryd.ntmps21
  go_upto_region 1 with fail
  generalize w.alloc (.cells #[.int .i64 r, .int .i64 q] 23 (0, 0)) = W0 at *
  go_quiet (fail)
  have B1 := Lib.hid (below_draws B0.out nq)
  generalize W0.drewN nq = W1 at *
  clear c1 c2 B0
  go_wp2
  go_ret2
  exact ⟨rfl, B1.out⟩
/-- Halves held against halves are numbers held against each other. -/
theorem hold_or (r q r' q' : Int) : orI (cmpI (hiI r) (hiI r')) (cmpI (loI r) (loI r')) (cmpI (hiI q) (hiI q')) (cmpI (loI q) (loI q')) = cmpD r q r' q' := by
  have key : ∀ a b : Int, (hiI a < hiI b ∧ a < b) ∨ (hiI b < hiI a ∧ b < a) ∨ (hiI a = hiI b ∧ ((loI a < loI b ∧ a < b) ∨ (loI b < loI a ∧ b < a) ∨ (loI a = loI b ∧ a = b))) := by
    intro a b; unfold hiI loI; omega
  have k1 := key r r'
  have k2 := key q q'
  unfold orI cmpI cmpD
  generalize hiI r = a1 at *
  generalize hiI r' = a2 at *
  generalize hiI q = a3 at *
  generalize hiI q' = a4 at *
  generalize loI r = b1 at *
  generalize loI r' = b2 at *
  generalize loI q = b3 at *
  generalize loI q' = b4 at *
  rcases k1 with ⟨h1, h2⟩ | ⟨h1, h2⟩ | ⟨h1, ⟨h3, h2⟩ | ⟨h3, h2⟩ | ⟨h3, h2⟩⟩
  · rw [if_pos h1, if_pos (by decide), if_neg (by omega), if_pos (by omega)]
  · rw [if_neg (show ¬ a1 < a2 by omega), if_pos h1, if_pos (by decide), if_neg (by omega), if_neg (by omega)]
  · subst h1
    rw [if_neg (show ¬ a1 < a1 by omega), if_neg (show ¬ a1 < a1 by omega), if_pos h3, if_neg (by decide), if_pos (by decide), if_neg (by omega), if_pos (by omega)]
  · subst h1
    rw [if_neg (show ¬ a1 < a1 by omega), if_neg (show ¬ a1 < a1 by omega), if_neg (show ¬ b1 < b2 by omega), if_pos h3, if_neg (by decide), if_pos (by decide), if_neg (by omega), if_neg (by omega)]
  · subst h1; subst h3; subst h2
    rw [if_neg (show ¬ a1 < a1 by omega), if_neg (show ¬ a1 < a1 by omega), if_neg (show ¬ b1 < b1 by omega), if_neg (show ¬ b1 < b1 by omega), if_neg (by decide), if_neg (by decide)]
    rcases k2 with ⟨h1, h2⟩ | ⟨h1, h2⟩ | ⟨h1, ⟨h3, h2⟩ | ⟨h3, h2⟩ | ⟨h3, h2⟩⟩
    · rw [if_pos h1, if_pos (by decide), if_neg (by omega), if_pos (by omega)]
    · rw [if_neg (show ¬ a3 < a4 by omega), if_pos h1, if_pos (by decide), if_neg (by omega), if_neg (by omega)]
    · subst h1
      rw [if_neg (show ¬ a3 < a3 by omega), if_neg (show ¬ a3 < a3 by omega), if_pos h3, if_neg (by decide), if_neg (by omega), if_pos (by omega)]
    · subst h1
      rw [if_neg (show ¬ a3 < a3 by omega), if_neg (show ¬ a3 < a3 by omega), if_neg (show ¬ b3 < b4 by omega), if_pos h3, if_neg (by decide), if_neg (by omega), if_neg (by omega)]
    · subst h1; subst h3; subst h2
      rw [if_neg (show ¬ a3 < a3 by omega), if_neg (show ¬ a3 < a3 by omega), if_neg (show ¬ b3 < b3 by omega), if_neg (show ¬ b3 < b3 by omega), if_neg (by decide), if_pos ⟨rfl, rfl⟩]
set_option maxHeartbeats 8000000 in
theorem compare_any (r q r' q' : Int) (hr : I64 r) (hq : I64 q) (hr' : I64 r') (hq' : I64 q') (w : World) : Calls Tryd.prog 12 #[.agg #[.int .i64 r, .int .i64 q], .agg #[.int .i64 r', .int .i64 q']] w fun e w' => e = .returned (.int .i64 (cmpD r q r' q')) ∧ Below w.heap.size w w' := by
  obtain ⟨h1, h2⟩ := two_boxes w r q r' q'
  have H1 := Lib.hid h1
  have H2 := Lib.hid h2
  have B0 := Lib.hid (((Below.refl w.heap.size w).alloc (Nat.le_refl _) (dotO r q)).alloc (by simp) (dotO r' q'))
  have HO := Lib.hid (hold_or r q r' q')
  have HV1 := Lib.hid (halves_any r q)
  have HV2 := Lib.hid (halves_any r' q')
  have F1 := Lib.hid (cmpFloat_num (hiI r) (hiI r') (hiI_sm hr) (hiI_sm hr'))
  have F2 := Lib.hid (cmpFloat_num (loI r) (loI r') (loI_sm r) (loI_sm r'))
  have F3 := Lib.hid (cmpFloat_num (hiI q) (hiI q') (hiI_sm hq) (hiI_sm hq'))
  have F4 := Lib.hid (cmpFloat_num (loI q) (loI q') (loI_sm q) (loI_sm q'))
  clear h1 h2 hr hq hr' hq'
  generalize cmpI (hiI r) (hiI r') = x0 at *
  generalize cmpI (loI r) (loI r') = x1 at *
  generalize cmpI (hiI q) (hiI q') = x2 at *
  generalize cmpI (loI q) (loI q') = x3 at *
  generalize floatOfInt .f64 (hiI r) = a1 at *
  generalize floatOfInt .f64 (hiI r') = a2 at *
  generalize floatOfInt .f64 (loI r) = a3 at *
  generalize floatOfInt .f64 (loI r') = a4 at *
  generalize floatOfInt .f64 (hiI q) = a5 at *
  generalize floatOfInt .f64 (hiI q') = a6 at *
  generalize floatOfInt .f64 (loI q) = a7 at *
  generalize floatOfInt .f64 (loI q') = a8 at *
  unfold dotO at *
  go_enter Tryd.func12, Tryd.ntmps12
  go_upto_region 1 with fail
  generalize (w.alloc (.cells #[.int .i64 r, .int .i64 q] 23 (0, 0))).alloc (.cells #[.int .i64 r', .int .i64 q'] 23 (0, 0)) = W0 at *
  go_upto_region 2 with (first
    | (refine load_row_on (by rfl) 23 (.tmp 2) rfl w.heap.size rfl 23 _ (0, 0) _ H1.out Tryd.underlying23 rfl (by kernel_rfl) ?_)
    | (go_at_call 21; refine (HV1.out _).mono ?_; rintro e W1 ⟨rfl, hb⟩; have G2 := Lib.hid (row_kept H2.out hb); have B1 := Lib.hid (below_next B0.out hb); clear hb))
  go_upto_region 3 with (first
    | (refine load_row_on (by rfl) 23 (.tmp 3) rfl (w.heap.size + 1) rfl 23 _ (0, 0) _ G2.out Tryd.underlying23 rfl (by kernel_rfl) ?_)
    | (go_at_call 21; refine (HV2.out _).mono ?_; rintro e W2 ⟨rfl, hb⟩; have B2 := Lib.hid (below_next B1.out hb); clear hb))
  have HA := Lib.hid (fun T => heap_last W2 (.cells (four x0 x1 x2 x3) T (0, 0)))
  have BA := Lib.hid (fun T => B2.out.alloc B2.out.size (.cells (four x0 x1 x2 x3) T (0, 0)))
  go_wp2_with (first
    | (go_at_call 23; with_reducible refine (F1.out _).mono ?_; rintro e w1 ⟨rfl, rfl⟩)
    | (go_at_call 23; with_reducible refine (F2.out _).mono ?_; rintro e w1 ⟨rfl, rfl⟩)
    | (go_at_call 23; with_reducible refine (F3.out _).mono ?_; rintro e w1 ⟨rfl, rfl⟩)
    | (go_at_call 23; with_reducible refine (F4.out _).mono ?_; rintro e w1 ⟨rfl, rfl⟩)
    | (go_at_call 22; refine (or_any x0 x1 x2 x3 W2.heap.size _ _ (HA.out _)).mono ?_; rintro e w1 ⟨rfl, rfl⟩))
  go_ret
  exact ⟨by rw [HO.out]; try rfl, BA.out _⟩
end Go.Proofs.YtfechljjkblkhaaDoor
