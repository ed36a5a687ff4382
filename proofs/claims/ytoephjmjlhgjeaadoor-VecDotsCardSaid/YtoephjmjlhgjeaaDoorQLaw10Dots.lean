/-
The walk of the statement on dots that are known.
-/
import Derived.Test.YtoephjmjlhgjeaaDoorPk5
namespace Go.Proofs.YtoephjmjlhgjeaaDoor
open Go.RowKit
theorem two_dots {w : World} {g : Nat} {a b c d : Int} {t : TypeId} (h : w.heap[g]? = some (.cells #[.int .i64 a, .int .i64 b, .int .i64 c, .int .i64 d] t (0, 0))) : w.rangeAt g 0 [.int .i64 a, .int .i64 b] ∧ w.rangeAt g 2 [.int .i64 c, .int .i64 d] := by
  refine ⟨fun j v hj => ?_, fun j v hj => ?_⟩
  · match j, hj with
    | 0, hj => rw [cell_of_row _ _ (0 + 0) _ _ _ h]; exact hj
    | 1, hj => rw [cell_of_row _ _ (0 + 1) _ _ _ h]; exact hj
  · match j, hj with
    | 0, hj => rw [cell_of_row _ _ (2 + 0) _ _ _ h]; exact hj
    | 1, hj => rw [cell_of_row _ _ (2 + 1) _ _ _ h]; exact hj
/-- What the statement wants of the second dot. -/
def wantK (h m : Bool) (r q r' q' : Int) : Bool := h || (m && (decide (r' = r) && (decide (1 ≤ q') && decide (q' ≤ q))))
theorem mayD_step (r q : Int) : mayD r q = (decide (r ≥ 0) && (decide (r < 32) && (decide (q ≥ 1) && decide (q ≤ 1099511627776)))) := by
  unfold mayD
  rw [Bool.eq_iff_iff]
  simp
  omega
set_option maxRecDepth 100000 in
set_option maxHeartbeats 32000000 in
theorem vecDots_walk (a b : List D2) (r q r' q' : Int) (v u : Value) (w : World) (hv : HasDots w v a) (hu : HasDots w u b) (hT : PowTab w) :
    Calls Tryd.prog 6 #[v, u, .agg #[.int .i64 r, .int .i64 q, .int .i64 r', .int .i64 q']] w fun e w' => e = .returned (.bool true) ∧ Below w.heap.size w w' := by
  have HT := Lib.hid hT
  have AW := Lib.hid (fun w hT => awake10_any w hT)
  have E0 := Lib.hid (heap_last w (.cells #[.int .i64 r, .int .i64 q, .int .i64 r', .int .i64 q'] 42 (0, 0)))
  have B0 := Lib.hid ((Below.refl w.heap.size w).alloc (Nat.le_refl _) (.cells #[.int .i64 r, .int .i64 q, .int .i64 r', .int .i64 q'] 42 (0, 0)))
  clear hT
  have Hv := Lib.hid hv
  obtain ⟨vo, vc, rfl⟩ := dots_shape hv a.length rfl
  obtain ⟨n, hn⟩ : ∃ n, n = a.length := ⟨_, rfl⟩
  have HLa := Lib.hid hn
  rw [← hn] at Hv ⊢
  have Hu := Lib.hid hu
  obtain ⟨uo, uc, rfl⟩ := dots_shape hu b.length rfl
  obtain ⟨m, hm⟩ : ∃ m, m = b.length := ⟨_, rfl⟩
  have HLb := Lib.hid hm
  rw [← hm] at Hu ⊢
  clear hv hn hu hm
  by_cases h1 : n > 300
  · have q1 : (n : Int) > 300 := by omega
    clear h1
    go_enter Tryd.func6, Tryd.ntmps6
    go_upto_region 1 with fail
    generalize w.alloc (.cells #[.int .i64 r, .int .i64 q, .int .i64 r', .int .i64 q'] 42 (0, 0)) = W0 at *
    go_wp2_with (first
      | (go_at_call 9; with_reducible refine (AW.out W0 (powTab_below HT.out B0.out)).mono ?_; rintro e w1 ⟨rfl, hb⟩; have B1 := Lib.hid (below_next B0.out hb); have E1 := Lib.hid (row_kept E0.out hb); have X0 := Lib.hid (two_dots E1.out).1; have X2 := Lib.hid (two_dots (row_kept E1.out ((Below.refl w1.heap.size w1).alloc (Nat.le_refl _) (.cells #[.int .i64 r, .int .i64 q] 25 (0, 0))))).2; clear hb)
      | (refine wpList_load_mid rfl 25 (.tmp 15) rfl w.heap.size 0 rfl [.int .i64 r, .int .i64 q] _ X0.out Tryd.underlying25 rfl (by kernel_rfl) ?_)
      | (refine wpList_load_mid rfl 25 (.tmp 17) rfl w.heap.size 2 rfl [.int .i64 r', .int .i64 q'] _ X2.out Tryd.underlying25 rfl (by kernel_rfl) ?_))
    go_ret
    exact ⟨rfl, (B1.out.alloc B1.out.size _).alloc (by have := B1.out.size; simp <;> omega) _⟩
  by_cases h2 : m > 300
  · have q1 : ¬ (n : Int) > 300 := by omega
    have q2 : (m : Int) > 300 := by omega
    clear h1 h2
    go_enter Tryd.func6, Tryd.ntmps6
    go_upto_region 1 with fail
    generalize w.alloc (.cells #[.int .i64 r, .int .i64 q, .int .i64 r', .int .i64 q'] 42 (0, 0)) = W0 at *
    go_wp2_with (first
      | (go_at_call 9; with_reducible refine (AW.out W0 (powTab_below HT.out B0.out)).mono ?_; rintro e w1 ⟨rfl, hb⟩; have B1 := Lib.hid (below_next B0.out hb); have E1 := Lib.hid (row_kept E0.out hb); have X0 := Lib.hid (two_dots E1.out).1; have X2 := Lib.hid (two_dots (row_kept E1.out ((Below.refl w1.heap.size w1).alloc (Nat.le_refl _) (.cells #[.int .i64 r, .int .i64 q] 25 (0, 0))))).2; clear hb)
      | (refine wpList_load_mid rfl 25 (.tmp 15) rfl w.heap.size 0 rfl [.int .i64 r, .int .i64 q] _ X0.out Tryd.underlying25 rfl (by kernel_rfl) ?_)
      | (refine wpList_load_mid rfl 25 (.tmp 17) rfl w.heap.size 2 rfl [.int .i64 r', .int .i64 q'] _ X2.out Tryd.underlying25 rfl (by kernel_rfl) ?_))
    go_ret
    exact ⟨rfl, (B1.out.alloc B1.out.size _).alloc (by have := B1.out.size; simp <;> omega) _⟩
  have q1 : ¬ (n : Int) > 300 := by omega
  have q2 : ¬ (m : Int) > 300 := by omega
  have la : a.length < 2000000 := by have := HLa.out; omega
  have lb : b.length < 2000000 := by have := HLb.out; omega
  have lw : (withV a r q).length < 2000000 := by have := rising_length (mayV_with a r q); omega
  have W1 := Lib.hid (fun w hv => vecWith_any a la r q (.slice vo n vc) w hv)
  have HWG := Lib.hid (fun w v hv => vecHas_any (withV a r q) lw r' q' v w hv)
  have HW := Lib.hid (fun w v hv => vecHas_any (withV a r q) lw r q v w hv)
  rw [has_with_self] at HW
  rw [has_with] at HWG
  have HAG := Lib.hid (fun w hv => vecHas_any a la r' q' (.slice vo n vc) w hv)
  have HA := Lib.hid (fun w hv => vecHas_any a la r q (.slice vo n vc) w hv)
  have HB := Lib.hid (fun w hu => vecHas_any b lb r q (.slice uo m uc) w hu)
  have J1 := Lib.hid (fun w hv hu => vecJoin_any a b la lb (.slice vo n vc) (.slice uo m uc) w hv hu)
  have M1 := Lib.hid (fun w hv hu => vecMeet_any a b la lb (.slice vo n vc) (.slice uo m uc) w hv hu)
  have HJ := Lib.hid (fun w v hv => vecHas_any (joinV a b) (by have := rising_length (mayV_join a b); omega) r q v w hv)
  have HM := Lib.hid (fun w v hv => vecHas_any (meetV a b) (by have := rising_length (mayV_meet a b); omega) r q v w hv)
  rw [has_join] at HJ
  rw [has_meet] at HM
  have HMS := Lib.hid (mayD_step r q)
  replace HWG := Lib.hid (show ∀ w v, HasDots w v (withV a r q) → Calls Tryd.prog 16 #[v, .agg #[.int .i64 r', .int .i64 q']] w fun e w' => e = .returned (.bool (wantK (hasV a r' q') (mayD r q) r q r' q')) ∧ Below w.heap.size w w' from HWG.out)
  generalize withV a r q = l1 at *
  generalize joinV a b = l2 at *
  generalize meetV a b = l3 at *
  generalize hasV a r' q' = hg at *
  generalize hasV a r q = ha at *
  generalize hasV b r q = hb at *
  generalize mayD r q = M at *
  obtain ⟨K, hK⟩ : ∃ K, K = wantK hg M r q r' q' := ⟨_, rfl⟩
  rw [← hK] at HWG
  have HK := Lib.hid hK
  clear h1 h2 la lb lw hK
  go_enter Tryd.func6, Tryd.ntmps6
  go_upto_region 1 with fail
  generalize w.alloc (.cells #[.int .i64 r, .int .i64 q, .int .i64 r', .int .i64 q'] 42 (0, 0)) = W0 at *
  go_upto_region 6 with (first
    | (go_at_call 9; with_reducible refine (AW.out W0 (powTab_below HT.out B0.out)).mono ?_; rintro e w1 ⟨rfl, hb⟩; have B1 := Lib.hid (below_next B0.out hb); have E1 := Lib.hid (row_kept E0.out hb); have X0 := Lib.hid (two_dots E1.out).1; have X2 := Lib.hid (two_dots (row_kept E1.out ((Below.refl w1.heap.size w1).alloc (Nat.le_refl _) (.cells #[.int .i64 r, .int .i64 q] 25 (0, 0))))).2; clear hb)
    | (refine wpList_load_mid rfl 25 (.tmp 15) rfl w.heap.size 0 rfl [.int .i64 r, .int .i64 q] _ X0.out Tryd.underlying25 rfl (by kernel_rfl) ?_)
    | (refine wpList_load_mid rfl 25 (.tmp 17) rfl w.heap.size 2 rfl [.int .i64 r', .int .i64 q'] _ X2.out Tryd.underlying25 rfl (by kernel_rfl) ?_))
  have B3 := Lib.hid ((B1.out.alloc B1.out.size (.cells #[.int .i64 r, .int .i64 q] 25 (0, 0))).alloc (by have := B1.out.size; simp <;> omega) (.cells #[.int .i64 r', .int .i64 q'] 25 (0, 0)))
  have D3 := Lib.hid (alloc2_0 w1 (.cells #[.int .i64 r, .int .i64 q] 25 (0, 0)) (.cells #[.int .i64 r', .int .i64 q'] 25 (0, 0)))
  have G3 := Lib.hid (alloc2_1 w1 (.cells #[.int .i64 r, .int .i64 q] 25 (0, 0)) (.cells #[.int .i64 r', .int .i64 q'] 25 (0, 0)))
  generalize (w1.alloc (.cells #[.int .i64 r, .int .i64 q] 25 (0, 0))).alloc (.cells #[.int .i64 r', .int .i64 q'] 25 (0, 0)) = W3 at *
  clear E1 X0 X2 E0
  go_upto_region 7 with (first
    | (refine load_row_on (by rfl) 25 (.tmp 8) rfl w1.heap.size rfl 25 _ (0, 0) _ D3.out Tryd.underlying25 rfl (by kernel_rfl) ?_)
    | (go_at_call 19; with_reducible refine (W1.out W3 (dots_below Hv.out B3.out)).mono ?_; rintro e w4 ⟨x4, rfl, hx, hb⟩; have XW4 := Lib.hid hx; have B4 := Lib.hid (below_next B3.out hb); have D4 := Lib.hid (row_kept D3.out hb); have G4 := Lib.hid (row_kept G3.out hb); clear hx hb))
  obtain ⟨c0, c1⟩ := dot_cells (show _ = some (dotO r q) from D4.out)
  go_cut [11] (fun s11 wx => s11 = .bool M ∧ wx = w4)
  case first =>
    rename_i JJ KK hJJ hKK
    have HJJ := Lib.hid hJJ
    have HKK := Lib.hid hKK
    clear hJJ hKK
    by_cases p1 : r ≥ 0
    · have d1 : decide (r ≥ 0) = true := decide_eq_true p1
      by_cases p2 : r < 32
      · have d2 : decide (r < 32) = true := decide_eq_true p2
        by_cases p3 : q ≥ 1
        · have d3 : decide (q ≥ 1) = true := decide_eq_true p3
          by_cases p4 : q ≤ 1099511627776
          · have HE := Lib.hid (show M = true by rw [HMS.out, d1, d2, d3, decide_eq_true p4]; rfl)
            go_wp2_with fail
            refine HKK.out _ _ ?_
            have hJJ := HJJ.out
            go_meet
            exact ⟨by rw [HE.out], rfl⟩
          · have HE := Lib.hid (show M = false by rw [HMS.out, d1, d2, d3, decide_eq_false p4]; rfl)
            go_wp2_with fail
            refine HKK.out _ _ ?_
            have hJJ := HJJ.out
            go_meet
            exact ⟨by rw [HE.out], rfl⟩
        · have HE := Lib.hid (show M = false by rw [HMS.out, d1, d2, decide_eq_false p3]; rfl)
          go_wp2_with fail
          refine HKK.out _ _ ?_
          have hJJ := HJJ.out
          go_meet
          exact ⟨by rw [HE.out], rfl⟩
      · have HE := Lib.hid (show M = false by rw [HMS.out, d1, decide_eq_false p2]; rfl)
        go_wp2_with fail
        refine HKK.out _ _ ?_
        have hJJ := HJJ.out
        go_meet
        exact ⟨by rw [HE.out], rfl⟩
    · have HE := Lib.hid (show M = false by rw [HMS.out, decide_eq_false p1]; rfl)
      go_wp2_with fail
      refine HKK.out _ _ ?_
      have hJJ := HJJ.out
      go_meet
      exact ⟨by rw [HE.out], rfl⟩
  case rest =>
    obtain ⟨rfl, rfl⟩ := hcut
    clear c0 c1
    go_upto_region 9 with (first
      | (refine load_row_on (by rfl) 25 (.tmp 9) rfl (w1.heap.size + 1) rfl 25 _ (0, 0) _ G4.out Tryd.underlying25 rfl (by kernel_rfl) ?_)
      | (go_at_call 16; refine (HWG.out _ _ XW4.out).mono ?_; rintro e w5 ⟨rfl, hb⟩; have XW5 := Lib.hid (dots_below XW4.out hb); have B5 := Lib.hid (below_next B4.out hb); have D5 := Lib.hid (row_kept D4.out hb); have G5 := Lib.hid (row_kept G4.out hb); clear hb))
    obtain ⟨k0, k1⟩ := dot_cells (show _ = some (dotO r q) from D5.out)
    obtain ⟨k2, k3⟩ := dot_cells (show _ = some (dotO r' q') from G5.out)
    have C5 := Lib.hid (And.intro k0 (And.intro k1 (And.intro k2 k3)))
    clear k0 k1 k2 k3
    go_cut [13] (fun s13 wx => s13 = .bool K ∧ Below w5.heap.size w5 wx)
    case first =>
      rename_i JJ KK hJJ hKK
      have HJJ := Lib.hid hJJ
      have HKK := Lib.hid hKK
      clear hJJ hKK
      cases hg with
      | true =>
        have HE := Lib.hid (show K = true by rw [HK.out]; rfl)
        go_wp2_with (first
          | (refine load_row_on (by rfl) 25 (.tmp 9) rfl (w1.heap.size + 1) rfl 25 _ (0, 0) _ G5.out Tryd.underlying25 rfl (by kernel_rfl) ?_)
          | (go_at_call 16; with_reducible refine (HAG.out w5 (dots_below Hv.out B5.out)).mono ?_; rintro e w6 ⟨rfl, hb⟩; have BB := Lib.hid hb; have c0 := (World.cell?_of_block (hb.block _ (World.block_lt_of_cell? _ _ C5.out.1))).trans C5.out.1; have c1 := (World.cell?_of_block (hb.block _ (World.block_lt_of_cell? _ _ C5.out.2.1))).trans C5.out.2.1; have c2 := (World.cell?_of_block (hb.block _ (World.block_lt_of_cell? _ _ C5.out.2.2.1))).trans C5.out.2.2.1; have c3 := (World.cell?_of_block (hb.block _ (World.block_lt_of_cell? _ _ C5.out.2.2.2))).trans C5.out.2.2.2; clear hb))
        refine HKK.out _ _ ?_
        have hJJ := HJJ.out
        go_meet
        exact ⟨by rw [HE.out], BB.out⟩
      | false =>
        cases M with
        | false =>
          have HE := Lib.hid (show K = false by rw [HK.out]; rfl)
          go_wp2_with (first
          | (refine load_row_on (by rfl) 25 (.tmp 9) rfl (w1.heap.size + 1) rfl 25 _ (0, 0) _ G5.out Tryd.underlying25 rfl (by kernel_rfl) ?_)
          | (go_at_call 16; with_reducible refine (HAG.out w5 (dots_below Hv.out B5.out)).mono ?_; rintro e w6 ⟨rfl, hb⟩; have BB := Lib.hid hb; have c0 := (World.cell?_of_block (hb.block _ (World.block_lt_of_cell? _ _ C5.out.1))).trans C5.out.1; have c1 := (World.cell?_of_block (hb.block _ (World.block_lt_of_cell? _ _ C5.out.2.1))).trans C5.out.2.1; have c2 := (World.cell?_of_block (hb.block _ (World.block_lt_of_cell? _ _ C5.out.2.2.1))).trans C5.out.2.2.1; have c3 := (World.cell?_of_block (hb.block _ (World.block_lt_of_cell? _ _ C5.out.2.2.2))).trans C5.out.2.2.2; clear hb))
          refine HKK.out _ _ ?_
          have hJJ := HJJ.out
          go_meet
          exact ⟨by rw [HE.out], BB.out⟩
        | true =>
          by_cases p1 : r' = r
          · subst p1
            by_cases p2 : q' ≥ 1
            · have d2 : decide (q' ≥ 1) = true := decide_eq_true p2
              by_cases p3 : q' ≤ q
              · have d3 : decide (q' ≤ q) = true := decide_eq_true p3
                have HE := Lib.hid (show K = true by rw [HK.out, wantK, decide_eq_true (show 1 ≤ q' from p2), d3]; simp)
                go_wp2_with (first
          | (refine load_row_on (by rfl) 25 (.tmp 9) rfl (w1.heap.size + 1) rfl 25 _ (0, 0) _ G5.out Tryd.underlying25 rfl (by kernel_rfl) ?_)
          | (go_at_call 16; with_reducible refine (HAG.out w5 (dots_below Hv.out B5.out)).mono ?_; rintro e w6 ⟨rfl, hb⟩; have BB := Lib.hid hb; have c0 := (World.cell?_of_block (hb.block _ (World.block_lt_of_cell? _ _ C5.out.1))).trans C5.out.1; have c1 := (World.cell?_of_block (hb.block _ (World.block_lt_of_cell? _ _ C5.out.2.1))).trans C5.out.2.1; have c2 := (World.cell?_of_block (hb.block _ (World.block_lt_of_cell? _ _ C5.out.2.2.1))).trans C5.out.2.2.1; have c3 := (World.cell?_of_block (hb.block _ (World.block_lt_of_cell? _ _ C5.out.2.2.2))).trans C5.out.2.2.2; clear hb))
                refine HKK.out _ _ ?_
                have hJJ := HJJ.out
                go_meet
                exact ⟨by rw [HE.out], BB.out⟩
              · have d3 : decide (q' ≤ q) = false := decide_eq_false p3
                have HE := Lib.hid (show K = false by rw [HK.out, wantK, decide_eq_true (show 1 ≤ q' from p2), d3]; simp)
                go_wp2_with (first
          | (refine load_row_on (by rfl) 25 (.tmp 9) rfl (w1.heap.size + 1) rfl 25 _ (0, 0) _ G5.out Tryd.underlying25 rfl (by kernel_rfl) ?_)
          | (go_at_call 16; with_reducible refine (HAG.out w5 (dots_below Hv.out B5.out)).mono ?_; rintro e w6 ⟨rfl, hb⟩; have BB := Lib.hid hb; have c0 := (World.cell?_of_block (hb.block _ (World.block_lt_of_cell? _ _ C5.out.1))).trans C5.out.1; have c1 := (World.cell?_of_block (hb.block _ (World.block_lt_of_cell? _ _ C5.out.2.1))).trans C5.out.2.1; have c2 := (World.cell?_of_block (hb.block _ (World.block_lt_of_cell? _ _ C5.out.2.2.1))).trans C5.out.2.2.1; have c3 := (World.cell?_of_block (hb.block _ (World.block_lt_of_cell? _ _ C5.out.2.2.2))).trans C5.out.2.2.2; clear hb))
                refine HKK.out _ _ ?_
                have hJJ := HJJ.out
                go_meet
                exact ⟨by rw [HE.out], BB.out⟩
            · have d2 : decide (q' ≥ 1) = false := decide_eq_false p2
              have HE := Lib.hid (show K = false by rw [HK.out, wantK, decide_eq_false (show ¬ 1 ≤ q' from p2)]; simp)
              go_wp2_with (first
          | (refine load_row_on (by rfl) 25 (.tmp 9) rfl (w1.heap.size + 1) rfl 25 _ (0, 0) _ G5.out Tryd.underlying25 rfl (by kernel_rfl) ?_)
          | (go_at_call 16; with_reducible refine (HAG.out w5 (dots_below Hv.out B5.out)).mono ?_; rintro e w6 ⟨rfl, hb⟩; have BB := Lib.hid hb; have c0 := (World.cell?_of_block (hb.block _ (World.block_lt_of_cell? _ _ C5.out.1))).trans C5.out.1; have c1 := (World.cell?_of_block (hb.block _ (World.block_lt_of_cell? _ _ C5.out.2.1))).trans C5.out.2.1; have c2 := (World.cell?_of_block (hb.block _ (World.block_lt_of_cell? _ _ C5.out.2.2.1))).trans C5.out.2.2.1; have c3 := (World.cell?_of_block (hb.block _ (World.block_lt_of_cell? _ _ C5.out.2.2.2))).trans C5.out.2.2.2; clear hb))
              refine HKK.out _ _ ?_
              have hJJ := HJJ.out
              go_meet
              exact ⟨by rw [HE.out], BB.out⟩
          · have d1 : (r' == r) = false := beq_eq_false_iff_ne.2 p1
            have HE := Lib.hid (show K = false by rw [HK.out, wantK, decide_eq_false p1]; rfl)
            go_wp2_with (first
          | (refine load_row_on (by rfl) 25 (.tmp 9) rfl (w1.heap.size + 1) rfl 25 _ (0, 0) _ G5.out Tryd.underlying25 rfl (by kernel_rfl) ?_)
          | (go_at_call 16; with_reducible refine (HAG.out w5 (dots_below Hv.out B5.out)).mono ?_; rintro e w6 ⟨rfl, hb⟩; have BB := Lib.hid hb; have c0 := (World.cell?_of_block (hb.block _ (World.block_lt_of_cell? _ _ C5.out.1))).trans C5.out.1; have c1 := (World.cell?_of_block (hb.block _ (World.block_lt_of_cell? _ _ C5.out.2.1))).trans C5.out.2.1; have c2 := (World.cell?_of_block (hb.block _ (World.block_lt_of_cell? _ _ C5.out.2.2.1))).trans C5.out.2.2.1; have c3 := (World.cell?_of_block (hb.block _ (World.block_lt_of_cell? _ _ C5.out.2.2.2))).trans C5.out.2.2.2; clear hb))
            refine HKK.out _ _ ?_
            have hJJ := HJJ.out
            go_meet
            exact ⟨by rw [HE.out], BB.out⟩
    case rest =>
      obtain ⟨rfl, hb6⟩ := hcut
      have B6 := Lib.hid (below_next B5.out hb6)
      have D6 := Lib.hid (row_kept D5.out hb6)
      have XW6 := Lib.hid (dots_below XW5.out hb6)
      clear hb6
      go_upto_region 10 with fail
      refine wp_region_held_drew (S := fun w' => Below wc.heap.size wc w') (by kernel_rfl) (drawS (Below.refl _ _)) (fun hHeld => ?_)
      generalize wc.drew = wd at hHeld ⊢
      cases ha with
      | true =>
        rw [Bool.true_or] at HJ
        rw [Bool.true_and] at HM
        refine take_at (i := 0) 77 rfl rfl (by kernel_rfl) (by kernel_rfl) (by kernel_rfl) (fun _ _ _ h => h) (sure_yes (by rfl) (fun w => by go_simp; try with_reducible rfl)) hHeld ?_
        simp only [List.setIfInBounds_toArray, List.set_cons_zero, List.set_cons_succ]
        refine take_at (i := 1) 78 rfl rfl (by kernel_rfl) (by kernel_rfl) (by kernel_rfl) (fun _ _ _ h => h) (sure_yes (by rfl) (fun w => by go_simp; try with_reducible rfl)) hHeld ?_
        simp only [List.setIfInBounds_toArray, List.set_cons_zero, List.set_cons_succ]
        refine take_at (i := 2) 79 rfl rfl (by kernel_rfl) (by kernel_rfl) (by kernel_rfl) (fun _ _ _ h => h) (sure_yes (by rfl) (fun w => by go_simp; try with_reducible rfl)) hHeld ?_
        simp only [List.setIfInBounds_toArray, List.set_cons_zero, List.set_cons_succ]
        refine take_at (i := 3) 80 rfl rfl (by kernel_rfl) (by kernel_rfl) (by kernel_rfl) (fun _ _ _ h => h) (sure_yes (by rfl) (fun w => by go_simp; try with_reducible rfl)) hHeld ?_
        simp only [List.setIfInBounds_toArray, List.set_cons_zero, List.set_cons_succ]
        refine take_at (i := 7) 84 rfl rfl (by kernel_rfl) (by kernel_rfl) (by kernel_rfl) (fun _ _ _ h => h) (sure_yes (by rfl) (fun w => by go_simp; try with_reducible rfl)) hHeld ?_
        simp only [List.setIfInBounds_toArray, List.set_cons_zero, List.set_cons_succ]
        refine take_at (i := 5) 82 rfl rfl (by kernel_rfl) (by kernel_rfl) (by kernel_rfl) (fun _ _ _ h => h) (row_yields (by rfl) 25 (.tmp 8) rfl w1.heap.size rfl 25 _ (0, 0) _ Tryd.underlying25 rfl (by kernel_rfl) (fun _ h => row_kept D6.out h)) hHeld ?_
        simp only [List.setIfInBounds_toArray, List.set_cons_zero, List.set_cons_succ]
        refine take_at (i := 8) 85 rfl rfl (by kernel_rfl) (by kernel_rfl) (by kernel_rfl) (fun _ _ _ h => h) (row_yields (by rfl) 25 (.tmp 8) rfl w1.heap.size rfl 25 _ (0, 0) _ Tryd.underlying25 rfl (by kernel_rfl) (fun _ h => row_kept D6.out h)) hHeld ?_
        simp only [List.setIfInBounds_toArray, List.set_cons_zero, List.set_cons_succ]
        refine wpAnyH_ready (rs := [4]) (by kernel_rfl) (by simp) ?_
        refine AllReadyH.cons rfl (fun K hK => ?_) AllReadyH.nil
        go_simp
        go_at_call 23
        refine (J1.out _ (dots_below Hv.out (below_next B6.out hHeld)) (dots_below Hu.out (below_next B6.out hHeld))).mono ?_
        rintro e w6 ⟨xXJ, rfl, hxXJ, hb⟩
        dsimp only
        have XJ := Lib.hid hxXJ
        clear hxXJ
        refine hK.out _ _ (below_next hHeld hb) (fun hHeld => ?_)
        clear hK K hb
        refine wpAnyH_ready (rs := [6]) (by kernel_rfl) (by simp) ?_
        refine AllReadyH.cons rfl (fun K hK => ?_) AllReadyH.nil
        go_simp
        go_at_call 16
        refine (HJ.out _ _ XJ.out).mono ?_
        rintro e w6 ⟨rfl, hb⟩
        dsimp only
        refine hK.out _ _ (below_next hHeld hb) (fun hHeld => ?_)
        clear hK K hb
        refine wpAnyH_ready (rs := [9]) (by kernel_rfl) (by simp) ?_
        refine AllReadyH.cons rfl (fun K hK => ?_) AllReadyH.nil
        go_simp
        go_at_call 16
        refine (HA.out _ (dots_below Hv.out (below_next B6.out hHeld))).mono ?_
        rintro e w6 ⟨rfl, hb⟩
        dsimp only
        refine hK.out _ _ (below_next hHeld hb) (fun hHeld => ?_)
        clear hK K hb
        refine take_at (i := 10) 87 rfl rfl (by kernel_rfl) (by kernel_rfl) (by kernel_rfl) (fun _ _ _ h => h) (sure_yes (by rfl) (fun w => by go_simp; try with_reducible rfl)) hHeld ?_
        simp only [List.setIfInBounds_toArray, List.set_cons_zero, List.set_cons_succ]
        refine take_at (i := 11) 88 rfl rfl (by kernel_rfl) (by kernel_rfl) (by kernel_rfl) (fun _ _ _ h => h) (.inr ⟨by rfl, rfl⟩) hHeld ?_
        simp only [List.setIfInBounds_toArray, List.set_cons_zero, List.set_cons_succ]
        refine take_at (i := 12) 89 rfl rfl (by kernel_rfl) (by kernel_rfl) (by kernel_rfl) (fun _ _ _ h => h) (.inr ⟨by rfl, rfl⟩) hHeld ?_
        simp only [List.setIfInBounds_toArray, List.set_cons_zero, List.set_cons_succ]
        refine take_at (i := 13) 90 rfl rfl (by kernel_rfl) (by kernel_rfl) (by kernel_rfl) (fun _ _ _ h => h) (.inr ⟨by rfl, rfl⟩) hHeld ?_
        simp only [List.setIfInBounds_toArray, List.set_cons_zero, List.set_cons_succ]
        refine take_at (i := 14) 91 rfl rfl (by kernel_rfl) (by kernel_rfl) (by kernel_rfl) (fun _ _ _ h => h) (sure_yes (by rfl) (fun w => by go_simp; try with_reducible rfl)) hHeld ?_
        simp only [List.setIfInBounds_toArray, List.set_cons_zero, List.set_cons_succ]
        refine take_at (i := 15) 92 rfl rfl (by kernel_rfl) (by kernel_rfl) (by kernel_rfl) (fun _ _ _ h => h) (sure_yes (by rfl) (fun w => by go_simp; try with_reducible rfl)) hHeld ?_
        simp only [List.setIfInBounds_toArray, List.set_cons_zero, List.set_cons_succ]
        refine take_at (i := 16) 93 rfl rfl (by kernel_rfl) (by kernel_rfl) (by kernel_rfl) (fun _ _ _ h => h) (sure_yes (by rfl) (fun w => by go_simp; try with_reducible rfl)) hHeld ?_
        simp only [List.setIfInBounds_toArray, List.set_cons_zero, List.set_cons_succ]
        refine take_at (i := 17) 94 rfl rfl (by kernel_rfl) (by kernel_rfl) (by kernel_rfl) (fun _ _ _ h => h) (sure_yes (by rfl) (fun w => by go_simp; try with_reducible rfl)) hHeld ?_
        simp only [List.setIfInBounds_toArray, List.set_cons_zero, List.set_cons_succ]
        refine take_at (i := 18) 95 rfl rfl (by kernel_rfl) (by kernel_rfl) (by kernel_rfl) (fun _ _ _ h => h) (sure_yes (by rfl) (fun w => by go_simp; try with_reducible rfl)) hHeld ?_
        simp only [List.setIfInBounds_toArray, List.set_cons_zero, List.set_cons_succ]
        refine take_at (i := 19) 96 rfl rfl (by kernel_rfl) (by kernel_rfl) (by kernel_rfl) (fun _ _ _ h => h) (sure_yes (by rfl) (fun w => by go_simp; try with_reducible rfl)) hHeld ?_
        simp only [List.setIfInBounds_toArray, List.set_cons_zero, List.set_cons_succ]
        refine take_at (i := 23) 100 rfl rfl (by kernel_rfl) (by kernel_rfl) (by kernel_rfl) (fun _ _ _ h => h) (sure_yes (by rfl) (fun w => by go_simp; try with_reducible rfl)) hHeld ?_
        simp only [List.setIfInBounds_toArray, List.set_cons_zero, List.set_cons_succ]
        refine take_at (i := 21) 98 rfl rfl (by kernel_rfl) (by kernel_rfl) (by kernel_rfl) (fun _ _ _ h => h) (row_yields (by rfl) 25 (.tmp 8) rfl w1.heap.size rfl 25 _ (0, 0) _ Tryd.underlying25 rfl (by kernel_rfl) (fun _ h => row_kept D6.out h)) hHeld ?_
        simp only [List.setIfInBounds_toArray, List.set_cons_zero, List.set_cons_succ]
        refine take_at (i := 24) 101 rfl rfl (by kernel_rfl) (by kernel_rfl) (by kernel_rfl) (fun _ _ _ h => h) (row_yields (by rfl) 25 (.tmp 8) rfl w1.heap.size rfl 25 _ (0, 0) _ Tryd.underlying25 rfl (by kernel_rfl) (fun _ h => row_kept D6.out h)) hHeld ?_
        simp only [List.setIfInBounds_toArray, List.set_cons_zero, List.set_cons_succ]
        refine wpAnyH_ready (rs := [20]) (by kernel_rfl) (by simp) ?_
        refine AllReadyH.cons rfl (fun K hK => ?_) AllReadyH.nil
        go_simp
        go_at_call 25
        refine (M1.out _ (dots_below Hv.out (below_next B6.out hHeld)) (dots_below Hu.out (below_next B6.out hHeld))).mono ?_
        rintro e w6 ⟨xXM, rfl, hxXM, hb⟩
        dsimp only
        have XM := Lib.hid hxXM
        clear hxXM
        refine hK.out _ _ (below_next hHeld hb) (fun hHeld => ?_)
        clear hK K hb
        refine wpAnyH_ready (rs := [22]) (by kernel_rfl) (by simp) ?_
        refine AllReadyH.cons rfl (fun K hK => ?_) AllReadyH.nil
        go_simp
        go_at_call 16
        refine (HM.out _ _ XM.out).mono ?_
        rintro e w6 ⟨rfl, hb⟩
        dsimp only
        refine hK.out _ _ (below_next hHeld hb) (fun hHeld => ?_)
        clear hK K hb
        refine wpAnyH_ready (rs := [25]) (by kernel_rfl) (by simp) ?_
        refine AllReadyH.cons rfl (fun K hK => ?_) AllReadyH.nil
        go_simp
        go_at_call 16
        refine (HA.out _ (dots_below Hv.out (below_next B6.out hHeld))).mono ?_
        rintro e w6 ⟨rfl, hb⟩
        dsimp only
        refine hK.out _ _ (below_next hHeld hb) (fun hHeld => ?_)
        clear hK K hb
        refine take_at (i := 26) 103 rfl rfl (by kernel_rfl) (by kernel_rfl) (by kernel_rfl) (fun _ _ _ h => h) (sure_yes (by rfl) (fun w => by go_simp; try with_reducible rfl)) hHeld ?_
        simp only [List.setIfInBounds_toArray, List.set_cons_zero, List.set_cons_succ]
        refine take_at (i := 27) 104 rfl rfl (by kernel_rfl) (by kernel_rfl) (by kernel_rfl) (fun _ _ _ h => h) (sure_yes (by rfl) (fun w => by go_simp; try with_reducible rfl)) hHeld ?_
        simp only [List.setIfInBounds_toArray, List.set_cons_zero, List.set_cons_succ]
        refine take_at (i := 28) 105 rfl rfl (by kernel_rfl) (by kernel_rfl) (by kernel_rfl) (fun _ _ _ h => h) (row_yields (by rfl) 25 (.tmp 8) rfl w1.heap.size rfl 25 _ (0, 0) _ Tryd.underlying25 rfl (by kernel_rfl) (fun _ h => row_kept D6.out h)) hHeld ?_
        simp only [List.setIfInBounds_toArray, List.set_cons_zero, List.set_cons_succ]
        refine wpAnyH_ready (rs := [29]) (by kernel_rfl) (by simp) ?_
        refine AllReadyH.cons rfl (fun K hK => ?_) AllReadyH.nil
        go_simp
        go_at_call 16
        refine (HB.out _ (dots_below Hu.out (below_next B6.out hHeld))).mono ?_
        rintro e w6 ⟨rfl, hb⟩
        dsimp only
        refine hK.out _ _ (below_next hHeld hb) (fun hHeld => ?_)
        clear hK K hb
        refine take_at (i := 30) 107 rfl rfl (by kernel_rfl) (by kernel_rfl) (by kernel_rfl) (fun _ _ _ h => h) (sure_yes (by rfl) (fun w => by go_simp; try with_reducible rfl)) hHeld ?_
        simp only [List.setIfInBounds_toArray, List.set_cons_zero, List.set_cons_succ]
        refine take_at (i := 31) 108 rfl rfl (by kernel_rfl) (by kernel_rfl) (by kernel_rfl) (fun _ _ _ h => h) (sure_yes (by rfl) (fun w => by go_simp; try with_reducible rfl)) hHeld ?_
        simp only [List.setIfInBounds_toArray, List.set_cons_zero, List.set_cons_succ]
        refine take_at (i := 32) 109 rfl rfl (by kernel_rfl) (by kernel_rfl) (by kernel_rfl) (fun _ _ _ h => h) (sure_yes (by rfl) (fun w => by go_simp; try with_reducible rfl)) hHeld ?_
        simp only [List.setIfInBounds_toArray, List.set_cons_zero, List.set_cons_succ]
        refine take_at (i := 33) 110 rfl rfl (by kernel_rfl) (by kernel_rfl) (by kernel_rfl) (fun _ _ _ h => h) (sure_yes (by rfl) (fun w => by go_simp; try with_reducible rfl)) hHeld ?_
        simp only [List.setIfInBounds_toArray, List.set_cons_zero, List.set_cons_succ]
        refine take_at (i := 34) 111 rfl rfl (by kernel_rfl) (by kernel_rfl) (by kernel_rfl) (fun _ _ _ h => h) (sure_yes (by rfl) (fun w => by go_simp; try with_reducible rfl)) hHeld ?_
        simp only [List.setIfInBounds_toArray, List.set_cons_zero, List.set_cons_succ]
        refine take_at (i := 37) 114 rfl rfl (by kernel_rfl) (by kernel_rfl) (by kernel_rfl) (fun _ _ _ h => h) (sure_yes (by rfl) (fun w => by go_simp; try with_reducible rfl)) hHeld ?_
        simp only [List.setIfInBounds_toArray, List.set_cons_zero, List.set_cons_succ]
        refine take_at (i := 35) 112 rfl rfl (by kernel_rfl) (by kernel_rfl) (by kernel_rfl) (fun _ _ _ h => h) (row_yields (by rfl) 25 (.tmp 8) rfl w1.heap.size rfl 25 _ (0, 0) _ Tryd.underlying25 rfl (by kernel_rfl) (fun _ h => row_kept D6.out h)) hHeld ?_
        simp only [List.setIfInBounds_toArray, List.set_cons_zero, List.set_cons_succ]
        refine wpAnyH_ready (rs := [36]) (by kernel_rfl) (by simp) ?_
        refine AllReadyH.cons rfl (fun K hK => ?_) AllReadyH.nil
        go_simp
        go_at_call 16
        refine (HW.out _ _ (dots_below XW6.out hHeld)).mono ?_
        rintro e w6 ⟨rfl, hb⟩
        dsimp only
        refine hK.out _ _ (below_next hHeld hb) (fun hHeld => ?_)
        clear hK K hb
        refine take_at (i := 38) 115 rfl rfl (by kernel_rfl) (by kernel_rfl) (by kernel_rfl) (fun _ _ _ h => h) (sure_yes (by rfl) (fun w => by go_simp; try with_reducible rfl)) hHeld ?_
        simp only [List.setIfInBounds_toArray, List.set_cons_zero, List.set_cons_succ]
        refine take_at (i := 39) 116 rfl rfl (by kernel_rfl) (by kernel_rfl) (by kernel_rfl) (fun _ _ _ h => h) (sure_yes (by rfl) (fun w => by go_simp; try with_reducible rfl)) hHeld ?_
        simp only [List.setIfInBounds_toArray, List.set_cons_zero, List.set_cons_succ]
        refine take_at (i := 40) 117 rfl rfl (by kernel_rfl) (by kernel_rfl) (by kernel_rfl) (fun _ _ _ h => h) (sure_yes (by rfl) (fun w => by go_simp; try with_reducible rfl)) hHeld ?_
        simp only [List.setIfInBounds_toArray, List.set_cons_zero, List.set_cons_succ]
        refine take_at (i := 41) 118 rfl rfl (by kernel_rfl) (by kernel_rfl) (by kernel_rfl) (fun _ _ _ h => h) (sure_yes (by rfl) (fun w => by go_simp; try with_reducible rfl)) hHeld ?_
        simp only [List.setIfInBounds_toArray, List.set_cons_zero, List.set_cons_succ]
        refine take_at (i := 42) 119 rfl rfl (by kernel_rfl) (by kernel_rfl) (by kernel_rfl) (fun _ _ _ h => h) (sure_yes (by rfl) (fun w => by go_simp; try with_reducible rfl)) hHeld ?_
        simp only [List.setIfInBounds_toArray, List.set_cons_zero, List.set_cons_succ]
        refine take_at (i := 43) 120 rfl rfl (by kernel_rfl) (by kernel_rfl) (by kernel_rfl) (fun _ _ _ h => h) (sure_yes (by rfl) (fun w => by go_simp; try with_reducible rfl)) hHeld ?_
        simp only [List.setIfInBounds_toArray, List.set_cons_zero, List.set_cons_succ]
        refine take_at (i := 44) 121 rfl rfl (by kernel_rfl) (by kernel_rfl) (by kernel_rfl) (fun _ _ _ h => h) (sure_yes (by rfl) (fun w => by go_simp; try with_reducible rfl)) hHeld ?_
        simp only [List.setIfInBounds_toArray, List.set_cons_zero, List.set_cons_succ]
        refine take_at (i := 45) 6 rfl rfl (by kernel_rfl) (by kernel_rfl) (by kernel_rfl) (fun _ _ _ h => h) (sure_yes (by rfl) (fun w => by go_simp; try with_reducible rfl)) hHeld ?_
        simp only [List.setIfInBounds_toArray, List.set_cons_zero, List.set_cons_succ]
        refine wpAnyH_done (by kernel_rfl) ?_ _
        go_wp2
        go_ret
        exact ⟨rfl, below_next B6.out hHeld⟩
      | false =>
        rw [Bool.false_or] at HJ
        rw [Bool.false_and] at HM
        refine take_at (i := 0) 77 rfl rfl (by kernel_rfl) (by kernel_rfl) (by kernel_rfl) (fun _ _ _ h => h) (sure_yes (by rfl) (fun w => by go_simp; try with_reducible rfl)) hHeld ?_
        simp only [List.setIfInBounds_toArray, List.set_cons_zero, List.set_cons_succ]
        refine take_at (i := 1) 78 rfl rfl (by kernel_rfl) (by kernel_rfl) (by kernel_rfl) (fun _ _ _ h => h) (sure_yes (by rfl) (fun w => by go_simp; try with_reducible rfl)) hHeld ?_
        simp only [List.setIfInBounds_toArray, List.set_cons_zero, List.set_cons_succ]
        refine take_at (i := 2) 79 rfl rfl (by kernel_rfl) (by kernel_rfl) (by kernel_rfl) (fun _ _ _ h => h) (sure_yes (by rfl) (fun w => by go_simp; try with_reducible rfl)) hHeld ?_
        simp only [List.setIfInBounds_toArray, List.set_cons_zero, List.set_cons_succ]
        refine take_at (i := 3) 80 rfl rfl (by kernel_rfl) (by kernel_rfl) (by kernel_rfl) (fun _ _ _ h => h) (sure_yes (by rfl) (fun w => by go_simp; try with_reducible rfl)) hHeld ?_
        simp only [List.setIfInBounds_toArray, List.set_cons_zero, List.set_cons_succ]
        refine take_at (i := 7) 84 rfl rfl (by kernel_rfl) (by kernel_rfl) (by kernel_rfl) (fun _ _ _ h => h) (sure_yes (by rfl) (fun w => by go_simp; try with_reducible rfl)) hHeld ?_
        simp only [List.setIfInBounds_toArray, List.set_cons_zero, List.set_cons_succ]
        refine take_at (i := 5) 82 rfl rfl (by kernel_rfl) (by kernel_rfl) (by kernel_rfl) (fun _ _ _ h => h) (row_yields (by rfl) 25 (.tmp 8) rfl w1.heap.size rfl 25 _ (0, 0) _ Tryd.underlying25 rfl (by kernel_rfl) (fun _ h => row_kept D6.out h)) hHeld ?_
        simp only [List.setIfInBounds_toArray, List.set_cons_zero, List.set_cons_succ]
        refine take_at (i := 8) 85 rfl rfl (by kernel_rfl) (by kernel_rfl) (by kernel_rfl) (fun _ _ _ h => h) (row_yields (by rfl) 25 (.tmp 8) rfl w1.heap.size rfl 25 _ (0, 0) _ Tryd.underlying25 rfl (by kernel_rfl) (fun _ h => row_kept D6.out h)) hHeld ?_
        simp only [List.setIfInBounds_toArray, List.set_cons_zero, List.set_cons_succ]
        refine wpAnyH_ready (rs := [4]) (by kernel_rfl) (by simp) ?_
        refine AllReadyH.cons rfl (fun K hK => ?_) AllReadyH.nil
        go_simp
        go_at_call 23
        refine (J1.out _ (dots_below Hv.out (below_next B6.out hHeld)) (dots_below Hu.out (below_next B6.out hHeld))).mono ?_
        rintro e w6 ⟨xXJ, rfl, hxXJ, hb⟩
        dsimp only
        have XJ := Lib.hid hxXJ
        clear hxXJ
        refine hK.out _ _ (below_next hHeld hb) (fun hHeld => ?_)
        clear hK K hb
        refine wpAnyH_ready (rs := [6]) (by kernel_rfl) (by simp) ?_
        refine AllReadyH.cons rfl (fun K hK => ?_) AllReadyH.nil
        go_simp
        go_at_call 16
        refine (HJ.out _ _ XJ.out).mono ?_
        rintro e w6 ⟨rfl, hb⟩
        dsimp only
        refine hK.out _ _ (below_next hHeld hb) (fun hHeld => ?_)
        clear hK K hb
        refine wpAnyH_ready (rs := [9]) (by kernel_rfl) (by simp) ?_
        refine AllReadyH.cons rfl (fun K hK => ?_) AllReadyH.nil
        go_simp
        go_at_call 16
        refine (HA.out _ (dots_below Hv.out (below_next B6.out hHeld))).mono ?_
        rintro e w6 ⟨rfl, hb⟩
        dsimp only
        refine hK.out _ _ (below_next hHeld hb) (fun hHeld => ?_)
        clear hK K hb
        refine take_at (i := 10) 87 rfl rfl (by kernel_rfl) (by kernel_rfl) (by kernel_rfl) (fun _ _ _ h => h) (sure_yes (by rfl) (fun w => by go_simp; try with_reducible rfl)) hHeld ?_
        simp only [List.setIfInBounds_toArray, List.set_cons_zero, List.set_cons_succ]
        refine take_at (i := 11) 88 rfl rfl (by kernel_rfl) (by kernel_rfl) (by kernel_rfl) (fun _ _ _ h => h) (sure_yes (by rfl) (fun w => by go_simp; try with_reducible rfl)) hHeld ?_
        simp only [List.setIfInBounds_toArray, List.set_cons_zero, List.set_cons_succ]
        refine take_at (i := 12) 89 rfl rfl (by kernel_rfl) (by kernel_rfl) (by kernel_rfl) (fun _ _ _ h => h) (row_yields (by rfl) 25 (.tmp 8) rfl w1.heap.size rfl 25 _ (0, 0) _ Tryd.underlying25 rfl (by kernel_rfl) (fun _ h => row_kept D6.out h)) hHeld ?_
        simp only [List.setIfInBounds_toArray, List.set_cons_zero, List.set_cons_succ]
        refine wpAnyH_ready (rs := [13]) (by kernel_rfl) (by simp) ?_
        refine AllReadyH.cons rfl (fun K hK => ?_) AllReadyH.nil
        go_simp
        go_at_call 16
        refine (HB.out _ (dots_below Hu.out (below_next B6.out hHeld))).mono ?_
        rintro e w6 ⟨rfl, hb⟩
        dsimp only
        refine hK.out _ _ (below_next hHeld hb) (fun hHeld => ?_)
        clear hK K hb
        refine take_at (i := 14) 91 rfl rfl (by kernel_rfl) (by kernel_rfl) (by kernel_rfl) (fun _ _ _ h => h) (sure_yes (by rfl) (fun w => by go_simp; try with_reducible rfl)) hHeld ?_
        simp only [List.setIfInBounds_toArray, List.set_cons_zero, List.set_cons_succ]
        refine take_at (i := 15) 92 rfl rfl (by kernel_rfl) (by kernel_rfl) (by kernel_rfl) (fun _ _ _ h => h) (sure_yes (by rfl) (fun w => by go_simp; try with_reducible rfl)) hHeld ?_
        simp only [List.setIfInBounds_toArray, List.set_cons_zero, List.set_cons_succ]
        refine take_at (i := 16) 93 rfl rfl (by kernel_rfl) (by kernel_rfl) (by kernel_rfl) (fun _ _ _ h => h) (sure_yes (by rfl) (fun w => by go_simp; try with_reducible rfl)) hHeld ?_
        simp only [List.setIfInBounds_toArray, List.set_cons_zero, List.set_cons_succ]
        refine take_at (i := 17) 94 rfl rfl (by kernel_rfl) (by kernel_rfl) (by kernel_rfl) (fun _ _ _ h => h) (sure_yes (by rfl) (fun w => by go_simp; try with_reducible rfl)) hHeld ?_
        simp only [List.setIfInBounds_toArray, List.set_cons_zero, List.set_cons_succ]
        refine take_at (i := 18) 95 rfl rfl (by kernel_rfl) (by kernel_rfl) (by kernel_rfl) (fun _ _ _ h => h) (sure_yes (by rfl) (fun w => by go_simp; try with_reducible rfl)) hHeld ?_
        simp only [List.setIfInBounds_toArray, List.set_cons_zero, List.set_cons_succ]
        refine take_at (i := 19) 96 rfl rfl (by kernel_rfl) (by kernel_rfl) (by kernel_rfl) (fun _ _ _ h => h) (sure_yes (by rfl) (fun w => by go_simp; try with_reducible rfl)) hHeld ?_
        simp only [List.setIfInBounds_toArray, List.set_cons_zero, List.set_cons_succ]
        refine take_at (i := 23) 100 rfl rfl (by kernel_rfl) (by kernel_rfl) (by kernel_rfl) (fun _ _ _ h => h) (sure_yes (by rfl) (fun w => by go_simp; try with_reducible rfl)) hHeld ?_
        simp only [List.setIfInBounds_toArray, List.set_cons_zero, List.set_cons_succ]
        refine take_at (i := 21) 98 rfl rfl (by kernel_rfl) (by kernel_rfl) (by kernel_rfl) (fun _ _ _ h => h) (row_yields (by rfl) 25 (.tmp 8) rfl w1.heap.size rfl 25 _ (0, 0) _ Tryd.underlying25 rfl (by kernel_rfl) (fun _ h => row_kept D6.out h)) hHeld ?_
        simp only [List.setIfInBounds_toArray, List.set_cons_zero, List.set_cons_succ]
        refine take_at (i := 24) 101 rfl rfl (by kernel_rfl) (by kernel_rfl) (by kernel_rfl) (fun _ _ _ h => h) (row_yields (by rfl) 25 (.tmp 8) rfl w1.heap.size rfl 25 _ (0, 0) _ Tryd.underlying25 rfl (by kernel_rfl) (fun _ h => row_kept D6.out h)) hHeld ?_
        simp only [List.setIfInBounds_toArray, List.set_cons_zero, List.set_cons_succ]
        refine wpAnyH_ready (rs := [20]) (by kernel_rfl) (by simp) ?_
        refine AllReadyH.cons rfl (fun K hK => ?_) AllReadyH.nil
        go_simp
        go_at_call 25
        refine (M1.out _ (dots_below Hv.out (below_next B6.out hHeld)) (dots_below Hu.out (below_next B6.out hHeld))).mono ?_
        rintro e w6 ⟨xXM, rfl, hxXM, hb⟩
        dsimp only
        have XM := Lib.hid hxXM
        clear hxXM
        refine hK.out _ _ (below_next hHeld hb) (fun hHeld => ?_)
        clear hK K hb
        refine wpAnyH_ready (rs := [22]) (by kernel_rfl) (by simp) ?_
        refine AllReadyH.cons rfl (fun K hK => ?_) AllReadyH.nil
        go_simp
        go_at_call 16
        refine (HM.out _ _ XM.out).mono ?_
        rintro e w6 ⟨rfl, hb⟩
        dsimp only
        refine hK.out _ _ (below_next hHeld hb) (fun hHeld => ?_)
        clear hK K hb
        refine wpAnyH_ready (rs := [25]) (by kernel_rfl) (by simp) ?_
        refine AllReadyH.cons rfl (fun K hK => ?_) AllReadyH.nil
        go_simp
        go_at_call 16
        refine (HA.out _ (dots_below Hv.out (below_next B6.out hHeld))).mono ?_
        rintro e w6 ⟨rfl, hb⟩
        dsimp only
        refine hK.out _ _ (below_next hHeld hb) (fun hHeld => ?_)
        clear hK K hb
        refine take_at (i := 26) 103 rfl rfl (by kernel_rfl) (by kernel_rfl) (by kernel_rfl) (fun _ _ _ h => h) (sure_yes (by rfl) (fun w => by go_simp; try with_reducible rfl)) hHeld ?_
        simp only [List.setIfInBounds_toArray, List.set_cons_zero, List.set_cons_succ]
        refine take_at (i := 27) 104 rfl rfl (by kernel_rfl) (by kernel_rfl) (by kernel_rfl) (fun _ _ _ h => h) (.inr ⟨by rfl, rfl⟩) hHeld ?_
        simp only [List.setIfInBounds_toArray, List.set_cons_zero, List.set_cons_succ]
        refine take_at (i := 28) 105 rfl rfl (by kernel_rfl) (by kernel_rfl) (by kernel_rfl) (fun _ _ _ h => h) (.inr ⟨by rfl, rfl⟩) hHeld ?_
        simp only [List.setIfInBounds_toArray, List.set_cons_zero, List.set_cons_succ]
        refine take_at (i := 29) 106 rfl rfl (by kernel_rfl) (by kernel_rfl) (by kernel_rfl) (fun _ _ _ h => h) (.inr ⟨by rfl, rfl⟩) hHeld ?_
        simp only [List.setIfInBounds_toArray, List.set_cons_zero, List.set_cons_succ]
        refine take_at (i := 30) 107 rfl rfl (by kernel_rfl) (by kernel_rfl) (by kernel_rfl) (fun _ _ _ h => h) (sure_yes (by rfl) (fun w => by go_simp; try with_reducible rfl)) hHeld ?_
        simp only [List.setIfInBounds_toArray, List.set_cons_zero, List.set_cons_succ]
        refine take_at (i := 31) 108 rfl rfl (by kernel_rfl) (by kernel_rfl) (by kernel_rfl) (fun _ _ _ h => h) (sure_yes (by rfl) (fun w => by go_simp; try with_reducible rfl)) hHeld ?_
        simp only [List.setIfInBounds_toArray, List.set_cons_zero, List.set_cons_succ]
        refine take_at (i := 32) 109 rfl rfl (by kernel_rfl) (by kernel_rfl) (by kernel_rfl) (fun _ _ _ h => h) (sure_yes (by rfl) (fun w => by go_simp; try with_reducible rfl)) hHeld ?_
        simp only [List.setIfInBounds_toArray, List.set_cons_zero, List.set_cons_succ]
        refine take_at (i := 33) 110 rfl rfl (by kernel_rfl) (by kernel_rfl) (by kernel_rfl) (fun _ _ _ h => h) (sure_yes (by rfl) (fun w => by go_simp; try with_reducible rfl)) hHeld ?_
        simp only [List.setIfInBounds_toArray, List.set_cons_zero, List.set_cons_succ]
        refine take_at (i := 34) 111 rfl rfl (by kernel_rfl) (by kernel_rfl) (by kernel_rfl) (fun _ _ _ h => h) (sure_yes (by rfl) (fun w => by go_simp; try with_reducible rfl)) hHeld ?_
        simp only [List.setIfInBounds_toArray, List.set_cons_zero, List.set_cons_succ]
        refine take_at (i := 37) 114 rfl rfl (by kernel_rfl) (by kernel_rfl) (by kernel_rfl) (fun _ _ _ h => h) (sure_yes (by rfl) (fun w => by go_simp; try with_reducible rfl)) hHeld ?_
        simp only [List.setIfInBounds_toArray, List.set_cons_zero, List.set_cons_succ]
        refine take_at (i := 35) 112 rfl rfl (by kernel_rfl) (by kernel_rfl) (by kernel_rfl) (fun _ _ _ h => h) (row_yields (by rfl) 25 (.tmp 8) rfl w1.heap.size rfl 25 _ (0, 0) _ Tryd.underlying25 rfl (by kernel_rfl) (fun _ h => row_kept D6.out h)) hHeld ?_
        simp only [List.setIfInBounds_toArray, List.set_cons_zero, List.set_cons_succ]
        refine wpAnyH_ready (rs := [36]) (by kernel_rfl) (by simp) ?_
        refine AllReadyH.cons rfl (fun K hK => ?_) AllReadyH.nil
        go_simp
        go_at_call 16
        refine (HW.out _ _ (dots_below XW6.out hHeld)).mono ?_
        rintro e w6 ⟨rfl, hb⟩
        dsimp only
        refine hK.out _ _ (below_next hHeld hb) (fun hHeld => ?_)
        clear hK K hb
        refine take_at (i := 38) 115 rfl rfl (by kernel_rfl) (by kernel_rfl) (by kernel_rfl) (fun _ _ _ h => h) (sure_yes (by rfl) (fun w => by go_simp; try with_reducible rfl)) hHeld ?_
        simp only [List.setIfInBounds_toArray, List.set_cons_zero, List.set_cons_succ]
        refine take_at (i := 39) 116 rfl rfl (by kernel_rfl) (by kernel_rfl) (by kernel_rfl) (fun _ _ _ h => h) (sure_yes (by rfl) (fun w => by go_simp; try with_reducible rfl)) hHeld ?_
        simp only [List.setIfInBounds_toArray, List.set_cons_zero, List.set_cons_succ]
        refine take_at (i := 40) 117 rfl rfl (by kernel_rfl) (by kernel_rfl) (by kernel_rfl) (fun _ _ _ h => h) (sure_yes (by rfl) (fun w => by go_simp; try with_reducible rfl)) hHeld ?_
        simp only [List.setIfInBounds_toArray, List.set_cons_zero, List.set_cons_succ]
        refine take_at (i := 41) 118 rfl rfl (by kernel_rfl) (by kernel_rfl) (by kernel_rfl) (fun _ _ _ h => h) (sure_yes (by rfl) (fun w => by go_simp; try with_reducible rfl)) hHeld ?_
        simp only [List.setIfInBounds_toArray, List.set_cons_zero, List.set_cons_succ]
        refine take_at (i := 42) 119 rfl rfl (by kernel_rfl) (by kernel_rfl) (by kernel_rfl) (fun _ _ _ h => h) (sure_yes (by rfl) (fun w => by go_simp; try with_reducible rfl)) hHeld ?_
        simp only [List.setIfInBounds_toArray, List.set_cons_zero, List.set_cons_succ]
        refine take_at (i := 43) 120 rfl rfl (by kernel_rfl) (by kernel_rfl) (by kernel_rfl) (fun _ _ _ h => h) (sure_yes (by rfl) (fun w => by go_simp; try with_reducible rfl)) hHeld ?_
        simp only [List.setIfInBounds_toArray, List.set_cons_zero, List.set_cons_succ]
        refine take_at (i := 44) 121 rfl rfl (by kernel_rfl) (by kernel_rfl) (by kernel_rfl) (fun _ _ _ h => h) (sure_yes (by rfl) (fun w => by go_simp; try with_reducible rfl)) hHeld ?_
        simp only [List.setIfInBounds_toArray, List.set_cons_zero, List.set_cons_succ]
        refine take_at (i := 45) 6 rfl rfl (by kernel_rfl) (by kernel_rfl) (by kernel_rfl) (fun _ _ _ h => h) (sure_yes (by rfl) (fun w => by go_simp; try with_reducible rfl)) hHeld ?_
        simp only [List.setIfInBounds_toArray, List.set_cons_zero, List.set_cons_succ]
        refine wpAnyH_done (by kernel_rfl) ?_ _
        go_wp2
        go_ret
        exact ⟨rfl, below_next B6.out hHeld⟩
end Go.Proofs.YtoephjmjlhgjeaaDoor
