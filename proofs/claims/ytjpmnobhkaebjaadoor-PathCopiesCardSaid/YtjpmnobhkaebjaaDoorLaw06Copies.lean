/-
The walk of the statement on copies of users' paths.
-/
import Derived.Test.YtjpmnobhkaebjaaDoorLaw06Parents
import Derived.Test.YtjpmnobhkaebjaaDoorRef04Num
import Derived.Deep.DeepCutAuto
import Derived.Deep.MidRow
namespace Go.Proofs.YtjpmnobhkaebjaaDoor
open Go.RowKit
/-- The cells of two texts and two dots. -/
def twoC (a b : List UInt8) (r q r2 q2 : Int) : Array Value := #[.string (str a), .string (str b), .int .i64 r, .int .i64 q, .int .i64 r2, .int .i64 q2]
theorem two_at {w : World} {g : Nat} {t : TypeId} {a b : List UInt8} {r q r2 q2 : Int} (h : w.heap[g]? = some (.cells (twoC a b r q r2 q2) t (0, 0))) :
    w.cell? ⟨g, 0, none⟩ = some (.string (str a)) ∧ w.cell? ⟨g, 1, none⟩ = some (.string (str b)) ∧ w.rangeAt g 2 [.int .i64 r, .int .i64 q] ∧ w.rangeAt g 4 [.int .i64 r2, .int .i64 q2] := by
  refine ⟨by rw [cell_of_row w g 0 _ _ _ h]; rfl, by rw [cell_of_row w g 1 _ _ _ h]; rfl, fun j v hv => ?_, fun j v hv => ?_⟩
  · rw [cell_of_row w g _ _ _ _ h]
    match j, hv with
    | 0, hv => simpa [twoC] using hv
    | 1, hv => simpa [twoC] using hv
  · rw [cell_of_row w g _ _ _ _ h]
    match j, hv with
    | 0, hv => simpa [twoC] using hv
    | 1, hv => simpa [twoC] using hv
theorem dot_cells {w : World} {g : Nat} {t : TypeId} {r q : Int} (h : w.heap[g]? = some (.cells #[.int .i64 r, .int .i64 q] t (0, 0))) : w.cell? ⟨g, 0, none⟩ = some (.int .i64 r) ∧ w.cell? ⟨g, 1, none⟩ = some (.int .i64 q) := by
  exact ⟨by rw [cell_of_row w g 0 _ _ _ h]; rfl, by rw [cell_of_row w g 1 _ _ _ h]; rfl⟩
set_option maxRecDepth 100000 in
set_option maxHeartbeats 8000000 in
theorem pathCopies_walk (F : PathFace) (a b : List UInt8) (r q r2 q2 : Int) (ha : a.length < 1152921504606846) (hb : b.length < 1152921504606846) (hr : -9223372036854775808 ≤ r ∧ r < 9223372036854775808) (hq : -9223372036854775808 ≤ q ∧ q < 9223372036854775808)
    (hr2 : -9223372036854775808 ≤ r2 ∧ r2 < 9223372036854775808) (hq2 : -9223372036854775808 ≤ q2 ∧ q2 < 9223372036854775808) (w : World) (hT : PowTab w) :
    Calls Tryd.prog 6 #[.agg (twoC a b r q r2 q2)] w fun e w' => e = .returned (.bool true) ∧ Below w.heap.size w w' := by
  have HT := Lib.hid hT
  have AW := Lib.hid (fun w hT => awake6_any F w hT)
  have O1 := Lib.hid (fun w hT => F.own w a (by omega) hT)
  have O2 := Lib.hid (fun w hT => F.own w b (by omega) hT)
  have T0 := Lib.hid (heap_last w (.cells (twoC a b r q r2 q2) 43 (0, 0)))
  have B0 := Lib.hid ((Below.refl w.heap.size w).alloc (Nat.le_refl _) (.cells (twoC a b r q r2 q2) 43 (0, 0)))
  go_enter Tryd.func6, Tryd.ntmps6
  go_upto_region 6 with (first
    | (go_at_call 9; refine (AW.out _ (powTab_below HT.out B0.out)).mono ?_; rintro e w1 ⟨rfl, hb⟩; have T1 := Lib.hid ((hb.block w.heap.size (by simp)).trans T0.out); have B1 := Lib.hid (below_next B0.out hb); have g1 : w.heap.size < w1.heap.size := Nat.lt_of_lt_of_le (by simp) hb.size; obtain ⟨c0, c1, x2, x4⟩ := two_at T1.out; have X2 := Lib.hid x2; clear x2 x4 hb)
    | (refine wpList_load_mid rfl 35 (.tmp 19) rfl w.heap.size 2 rfl [.int .i64 r, .int .i64 q] _ X2.out Tryd.underlying35 rfl (by kernel_rfl) ?_)
    | (refine store_new rfl 35 (.tmp 6) (.tmp 20) rfl rfl w1 #[.int .i64 0, .int .i64 0] #[.int .i64 r, .int .i64 q] 35 rfl rfl rfl (by kernel_rfl) rfl (by simp [Value.oneCell']) ?_; intro w2 hh hb hs; have D2 := Lib.hid hh; have T2 := Lib.hid ((hb.block w.heap.size g1).trans T1.out); have B2 := Lib.hid (below_next B1.out hb); have g2 := hs; have X4 := Lib.hid (two_at T2.out).2.2.2; clear hh hb hs c0 c1)
    | (refine wpList_load_mid rfl 35 (.tmp 21) rfl w.heap.size 4 rfl [.int .i64 r2, .int .i64 q2] _ X4.out Tryd.underlying35 rfl (by kernel_rfl) ?_)
    | (refine store_new rfl 35 (.tmp 7) (.tmp 22) rfl rfl w2 #[.int .i64 0, .int .i64 0] #[.int .i64 r2, .int .i64 q2] 35 rfl rfl rfl (by kernel_rfl) rfl (by simp [Value.oneCell']) ?_; intro w3 hh hb hs; have G3 := Lib.hid hh; have D3 := Lib.hid ((hb.block w1.heap.size g2).trans D2.out); have B3 := Lib.hid (below_next B2.out hb); have g3 := hs; have g3' := Nat.lt_of_lt_of_le g2 hb.size; clear hh hb hs))
  cases hoa : ownP a with
  | false =>
    have O1' := Lib.hid (fun w hT => by have := O1.out w hT; rwa [hoa] at this)
    clear hoa
    go_wp2_with (first
    | (go_at_call 16; with_reducible refine (O1'.out _ (powTab_below HT.out B3.out)).mono ?_; rintro e w4 ⟨rfl, hb⟩; have B4 := Lib.hid (below_next B3.out hb); have D4 := Lib.hid ((hb.block w1.heap.size g3').trans D3.out); have G4 := Lib.hid ((hb.block w2.heap.size g3).trans G3.out); have g4 := Nat.lt_of_lt_of_le g3 hb.size; have g4' := Nat.lt_of_lt_of_le g3' hb.size; clear hb))
    go_ret
    exact ⟨rfl, B4.out⟩
  | true =>
    have O1' := Lib.hid (fun w hT => by have := O1.out w hT; rwa [hoa] at this)
    cases hob : ownP b with
    | false =>
      have O2' := Lib.hid (fun w hT => by have := O2.out w hT; rwa [hob] at this)
      clear hoa hob
      go_wp2_with (first
        | (go_at_call 16; with_reducible refine (O1'.out _ (powTab_below HT.out B3.out)).mono ?_; rintro e w4 ⟨rfl, hb⟩; have B4 := Lib.hid (below_next B3.out hb); have D4 := Lib.hid ((hb.block w1.heap.size g3').trans D3.out); have G4 := Lib.hid ((hb.block w2.heap.size g3).trans G3.out); have g4 := Nat.lt_of_lt_of_le g3 hb.size; have g4' := Nat.lt_of_lt_of_le g3' hb.size; clear hb)
        | (go_at_call 16; with_reducible refine (O2'.out _ (powTab_below HT.out B4.out)).mono ?_; rintro e w5 ⟨rfl, hb⟩; have B5 := Lib.hid (below_next B4.out hb); have D5 := Lib.hid ((hb.block w1.heap.size g4').trans D4.out); have G5 := Lib.hid ((hb.block w2.heap.size g4).trans G4.out); have g5 := Nat.lt_of_lt_of_le g4 hb.size; have g5' := Nat.lt_of_lt_of_le g4' hb.size; clear hb))
      go_ret
      exact ⟨rfl, B5.out⟩
    | true =>
      have O2' := Lib.hid (fun w hT => by have := O2.out w hT; rwa [hob] at this)
      have C1 := Lib.hid (fun w hT => F.copy w a r q (by omega) hr.1 hr.2 hq.1 hq.2 hT)
      have C2 := Lib.hid (fun w hT => F.copy w b r2 q2 (by omega) hr2.1 hr2.2 hq2.1 hq2.2 hT)
      have hlX : (copyL a r q).length < 1152921504606846976 := by
        have h1 := numL_length r hr.1 hr.2; have h2 := numL_length q hq.1 hq.2
        simp [copyL]; omega
      have S1 := Lib.hid (fun w => F.split w (copyL a r q) hlX)
      have O3 := Lib.hid (fun w hT => by have := F.own w (copyL a r q) hlX hT; rwa [copy_not_own] at this)
      have HCI := Lib.hid (copy_inj (r := r) (q := q) (r' := r2) (q' := q2) hoa hob)
      have HCM := Lib.hid (fun h0 h1 h2 h3 => copy_may (r := r) (q := q) hoa h0 h1 h2 h3)
      have HCL := Lib.hid (fun h => copy_long (r := r) (q := q) hoa h)
      have HAL := Lib.hid (splitA_len (copyL a r q))
      have HEZ := Lib.hid (splitErr_zero (copyL a r q))
      clear hr hq hr2 hq2 ha hb hlX
      go_upto_region 10 with (first
        | (go_at_call 16; with_reducible refine (O1'.out _ (powTab_below HT.out B3.out)).mono ?_; rintro e w4 ⟨rfl, hb⟩; have B4 := Lib.hid (below_next B3.out hb); have D4 := Lib.hid ((hb.block w1.heap.size g3').trans D3.out); have G4 := Lib.hid ((hb.block w2.heap.size g3).trans G3.out); have g4 := Nat.lt_of_lt_of_le g3 hb.size; have g4' := Nat.lt_of_lt_of_le g3' hb.size; clear hb)
        | (go_at_call 16; with_reducible refine (O2'.out _ (powTab_below HT.out B4.out)).mono ?_; rintro e w5 ⟨rfl, hb⟩; have B5 := Lib.hid (below_next B4.out hb); have D5 := Lib.hid ((hb.block w1.heap.size g4').trans D4.out); have G5 := Lib.hid ((hb.block w2.heap.size g4).trans G4.out); have g5 := Nat.lt_of_lt_of_le g4 hb.size; have g5' := Nat.lt_of_lt_of_le g4' hb.size; clear hb)
        | (refine wpList_load_row rfl 35 (.tmp 6) rfl w1.heap.size rfl 35 _ (0, 0) _ D5.out Tryd.underlying35 rfl (by kernel_rfl) ?_)
        | (go_at_call 23; with_reducible refine (C1.out _ (powTab_below HT.out B5.out)).mono ?_; rintro e w6 ⟨rfl, hb⟩; have B6 := Lib.hid (below_next B5.out hb); have D6 := Lib.hid ((hb.block w1.heap.size g5').trans D5.out); have G6 := Lib.hid ((hb.block w2.heap.size g5).trans G5.out); have g6 := Nat.lt_of_lt_of_le g5 hb.size; have g6' := Nat.lt_of_lt_of_le g5' hb.size; clear hb)
        | (refine wpList_load_row rfl 35 (.tmp 7) rfl w2.heap.size rfl 35 _ (0, 0) _ G6.out Tryd.underlying35 rfl (by kernel_rfl) ?_)
        | (go_at_call 23; with_reducible refine (C2.out _ (powTab_below HT.out B6.out)).mono ?_; rintro e w7 ⟨rfl, hb⟩; have B7 := Lib.hid (below_next B6.out hb); have D7 := Lib.hid ((hb.block w1.heap.size g6').trans D6.out); have G7 := Lib.hid ((hb.block w2.heap.size g6).trans G6.out); have g7 := Nat.lt_of_lt_of_le g6 hb.size; have g7' := Nat.lt_of_lt_of_le g6' hb.size; clear hb))
      obtain ⟨SM, hSM⟩ : ∃ SM : Bool, SM = (decide (0 ≤ r) && (decide (r < 32) && (decide (1 ≤ q) && decide (q ≤ 1099511627776)))) := ⟨_, rfl⟩
      have HSM := Lib.hid hSM
      clear hSM
      go_cut [10] (fun s10 wx => s10 = .bool SM ∧ wx = w7)
      case first =>
        rename_i JJ KK hJJ hKK
        have HJJ := Lib.hid hJJ
        have HKK := Lib.hid hKK
        clear hJJ hKK
        obtain ⟨k0, k1⟩ := dot_cells D7.out
        go_wp2_with fail
        all_goals
          refine HKK.out _ _ ?_
          have hJJ := HJJ.out
          go_meet
          exact ⟨congrArg Value.bool (by rw [HSM.out, Bool.eq_iff_iff]; simp only [Bool.and_eq_true, decide_eq_true_eq, Bool.false_eq_true, false_iff]; omega), rfl⟩
      case rest =>
        obtain ⟨rfl, rfl⟩ := hcut
        obtain ⟨X, hX⟩ : ∃ X, copyL a r q = X := ⟨_, rfl⟩
        obtain ⟨Y, hY⟩ : ∃ Y, copyL b r2 q2 = Y := ⟨_, rfl⟩
        rw [hX] at S1 O3 HCI HCM HCL HAL HEZ
        rw [hY] at HCI
        rw [hX, hY]
        have hxl : (str X).toList = X := str_toList X
        have hyl : (str Y).toList = Y := str_toList Y
        have hal : (str a).toList = a := str_toList a
        have hbl : (str b).toList = b := str_toList b
        obtain ⟨n, hn⟩ : ∃ n, n = X.length := ⟨_, rfl⟩
        obtain ⟨m, hm⟩ : ∃ m, m = (splitA X).length := ⟨_, rfl⟩
        have hxz : (str X).size = n := by rw [str_size, hn]
        have haz : (str (splitA X)).size = m := by rw [str_size, hm]
        have hml : decide ((m : Int) ≤ 155) = true := decide_eq_true (by have := HAL.out; omega)
        have HLEN := Lib.hid (And.intro hn hm)
        have HXY := Lib.hid (show (X == Y) = (a == b && (r == r2 && q == q2)) by
          rw [Bool.eq_iff_iff, beq_iff_eq, HCI.out]; simp)
        clear hX hY hn hm
        have part : ∀ Q : Prop, (SM = true → splitErr X = 0 → decide ((n : Int) ≤ 217) = true → Q) → (SM = false → splitErr X = 0 → Q) → (SM = false → (splitErr X == 0) = false → decide ((100 : Int) < (n : Int)) = true → Q) → Q := fun Q c1 c2 c3 => by
          have hL := HLEN.out.1
          cases hs : SM with
          | true =>
            have h := HSM.out
            rw [hs] at h
            simp only [Bool.true_eq, Bool.and_eq_true, decide_eq_true_eq] at h
            obtain ⟨k1, k2⟩ := HCM.out h.1 h.2.1 h.2.2.1 h.2.2.2
            exact c1 hs (by have := HEZ.out; rw [k2] at this; exact beq_iff_eq.1 this) (decide_eq_true (by omega))
          | false =>
            by_cases h0 : splitErr X = 0
            · exact c2 hs h0
            · have h1 : (splitErr X == 0) = false := beq_eq_false_iff_ne.2 h0
              have h2 := HCL.out (by rw [← HEZ.out]; exact h1)
              exact c3 hs h1 (decide_eq_true (by omega))
        have HPT := Lib.hid part
        clear part HCM HCL HEZ HCI HAL
        cases hab : (a == b) with
        | false =>
          have hxy := HXY.out
          rw [hab, Bool.false_and] at hxy
          refine HPT.out _ (fun y1 y2 d1 => ?_) (fun y1 y2 => ?_) (fun y1 y2 d1 => ?_)
          all_goals
            subst y1
            try rw [y2] at S1
            clear HPT HSM
            go_wp2_with (first
              | (go_at_call 10; refine (S1.out _).mono ?_; rintro e w8 ⟨rfl, hb⟩; have B8 := Lib.hid (below_next B7.out hb); have D8 := Lib.hid ((hb.block w1.heap.size g7').trans D7.out); have G8 := Lib.hid ((hb.block w2.heap.size g7).trans G7.out); have g8 := Nat.lt_of_lt_of_le g7 hb.size; have g8' := Nat.lt_of_lt_of_le g7' hb.size; clear hb)
              | (go_at_call 16; with_reducible refine (O3.out _ (powTab_below HT.out B8.out)).mono ?_; rintro e w9 ⟨rfl, hb⟩; have B9 := Lib.hid (below_next B8.out hb); have D9 := Lib.hid ((hb.block w1.heap.size g8').trans D8.out); have G9 := Lib.hid ((hb.block w2.heap.size g8).trans G8.out); clear hb)
              | (refine load_row_on (by rfl) 35 (.tmp 6) rfl w1.heap.size rfl 35 _ (0, 0) _ D9.out Tryd.underlying35 rfl (by kernel_rfl) ?_)
              | (refine load_row_on (by rfl) 35 (.tmp 7) rfl w2.heap.size rfl 35 _ (0, 0) _ G9.out Tryd.underlying35 rfl (by kernel_rfl) ?_))
            go_ret
            exact ⟨rfl, B9.out⟩
        | true =>
          have hxy := HXY.out
          rw [hab, Bool.true_and] at hxy
          obtain ⟨dr, hdr⟩ : ∃ dr : Bool, (r == r2) = dr := ⟨_, rfl⟩
          obtain ⟨dq, hdq⟩ : ∃ dq : Bool, (q == q2) = dq := ⟨_, rfl⟩
          rw [hdr, hdq] at hxy
          cases dr <;> cases dq <;> simp only [Bool.and_true, Bool.and_false] at hxy
          all_goals
            refine HPT.out _ (fun y1 y2 d1 => ?_) (fun y1 y2 => ?_) (fun y1 y2 d1 => ?_)
          all_goals
            subst y1
            try rw [y2] at S1
            clear HPT HSM
            go_wp2_with (first
              | (go_at_call 10; refine (S1.out _).mono ?_; rintro e w8 ⟨rfl, hb⟩; have B8 := Lib.hid (below_next B7.out hb); have D8 := Lib.hid ((hb.block w1.heap.size g7').trans D7.out); have G8 := Lib.hid ((hb.block w2.heap.size g7).trans G7.out); have g8 := Nat.lt_of_lt_of_le g7 hb.size; have g8' := Nat.lt_of_lt_of_le g7' hb.size; clear hb)
              | (go_at_call 16; with_reducible refine (O3.out _ (powTab_below HT.out B8.out)).mono ?_; rintro e w9 ⟨rfl, hb⟩; have B9 := Lib.hid (below_next B8.out hb); have D9 := Lib.hid ((hb.block w1.heap.size g8').trans D8.out); have G9 := Lib.hid ((hb.block w2.heap.size g8).trans G8.out); clear hb)
              | (refine load_row_on (by rfl) 35 (.tmp 6) rfl w1.heap.size rfl 35 _ (0, 0) _ D9.out Tryd.underlying35 rfl (by kernel_rfl) ?_)
              | (refine load_row_on (by rfl) 35 (.tmp 7) rfl w2.heap.size rfl 35 _ (0, 0) _ G9.out Tryd.underlying35 rfl (by kernel_rfl) ?_))
            go_ret
            exact ⟨rfl, B9.out⟩
end Go.Proofs.YtjpmnobhkaebjaaDoor
