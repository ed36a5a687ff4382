/-
What package path owes, walked over the landed code.
-/
import Derived.Test.YtjpmnobhkaebjaaDoorPathSplit
import Derived.Test.YtjpmnobhkaebjaaDoorHexaNumber
import Derived.Test.YtjpmnobhkaebjaaDoorPathParents
import Derived.Test.YtjpmnobhkaebjaaDoorRef06Copy
namespace Go.Proofs.YtjpmnobhkaebjaaDoor
open Go.RowKit
theorem may_any (s : List UInt8) (hs : s.length < 4611686018427387904) (w : World) : Calls Tryd.prog 14 #[.string (str s)] w fun e w' => e = .returned (.bool (mayP s)) ∧ Below w.heap.size w w' := by
  have HP := Lib.hid (fun w => split_any s hs w)
  have HZ := Lib.hid (splitErr_zero s)
  obtain ⟨z, hz⟩ : ∃ z, z = splitErr s := ⟨_, rfl⟩
  rw [← hz] at HP HZ
  clear hz hs
  go_enter Tryd.func14, Tryd.ntmps14
  go_wp2_with (first | (go_at_call 10; refine (HP.out _).mono ?_; rintro e w1 ⟨rfl, hb⟩; have HB := Lib.hid hb; clear hb))
  go_ret
  exact ⟨by rw [← HZ.out]; rfl, HB.out⟩
set_option maxHeartbeats 4000000 in
theorem join_any (p n : List UInt8) (hp : p.length < 1152921504606846976) (hn : n.length < 1152921504606846976) (w : World) : Calls Tryd.prog 12 #[.string (str p), .string (str n)] w fun e w' => e = .returned (.tuple #[.string (str (joinT p n)), .int .i64 (joinErr p n)]) ∧ Below w.heap.size w w' := by
  have hlp : (str p).toList = p := str_toList p
  have hln : (str n).toList = n := str_toList n
  obtain ⟨s, hs⟩ : ∃ s, s = joinS p n := ⟨_, rfl⟩
  have hsl : s.length < 4611686018427387904 := by
    rw [hs, joinS]; split
    · omega
    · rw [List.length_append, List.length_cons]; omega
  have HS := Lib.hid (split_any s hsl)
  have hla : (str (splitA s)).toList = splitA s := str_toList _
  have hlb : (str (splitB s)).toList = splitB s := str_toList _
  have HJ : joinOk p n = ((splitErr s == 0) && (splitA s == p && splitB s == n)) := by
    rw [joinOk, ← hs]
    cases hr : splitR s with
    | none => simp [splitErr, hr]
    | some x => obtain ⟨a, b⟩ := x; rw [Bool.eq_iff_iff]; simp [splitErr, splitA, splitB, hr]
  have HJT := Lib.hid (show joinOk p n = true → joinT p n = s ∧ joinErr p n = 0 from fun h => by rw [joinT, joinErr, if_pos h, if_pos h, hs]; exact ⟨rfl, rfl⟩)
  have HJF := Lib.hid (show joinOk p n = false → joinT p n = [] ∧ joinErr p n = 9 from fun h => by rw [joinT, joinErr, h]; exact ⟨rfl, rfl⟩)
  have HJJ := Lib.hid HJ
  clear HJ hsl
  generalize splitErr s = E at *
  generalize splitA s = A at *
  generalize splitB s = B at *
  have HSS := Lib.hid hs
  have part : ∀ Q : Prop, ((A == p) = true → (B == n) = true → E = 0 → joinOk p n = true → Q) → (E = 0 → (A == p) = true → (B == n) = false → joinOk p n = false → Q) → (E = 0 → (A == p) = false → joinOk p n = false → Q) → (¬ E = 0 → joinOk p n = false → Q) → Q := fun Q c1 c2 c3 c4 => by
    have hj := HJJ.out
    by_cases h0 : E = 0
    · subst h0
      cases h1 : (A == p) with
      | true =>
        cases h2 : (B == n) with
        | true => exact c1 h1 h2 rfl (by rw [hj, h1, h2]; rfl)
        | false => exact c2 rfl h1 h2 (by rw [hj, h1, h2]; rfl)
      | false => exact c3 rfl h1 (by rw [hj, h1]; rfl)
    · exact c4 h0 (by rw [hj, show (E == 0) = false from beq_eq_false_iff_ne.2 h0]; rfl)
  have HPT := Lib.hid part
  clear part
  by_cases hp0 : p = []
  · have e1 : (p == []) = true := by rw [beq_iff_eq]; exact hp0
    have e2 : s = n := by rw [HSS.out, joinS, if_pos hp0]
    have HE := Lib.hid e2
    clear hs hp hn e2
    have HS' := Lib.hid (fun w => by have := HS.out w; rwa [HE.out] at this)
    clear hp0
    refine HPT.out _ (fun t1 t2 t3 t4 => ?_) (fun t1 t2 t3 t4 => ?_) (fun t1 t2 t4 => ?_) (fun t1 t4 => ?_)
    · have HR := Lib.hid (HJT.out t4)
      subst t3
      clear t4
      go_enter Tryd.func12, Tryd.ntmps12
      go_wp2_with (first | (go_at_call 10; refine (HS'.out _).mono ?_; rintro e w1 ⟨rfl, hb⟩; have H1 := Lib.hid hb; clear hb))
      go_ret2
      exact ⟨by rw [HR.out.1, HR.out.2, HE.out]; try rfl, H1.out⟩
    all_goals
      have HR := Lib.hid (HJF.out t4)
      clear t4
      try subst t1
      go_enter Tryd.func12, Tryd.ntmps12
      go_wp2_with (first | (go_at_call 10; refine (HS'.out _).mono ?_; rintro e w1 ⟨rfl, hb⟩; have H1 := Lib.hid hb; clear hb))
      go_ret2
      exact ⟨by rw [HR.out.1, HR.out.2]; try rfl, H1.out⟩
  · have e1 : (p == []) = false := by rw [beq_eq_false_iff_ne]; exact hp0
    obtain ⟨q, hq⟩ : ∃ q, q = p ++ [47] := ⟨_, rfl⟩
    have a1 : ∀ w, (Op.stringOp .add (str p) ⟨#[47]⟩).run Tryd.prog w = .ok (.string (str q)) w := fun w => by rw [hq]; exact add_str p [47] (by simp; omega) w
    have a2 : ∀ w, (Op.stringOp .add (str q) (str n)).run Tryd.prog w = .ok (.string (str s)) w := fun w => by
      have := add_str (P := Tryd.prog) q n (by rw [hq]; simp; omega) w
      rw [this, HSS.out, joinS, if_neg hp0, hq]; simp
    clear hs hp hn hq hp0
    refine HPT.out _ (fun t1 t2 t3 t4 => ?_) (fun t1 t2 t3 t4 => ?_) (fun t1 t2 t4 => ?_) (fun t1 t4 => ?_)
    · have HR := Lib.hid (HJT.out t4)
      subst t3
      clear t4
      go_enter Tryd.func12, Tryd.ntmps12
      go_wp2_with (first | (go_at_call 10; refine (HS.out _).mono ?_; rintro e w1 ⟨rfl, hb⟩; have H1 := Lib.hid hb; clear hb))
      go_ret2
      exact ⟨by rw [HR.out.1, HR.out.2]; try rfl, H1.out⟩
    all_goals
      have HR := Lib.hid (HJF.out t4)
      clear t4
      try subst t1
      go_enter Tryd.func12, Tryd.ntmps12
      go_wp2_with (first | (go_at_call 10; refine (HS.out _).mono ?_; rintro e w1 ⟨rfl, hb⟩; have H1 := Lib.hid hb; clear hb))
      go_ret2
      exact ⟨by rw [HR.out.1, HR.out.2]; try rfl, H1.out⟩
set_option maxHeartbeats 4000000 in
theorem copy_any (s : List UInt8) (r q : Int) (hs : s.length < 1152921504606846976) (hr : -9223372036854775808 ≤ r ∧ r < 9223372036854775808) (hq : -9223372036854775808 ≤ q ∧ q < 9223372036854775808) (w : World) (hT : PowTab w) :
    Calls Tryd.prog 23 #[.string (str s), .agg #[.int .i64 r, .int .i64 q]] w fun e w' => e = .returned (.string (str (copyL s r q))) ∧ Below w.heap.size w w' := by
  have HT := Lib.hid hT
  have N1 := Lib.hid (fun w => number_any w r hr.1 hr.2)
  have N2 := Lib.hid (fun w => number_any w q hq.1 hq.2)
  have HL := Lib.hid (And.intro hs (And.intro (numL_length r hr.1 hr.2) (numL_length q hq.1 hq.2)))
  obtain ⟨R, hR⟩ : ∃ R, numL r = R := ⟨_, rfl⟩
  obtain ⟨Q, hQ⟩ : ∃ Q, numL q = Q := ⟨_, rfl⟩
  obtain ⟨A1, hA1⟩ : ∃ A1, s ++ [126] = A1 := ⟨_, rfl⟩
  obtain ⟨A2, hA2⟩ : ∃ A2, A1 ++ R = A2 := ⟨_, rfl⟩
  obtain ⟨A3, hA3⟩ : ∃ A3, A2 ++ [45] = A3 := ⟨_, rfl⟩
  obtain ⟨A4, hA4⟩ : ∃ A4, A3 ++ Q = A4 := ⟨_, rfl⟩
  have HE := Lib.hid (show A4 = copyL s r q by rw [← hA4, ← hA3, ← hA2, ← hA1, ← hR, ← hQ]; simp [copyL])
  have hA := Lib.hid (And.intro hA1 (And.intro hA2 (And.intro hA3 hA4)))
  rw [hR] at N1 HL
  rw [hQ] at N2 HL
  have c0 : (w.alloc (.cells #[.int .i64 r, .int .i64 q] 35 (0, 0))).cell? ⟨w.heap.size, 0, none⟩ = some (.int .i64 r) := by rw [cell_of_row _ _ 0 _ _ _ (heap_last w _)]; rfl
  have c1 : (w.alloc (.cells #[.int .i64 r, .int .i64 q] 35 (0, 0))).cell? ⟨w.heap.size, 1, none⟩ = some (.int .i64 q) := by rw [cell_of_row _ _ 1 _ _ _ (heap_last w _)]; rfl
  have B0 := Lib.hid ((Below.refl w.heap.size w).alloc (Nat.le_refl _) (.cells #[.int .i64 r, .int .i64 q] 35 (0, 0)))
  clear hT hs hr hq hR hQ hA1 hA2 hA3 hA4
  go_enter Tryd.func23, Tryd.ntmps23
  go_wp2
  refine wp_region_held_drew (S := fun w' => Below (w.alloc (.cells #[.int .i64 r, .int .i64 q] 35 (0, 0))).heap.size (w.alloc (.cells #[.int .i64 r, .int .i64 q] 35 (0, 0))) w') (by kernel_rfl) (below_draws (Below.refl _ _) 1) (fun hHeld => ?_)
  generalize (w.alloc (.cells #[.int .i64 r, .int .i64 q] 35 (0, 0))).drew = wd at hHeld ⊢
  refine take_at (i := 0) 5 rfl rfl (by kernel_rfl) (by kernel_rfl) (by kernel_rfl) (fun _ _ _ h => h) (sure_yes (by rfl) (fun w => by go_simp; try with_reducible rfl)) hHeld ?_
  simp only [List.setIfInBounds_toArray, List.set_cons_zero, List.set_cons_succ]
  refine take_at (i := 1) 6 rfl rfl (by kernel_rfl) (by kernel_rfl) (by kernel_rfl) (fun _ _ _ h => h) (sure_yes (by rfl) (add_as (l := s) (m := [126]) rfl rfl rfl (by have h1 := HL.out.1; have h2 := HL.out.2.1; have h3 := HL.out.2.2; have e1 := congrArg List.length hA.out.1; have e2 := congrArg List.length hA.out.2.1; have e3 := congrArg List.length hA.out.2.2.1; simp at e1 e2 e3 ⊢; omega) hA.out.1)) hHeld ?_
  simp only [List.setIfInBounds_toArray, List.set_cons_zero, List.set_cons_succ]
  refine take_at (i := 2) 7 rfl rfl (by kernel_rfl) (by kernel_rfl) (by kernel_rfl) (fun _ _ _ h => h) (sure_yes (by rfl) (fun w => by go_simp; try with_reducible rfl)) hHeld ?_
  simp only [List.setIfInBounds_toArray, List.set_cons_zero, List.set_cons_succ]
  refine take_at (i := 7) 12 rfl rfl (by kernel_rfl) (by kernel_rfl) (by kernel_rfl) (fun _ _ _ h => h) (sure_yes (by rfl) (fun w => by go_simp; try with_reducible rfl)) hHeld ?_
  simp only [List.setIfInBounds_toArray, List.set_cons_zero, List.set_cons_succ]
  refine take_at (i := 3) 8 rfl rfl (by kernel_rfl) (by kernel_rfl) (by kernel_rfl) (fun _ _ _ h => h) (cell_yields (by rfl) 3 (.tmp 7) rfl w.heap.size 0 rfl .i64 r Tryd.underlying3 (fun w' h => (cell_same (h.block w.heap.size (by simp)) 0).trans c0)) hHeld ?_
  simp only [List.setIfInBounds_toArray, List.set_cons_zero, List.set_cons_succ]
  refine take_at (i := 8) 13 rfl rfl (by kernel_rfl) (by kernel_rfl) (by kernel_rfl) (fun _ _ _ h => h) (cell_yields (by rfl) 2 (.tmp 12) rfl w.heap.size 1 rfl .i64 q Tryd.underlying2 (fun w' h => (cell_same (h.block w.heap.size (by simp)) 1).trans c1)) hHeld ?_
  simp only [List.setIfInBounds_toArray, List.set_cons_zero, List.set_cons_succ]
  refine wpAnyH_ready (rs := [4]) (by kernel_rfl) (by simp) ?_
  refine AllReadyH.cons rfl (fun K hK => ?_) AllReadyH.nil
  go_simp
  go_at_call 30
  refine (N1.out _ (powTab_below HT.out (below_next B0.out hHeld))).mono ?_
  rintro e w2 ⟨rfl, hb⟩
  dsimp only
  refine hK.out _ _ (below_next hHeld hb) (fun hHeld => ?_)
  clear hK K hb
  refine take_at (i := 5) 10 rfl rfl (by kernel_rfl) (by kernel_rfl) (by kernel_rfl) (fun _ _ _ h => h) (sure_yes (by rfl) (add_as (l := A1) (m := R) rfl rfl rfl (by have h1 := HL.out.1; have h2 := HL.out.2.1; have h3 := HL.out.2.2; have e1 := congrArg List.length hA.out.1; have e2 := congrArg List.length hA.out.2.1; have e3 := congrArg List.length hA.out.2.2.1; simp at e1 e2 e3 ⊢; omega) hA.out.2.1)) hHeld ?_
  simp only [List.setIfInBounds_toArray, List.set_cons_zero, List.set_cons_succ]
  refine take_at (i := 6) 11 rfl rfl (by kernel_rfl) (by kernel_rfl) (by kernel_rfl) (fun _ _ _ h => h) (sure_yes (by rfl) (add_as (l := A2) (m := [45]) rfl rfl rfl (by have h1 := HL.out.1; have h2 := HL.out.2.1; have h3 := HL.out.2.2; have e1 := congrArg List.length hA.out.1; have e2 := congrArg List.length hA.out.2.1; have e3 := congrArg List.length hA.out.2.2.1; simp at e1 e2 e3 ⊢; omega) hA.out.2.2.1)) hHeld ?_
  simp only [List.setIfInBounds_toArray, List.set_cons_zero, List.set_cons_succ]
  refine wpAnyH_ready (rs := [9]) (by kernel_rfl) (by simp) ?_
  refine AllReadyH.cons rfl (fun K hK => ?_) AllReadyH.nil
  go_simp
  go_at_call 30
  refine (N2.out _ (powTab_below HT.out (below_next B0.out hHeld))).mono ?_
  rintro e w2 ⟨rfl, hb⟩
  dsimp only
  refine hK.out _ _ (below_next hHeld hb) (fun hHeld => ?_)
  clear hK K hb
  refine take_at (i := 10) 15 rfl rfl (by kernel_rfl) (by kernel_rfl) (by kernel_rfl) (fun _ _ _ h => h) (sure_yes (by rfl) (add_as (l := A3) (m := Q) rfl rfl rfl (by have h1 := HL.out.1; have h2 := HL.out.2.1; have h3 := HL.out.2.2; have e1 := congrArg List.length hA.out.1; have e2 := congrArg List.length hA.out.2.1; have e3 := congrArg List.length hA.out.2.2.1; simp at e1 e2 e3 ⊢; omega) hA.out.2.2.2)) hHeld ?_
  simp only [List.setIfInBounds_toArray, List.set_cons_zero, List.set_cons_succ]
  refine take_at (i := 11) 4 rfl rfl (by kernel_rfl) (by kernel_rfl) (by kernel_rfl) (fun _ _ _ h => h) (sure_yes (by rfl) (fun w => by go_simp; try with_reducible rfl)) hHeld ?_
  simp only [List.setIfInBounds_toArray, List.set_cons_zero, List.set_cons_succ]
  refine wpAnyH_done (by kernel_rfl) ?_ _
  go_wp2
  go_ret
  exact ⟨by rw [← HE.out]; rfl, below_next B0.out hHeld⟩
theorem prefix_of (s d : List UInt8) : Lib.hasPrefix s d = (s.take d.length == d) := by
  rw [Lib.hasPrefix, Bool.eq_iff_iff, List.isPrefixOf_iff_prefix, beq_iff_eq, List.prefix_iff_eq_take]
  exact eq_comm
set_option maxHeartbeats 4000000 in
theorem under_any (s d : List UInt8) (w : World) : Calls Tryd.prog 18 #[.string (str s), .string (str d)] w fun e w' => e = .returned (.bool (underP s d)) ∧ Below w.heap.size w w' := by
  obtain ⟨r, hr⟩ : ∃ r, r = Lib.trimPrefix s d := ⟨_, rfl⟩
  have HC := Lib.hid (show ∀ w, Calls Tryd.prog 29 #[.string (str s), .string (str d)] w fun e w' => e = .returned (.tuple #[.string (str r), .bool (Lib.hasPrefix s d)]) ∧ w = w' from fun w => by
    refine (Tryd.strings_CutPrefix (str s) (str d) w).mono fun e w' h => ?_
    rw [show (str s).data.toList = s from by simp [str], show (str d).data.toList = d from by simp [str], ← hr] at h
    exact ⟨h.1, h.2.symm⟩)
  rw [prefix_of] at HC
  have hr' : r = if (s.take d.length == d) = true then s.drop d.length else s := by rw [hr, Lib.trimPrefix, prefix_of]
  obtain ⟨m, hm⟩ : ∃ m, m = r.length := ⟨_, rfl⟩
  have hsz : (str r).size = m := by rw [str_size, hm]
  cases hp : (s.take d.length == d) with
  | false =>
    have HU := Lib.hid (show underP s d = false by rw [underP, hp]; simp)
    rw [hp] at HC
    clear hr' hr hm hp
    go_enter Tryd.func18, Tryd.ntmps18
    go_wp2_with (first | (go_at_call 29; refine (HC.out _).mono ?_; rintro e w1 ⟨rfl, rfl⟩))
    go_ret
    exact ⟨by rw [HU.out]; rfl, Below.refl _ _⟩
  | true =>
    rw [hp] at HC hr'
    rw [if_pos rfl] at hr'
    have hml : m = s.length - d.length := by rw [hm, hr', List.length_drop]
    have HU := Lib.hid (show underP s d = (decide (1 < m) && s.getD d.length 0 == 47) by
      rw [underP, hp, Bool.true_and]
      congr 1
      rw [Bool.eq_iff_iff, decide_eq_true_eq, decide_eq_true_eq]; omega)
    by_cases h1 : 1 < m
    · obtain ⟨c, hc⟩ : ∃ c, r[0]? = some c := ⟨r[0]'(by omega), List.getElem?_eq_getElem _⟩
      have i1 : ∀ w, (Instr.index 9 (.string (str r)) (.int .i64 0)).run Tryd.prog w = .ok (.int .u8 (c.toNat : Int)) w := fun w => index_str (P := Tryd.prog) w r .i64 0 c hc Tryd.underlying9
      obtain ⟨x, hx⟩ : ∃ x : Nat, x = c.toNat := ⟨_, rfl⟩
      have HU2 := Lib.hid (show underP s d = ((x : Int) == 47) by
        rw [HU.out, decide_eq_true h1, Bool.true_and]
        rw [hr', List.getElem?_drop, Nat.add_zero] at hc
        rw [List.getD_eq_getElem?_getD, hc, hx, Bool.eq_iff_iff, beq_iff_eq, beq_iff_eq]
        simp only [Option.getD_some]
        constructor
        · intro e; rw [e]; rfl
        · intro e; exact UInt8.toNat_inj.1 (show c.toNat = 47 by omega))
      rw [← hx] at i1
      have d1 : decide ((m : Int) > 1) = true := decide_eq_true (by omega)
      clear hr' hr hm hp hml h1 hc hx
      go_enter Tryd.func18, Tryd.ntmps18
      go_wp2_with (first | (go_at_call 29; refine (HC.out _).mono ?_; rintro e w1 ⟨rfl, rfl⟩))
      go_ret
      exact ⟨by rw [HU2.out]; rfl, Below.refl _ _⟩
    · have HU2 := Lib.hid (show underP s d = false by rw [HU.out, decide_eq_false h1]; rfl)
      have d1 : decide ((m : Int) > 1) = false := decide_eq_false (by omega)
      clear hr' hr hm hp hml h1
      go_enter Tryd.func18, Tryd.ntmps18
      go_wp2_with (first | (go_at_call 29; refine (HC.out _).mono ?_; rintro e w1 ⟨rfl, rfl⟩))
      go_ret
      exact ⟨by rw [HU2.out]; rfl, Below.refl _ _⟩
theorem row_below {g : Nat} {A B : World} {o : Obj} (h : A.heap[g]? = some o) (hb : Below A.heap.size A B) : B.heap[g]? = some o := (hb.block g (Array.getElem?_eq_some_iff.1 h).1).trans h
theorem built_own : Tryd.prog.built 35 [(0, .int .i64 31), (1, .int .i64 1099511627776)] = some #[.int .i64 31, .int .i64 1099511627776] := by kernel_rfl
theorem copy_longest (s : List UInt8) : copyL s 31 1099511627776 = s ++ tail31 := by
  rw [copyL, show (126 : UInt8) :: (numL 31 ++ 45 :: numL 1099511627776) = tail31 by decide +kernel]
theorem has_tilde (s : List UInt8) : decide (0 ≤ Lib.indexByte (str s).data.toList 126) = s.contains 126 := by
  rw [show (str s).data.toList = s from by simp [str]]
  have hge := Lib.indexByte_ge s 126
  rw [Bool.eq_iff_iff, decide_eq_true_eq, List.contains_iff_mem]
  constructor
  · intro h
    obtain ⟨o, ho⟩ : ∃ o : Nat, Lib.indexByte s 126 = (o : Int) := ⟨(Lib.indexByte s 126).toNat, by omega⟩
    exact List.mem_of_getElem? (Lib.indexByte_some ho).1
  · intro hm
    rcases Int.lt_or_le (Lib.indexByte s 126) 0 with h | h
    · obtain ⟨k, hk, e⟩ := List.mem_iff_getElem.1 hm
      exact absurd (by rw [List.getElem?_eq_getElem hk, e]) (Lib.indexByte_none (show Lib.indexByte s 126 = -1 by omega) k)
    · exact h
set_option maxHeartbeats 4000000 in
theorem own_any (s : List UInt8) (hs : s.length < 1152921504606846976) (w : World) (hT : PowTab w) : Calls Tryd.prog 16 #[.string (str s)] w fun e w' => e = .returned (.bool (ownP s)) ∧ Below w.heap.size w w' := by
  have HT := Lib.hid hT
  obtain ⟨n, hn⟩ : ∃ n, n = s.length := ⟨_, rfl⟩
  have HN := Lib.hid hn
  have hsz : (str s).size = n := by rw [str_size, hn]
  have M1 := Lib.hid (fun w => may_any s (Nat.lt_trans hs (by decide)) w)
  have HC := Lib.hid (fun w hT => copy_any s 31 1099511627776 hs (by decide) (by decide) w hT)
  have M2 := Lib.hid (fun w => may_any (s ++ tail31) (by rw [List.length_append, show tail31.length = 17 from rfl]; omega) w)
  have HP := Lib.hid (show ownP s = (!s.contains 126 && (mayP s && (decide (n ≤ 200) && mayP (s ++ tail31)))) by rw [ownP, hn])
  have HL := Lib.hid (copy_longest s)
  have HK := Lib.hid (show ∀ w, Calls Tryd.prog 28 #[.string (str s), .string ⟨#[126]⟩] w fun e w' => e = .returned (.bool (s.contains 126)) ∧ w = w' from fun w => by
    refine (Tryd.strings_Contains_one (str s) 126 w).mono fun e w' h => ?_
    rw [has_tilde] at h; exact ⟨h.1, h.2.symm⟩)
  generalize s.contains 126 = k at HP HK
  generalize mayP s = m at HP M1
  generalize s ++ tail31 = u at HP M2 HL
  generalize mayP u = z at HP M2
  have B0 := Lib.hid ((Below.refl w.heap.size w).alloc (Nat.le_refl _) (.cells #[.int .i64 31, .int .i64 1099511627776] 35 (0, 0)))
  have HW := Lib.hid (heap_last w (.cells #[.int .i64 31, .int .i64 1099511627776] 35 (0, 0)))
  rw [HL.out] at HC
  have q : decide ((n : Int) ≤ 200) = decide (n ≤ 200) := by rw [Bool.eq_iff_iff, decide_eq_true_eq, decide_eq_true_eq]; omega
  clear hn hs hT HL HN
  generalize decide (n ≤ 200) = b at HP q
  cases b with
  | false =>
    replace HP := Lib.hid (show ownP s = false by rw [HP.out]; cases k <;> cases m <;> rfl)
    go_enter Tryd.func16, Tryd.ntmps16
    go_wp2_with (first
      | (refine build_on (by rfl) 35 #[(0, .const (.int .i64 31)), (1, .const (.int .i64 1099511627776))] rfl _ _ built_own (by simp [Act.eval]) ?_))
    go_ret
    exact ⟨by rw [HP.out]; try rfl, B0.out⟩
  | true =>
    cases k with
    | true =>
      replace HP := Lib.hid (show ownP s = false by rw [HP.out]; rfl)
      go_enter Tryd.func16, Tryd.ntmps16
      go_wp2_with (first
        | (refine build_on (by rfl) 35 #[(0, .const (.int .i64 31)), (1, .const (.int .i64 1099511627776))] rfl _ _ built_own (by simp [Act.eval]) ?_)
        | (go_at_call 28; refine (HK.out _).mono ?_; rintro e w' ⟨rfl, rfl⟩))
      go_ret
      exact ⟨by rw [HP.out]; try rfl, B0.out⟩
    | false =>
      cases m with
      | false =>
        replace HP := Lib.hid (show ownP s = false by rw [HP.out]; rfl)
        go_enter Tryd.func16, Tryd.ntmps16
        go_wp2_with (first
          | (refine build_on (by rfl) 35 #[(0, .const (.int .i64 31)), (1, .const (.int .i64 1099511627776))] rfl _ _ built_own (by simp [Act.eval]) ?_)
          | (go_at_call 28; refine (HK.out _).mono ?_; rintro e w' ⟨rfl, rfl⟩)
          | (go_at_call 14; with_reducible refine (M1.out (w.alloc (.cells #[.int .i64 31, .int .i64 1099511627776] 35 (0, 0)))).mono ?_; rintro e w1 ⟨rfl, hb⟩; have H1 := Lib.hid hb; have G1 := Lib.hid (row_below HW.out hb); clear hb))
        go_ret
        exact ⟨by rw [HP.out]; try rfl, below_next B0.out H1.out⟩
      | true =>
        replace HP := Lib.hid (show ownP s = z by rw [HP.out]; rfl)
        go_enter Tryd.func16, Tryd.ntmps16
        go_wp2_with (first
          | (refine build_on (by rfl) 35 #[(0, .const (.int .i64 31)), (1, .const (.int .i64 1099511627776))] rfl _ _ built_own (by simp [Act.eval]) ?_)
          | (go_at_call 28; refine (HK.out _).mono ?_; rintro e w' ⟨rfl, rfl⟩)
          | (go_at_call 14; with_reducible refine (M1.out (w.alloc (.cells #[.int .i64 31, .int .i64 1099511627776] 35 (0, 0)))).mono ?_; rintro e w1 ⟨rfl, hb⟩; have H1 := Lib.hid hb; have G1 := Lib.hid (row_below HW.out hb); clear hb)
          | (refine load_row_on (by rfl) 35 (.tmp 3) rfl w.heap.size rfl 35 _ (0, 0) _ G1.out Tryd.underlying35 rfl (by kernel_rfl) ?_)
          | (go_at_call 23; refine (HC.out w1 (powTab_below HT.out (below_next B0.out H1.out))).mono ?_; rintro e w2 ⟨rfl, hb⟩; have H2 := Lib.hid (below_next H1.out hb); clear hb)
          | (go_at_call 14; with_reducible refine (M2.out w2).mono ?_; rintro e w3 ⟨rfl, hb⟩; have H3 := Lib.hid (below_next H2.out hb); clear hb))
        go_ret
        exact ⟨by rw [HP.out]; try rfl, below_next B0.out H3.out⟩
theorem pathFace : PathFace where
  may := fun w s hs => may_any s (Nat.lt_trans hs (by decide)) w
  split := fun w s hs => split_any s (Nat.lt_trans hs (by decide)) w
  join := fun w p n hp hn => join_any p n hp hn w
  under := fun w s d _ _ => under_any s d w
  parents := fun w s hs => parents_any s hs w
  own := fun w s hs hT => own_any s hs w hT
  copy := fun w s r q hs h1 h2 h3 h4 hT => copy_any s r q hs ⟨h1, h2⟩ ⟨h3, h4⟩ w hT
end Go.Proofs.YtjpmnobhkaebjaaDoor
