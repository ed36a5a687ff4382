/-
Texts that all claims of this seat share, part 3: VecMade, Law09Orders, Ref10More, VecSmall, VecMay, MatSmall, MatCode.
-/
import Derived.Test.YtcnjgdnokiindaaDoorPk2
namespace Go.Proofs.YtcnjgdnokiindaaDoor
open Go.RowKit
set_option maxRecDepth 100000 in
set_option maxHeartbeats 4000000 in
theorem closeJoin_any (f g : Nat → Int) (G H i : Nat) (hi : i < 32) (w : World) (hG : w.heap[G]? = some (.cells (nums 32 f) 75 (0, 0))) (hH : w.heap[H]? = some (.cells (nums 32 g) 75 (0, 0))) : Calls Tryd.prog 50 #[.int .i64 (i : Int), .pointer (some ⟨G, 0, none⟩), .pointer (some ⟨H, 0, none⟩)] w fun e w' => e = .returned (.int .i64 (max (f i) (g i))) ∧ Below w.heap.size w w' := by
  have c0 := nums_cell hG i hi
  have c1 := nums_cell hH i hi
  have q0 : (i : Int) < 32 := by omega
  obtain ⟨a, ha⟩ : ∃ a, a = f i := ⟨_, rfl⟩
  obtain ⟨b, hb⟩ : ∃ b, b = g i := ⟨_, rfl⟩
  rw [← ha] at c0 ⊢
  rw [← hb] at c1 ⊢
  obtain ⟨M, hM⟩ : ∃ M, M = max a b := ⟨_, rfl⟩
  have hMM : (if a < b then b else a) = M := by rw [hM]; split <;> omega
  have hMX : max a b = M := hM.symm
  rw [← hM]
  clear hG hH hi ha hb hM
  go_enter Tryd.func50, Tryd.ntmps50
  go_wp2
  go_still_tail 7, (by kernel_rfl)
  change wpList _ _ _ _ _ w.drew
  go_wp2
  go_ret
  exact ⟨rfl, below_draws (Below.refl _ _) 1⟩
set_option maxRecDepth 100000 in
set_option maxHeartbeats 4000000 in
theorem closeMeet_any (f g : Nat → Int) (G H i : Nat) (hi : i < 32) (w : World) (hG : w.heap[G]? = some (.cells (nums 32 f) 75 (0, 0))) (hH : w.heap[H]? = some (.cells (nums 32 g) 75 (0, 0))) : Calls Tryd.prog 66 #[.int .i64 (i : Int), .pointer (some ⟨G, 0, none⟩), .pointer (some ⟨H, 0, none⟩)] w fun e w' => e = .returned (.int .i64 (min (f i) (g i))) ∧ Below w.heap.size w w' := by
  have c0 := nums_cell hG i hi
  have c1 := nums_cell hH i hi
  have q0 : (i : Int) < 32 := by omega
  obtain ⟨a, ha⟩ : ∃ a, a = f i := ⟨_, rfl⟩
  obtain ⟨b, hb⟩ : ∃ b, b = g i := ⟨_, rfl⟩
  rw [← ha] at c0 ⊢
  rw [← hb] at c1 ⊢
  obtain ⟨M, hM⟩ : ∃ M, M = min a b := ⟨_, rfl⟩
  have hMM : (if b < a then b else a) = M := by rw [hM]; split <;> omega
  have hMX : min a b = M := hM.symm
  rw [← hM]
  clear hG hH hi ha hb hM
  go_enter Tryd.func66, Tryd.ntmps66
  go_wp2
  go_still_tail 7, (by kernel_rfl)
  change wpList _ _ _ _ _ w.drew
  go_wp2
  go_ret
  exact ⟨rfl, below_draws (Below.refl _ _) 1⟩
set_option maxRecDepth 100000 in
set_option maxHeartbeats 4000000 in
theorem closeText_any (f : Nat → Int) (G i : Nat) (hi : i < 32) (w : World) (hG : w.heap[G]? = some (.cells (nums 32 f) 75 (0, 0))) : Calls Tryd.prog 51 #[.int .i64 (i : Int), .pointer (some ⟨G, 0, none⟩)] w fun e w' => e = .returned (.int .i64 (f i)) ∧ Below w.heap.size w w' := by
  have c0 := nums_cell hG i hi
  have q0 : (i : Int) < 32 := by omega
  obtain ⟨a, ha⟩ : ∃ a, a = f i := ⟨_, rfl⟩
  rw [← ha] at c0 ⊢
  clear hG hi ha
  go_enter Tryd.func51, Tryd.ntmps51
  go_wp2
  go_ret
  exact ⟨rfl, Below.refl _ _⟩
set_option maxRecDepth 100000 in
set_option maxHeartbeats 16000000 in
theorem madeJoin_typ (f g : Nat → Int) (G H : Nat) (w : World) (hG : w.heap[G]? = some (.cells (nums 32 f) 75 (0, 0))) (hH : w.heap[H]? = some (.cells (nums 32 g) 75 (0, 0))) : Calls Tryd.prog 49 #[.func (.func 50) #[] #[.pointer (some ⟨G, 0, none⟩), .pointer (some ⟨H, 0, none⟩)]] w fun e w' => ∃ v, e = .returned v ∧ TypDots w' v (ofV (fun i => max (f i) (g i))) ∧ Below w.heap.size w w' := by
  obtain ⟨i0, hi, hz⟩ := infoDot

  obtain ⟨F, hF⟩ : ∃ F, F = fun i => max (f i) (g i) := ⟨_, rfl⟩
  rw [← hF]
  have CL := Lib.hid (fun (k : Nat) (hk : k < 32) (wr : World) (hb : Below w.heap.size w wr) => show Calls Tryd.prog 50 #[.int .i64 (k : Int), .pointer (some ⟨G, 0, none⟩), .pointer (some ⟨H, 0, none⟩)] wr fun e w' => e = .returned (.int .i64 (F k)) ∧ Below wr.heap.size wr w' by rw [hF]; exact closeJoin_any f g G H k hk wr (row_kept hG hb) (row_kept hH hb))
  clear hG hH
  clear hF
  go_enter Tryd.func49, Tryd.ntmps49
  go_wp2
  go_loopw [3, 6] (fun v c wr => ∃ k : Nat, k ≤ 32 ∧ c = .int .i64 (k : Int) ∧ wr.ownsRow w.heap.size 44 2 v (ofN F k).length (dotsC (ofN F k)) ∧ Below w.heap.size w wr) (fun _ c _ => 32 - (intOf c).toNat)
  case atStart => exact ⟨0, by omega, rfl, dots_own_nil _ _ _, Below.refl _ _⟩
  case round =>
    obtain ⟨k, hk, rfl, ho, hb⟩ := hrel
    have HO := Lib.hid ho
    have HB := Lib.hid hb
    by_cases hlt : k < 32
    · have q0 : (k : Int) < 32 := by omega
      have HL := Lib.hid (ofN_length F k)
      have KK := Lib.hid (show k + 1 ≤ 32 ∧ 32 - (k + 1) < 32 - k by omega)
      have CC := Lib.hid (CL.out k hlt wr hb)
      obtain ⟨m, hm⟩ : ∃ m, m = F k := ⟨_, rfl⟩
      rw [← hm] at CC
      by_cases hp : 0 < m
      · have d1 : decide (m > 0) = true := decide_eq_true hp
        have HN := Lib.hid (show ofN F (k + 1) = ofN F k ++ [((k : Int), m)] by rw [ofN, if_pos (by rw [← hm]; exact hp), ← hm])
        clear hp hm ho hb hlt
        go_wp2_with (first
          | (go_at_call 50; refine CC.out.mono ?_; rintro e w1 ⟨rfl, hb⟩; have O1 := Lib.hid (own_below HO.out hb); have B1 := Lib.hid (below_next HB.out hb); clear hb)
          | (refine build_on (by rfl) 44 #[(0, .tmp 15), (1, .tmp 16)] rfl _ _ (dot_built2 (k : Int) m) (by simp [Act.eval]) ?_)
          | (at_builtin; refine append_dot rfl (.tmp 14) (.tmp 18) 37 rfl w.heap.size 44 i0 Tryd.underlying37 hi hz _ (ofN F k) ((k : Int), m) rfl (O1.out.alloc _) ⟨w1.heap.size, 0, none⟩ 1 rfl ⟨(cell_of_row _ _ 0 _ _ _ (heap_last w1 _)).trans rfl, by rw [Addr.add_lit]; exact (cell_of_row _ _ (0 + 1) _ _ _ (heap_last w1 _)).trans rfl⟩ (by have := HL.out; have := KK.out.1; omega) (by have := B1.out.size; simp <;> omega) ?_; intro v1 w2 ho hg; rw [← HN.out] at ho; have HO1 := Lib.hid ho; have HB1 := Lib.hid (below_grown (B1.out.alloc B1.out.size _) hg (by have := B1.out.size; simp <;> omega) (fun j hj => by have := (O1.out.lt j hj).1; omega)); clear ho hg))
        refine ⟨⟨k + 1, KK.out.1, by simp, HO1.out, HB1.out⟩, ?_⟩
        have := KK.out.2; simp [intOf]; omega
      · have d1 : decide (m > 0) = false := decide_eq_false hp
        have HN := Lib.hid (show ofN F (k + 1) = ofN F k by rw [ofN, if_neg (by rw [← hm]; exact hp), List.append_nil])
        clear hp hm ho hb hlt
        go_wp2_with (first
          | (go_at_call 50; refine CC.out.mono ?_; rintro e w1 ⟨rfl, hb⟩; have O1 := Lib.hid (own_below HO.out hb); have B1 := Lib.hid (below_next HB.out hb); clear hb))
        refine ⟨⟨k + 1, KK.out.1, by simp, by rw [HN.out]; exact O1.out, B1.out⟩, ?_⟩
        have := KK.out.2; simp [intOf]; omega
    · have q0 : ¬ (k : Int) < 32 := by omega
      obtain rfl : k = 32 := by omega
      have HD := Lib.hid (typ_of_own HO.out)
      clear ho hb hlt
      go_wp2
      go_ret
      exact ⟨_, rfl, HD.out, HB.out⟩
set_option maxRecDepth 100000 in
set_option maxHeartbeats 16000000 in
theorem madeMeet_any (f g : Nat → Int) (G H : Nat) (w : World) (hG : w.heap[G]? = some (.cells (nums 32 f) 75 (0, 0))) (hH : w.heap[H]? = some (.cells (nums 32 g) 75 (0, 0))) : Calls Tryd.prog 49 #[.func (.func 66) #[] #[.pointer (some ⟨G, 0, none⟩), .pointer (some ⟨H, 0, none⟩)]] w fun e w' => ∃ v, e = .returned v ∧ HasDots w' v (ofV (fun i => min (f i) (g i))) ∧ Below w.heap.size w w' := by
  obtain ⟨i0, hi, hz⟩ := infoDot

  obtain ⟨F, hF⟩ : ∃ F, F = fun i => min (f i) (g i) := ⟨_, rfl⟩
  rw [← hF]
  have CL := Lib.hid (fun (k : Nat) (hk : k < 32) (wr : World) (hb : Below w.heap.size w wr) => show Calls Tryd.prog 66 #[.int .i64 (k : Int), .pointer (some ⟨G, 0, none⟩), .pointer (some ⟨H, 0, none⟩)] wr fun e w' => e = .returned (.int .i64 (F k)) ∧ Below wr.heap.size wr w' by rw [hF]; exact closeMeet_any f g G H k hk wr (row_kept hG hb) (row_kept hH hb))
  clear hG hH
  clear hF
  go_enter Tryd.func49, Tryd.ntmps49
  go_wp2
  go_loopw [3, 6] (fun v c wr => ∃ k : Nat, k ≤ 32 ∧ c = .int .i64 (k : Int) ∧ wr.ownsRow w.heap.size 44 2 v (ofN F k).length (dotsC (ofN F k)) ∧ Below w.heap.size w wr) (fun _ c _ => 32 - (intOf c).toNat)
  case atStart => exact ⟨0, by omega, rfl, dots_own_nil _ _ _, Below.refl _ _⟩
  case round =>
    obtain ⟨k, hk, rfl, ho, hb⟩ := hrel
    have HO := Lib.hid ho
    have HB := Lib.hid hb
    by_cases hlt : k < 32
    · have q0 : (k : Int) < 32 := by omega
      have HL := Lib.hid (ofN_length F k)
      have KK := Lib.hid (show k + 1 ≤ 32 ∧ 32 - (k + 1) < 32 - k by omega)
      have CC := Lib.hid (CL.out k hlt wr hb)
      obtain ⟨m, hm⟩ : ∃ m, m = F k := ⟨_, rfl⟩
      rw [← hm] at CC
      by_cases hp : 0 < m
      · have d1 : decide (m > 0) = true := decide_eq_true hp
        have HN := Lib.hid (show ofN F (k + 1) = ofN F k ++ [((k : Int), m)] by rw [ofN, if_pos (by rw [← hm]; exact hp), ← hm])
        clear hp hm ho hb hlt
        go_wp2_with (first
          | (go_at_call 66; refine CC.out.mono ?_; rintro e w1 ⟨rfl, hb⟩; have O1 := Lib.hid (own_below HO.out hb); have B1 := Lib.hid (below_next HB.out hb); clear hb)
          | (refine build_on (by rfl) 44 #[(0, .tmp 15), (1, .tmp 16)] rfl _ _ (dot_built2 (k : Int) m) (by simp [Act.eval]) ?_)
          | (at_builtin; refine append_dot rfl (.tmp 14) (.tmp 18) 37 rfl w.heap.size 44 i0 Tryd.underlying37 hi hz _ (ofN F k) ((k : Int), m) rfl (O1.out.alloc _) ⟨w1.heap.size, 0, none⟩ 1 rfl ⟨(cell_of_row _ _ 0 _ _ _ (heap_last w1 _)).trans rfl, by rw [Addr.add_lit]; exact (cell_of_row _ _ (0 + 1) _ _ _ (heap_last w1 _)).trans rfl⟩ (by have := HL.out; have := KK.out.1; omega) (by have := B1.out.size; simp <;> omega) ?_; intro v1 w2 ho hg; rw [← HN.out] at ho; have HO1 := Lib.hid ho; have HB1 := Lib.hid (below_grown (B1.out.alloc B1.out.size _) hg (by have := B1.out.size; simp <;> omega) (fun j hj => by have := (O1.out.lt j hj).1; omega)); clear ho hg))
        refine ⟨⟨k + 1, KK.out.1, by simp, HO1.out, HB1.out⟩, ?_⟩
        have := KK.out.2; simp [intOf]; omega
      · have d1 : decide (m > 0) = false := decide_eq_false hp
        have HN := Lib.hid (show ofN F (k + 1) = ofN F k by rw [ofN, if_neg (by rw [← hm]; exact hp), List.append_nil])
        clear hp hm ho hb hlt
        go_wp2_with (first
          | (go_at_call 66; refine CC.out.mono ?_; rintro e w1 ⟨rfl, hb⟩; have O1 := Lib.hid (own_below HO.out hb); have B1 := Lib.hid (below_next HB.out hb); clear hb))
        refine ⟨⟨k + 1, KK.out.1, by simp, by rw [HN.out]; exact O1.out, B1.out⟩, ?_⟩
        have := KK.out.2; simp [intOf]; omega
    · have q0 : ¬ (k : Int) < 32 := by omega
      obtain rfl : k = 32 := by omega
      have HD := Lib.hid (dots_of_own HO.out)
      clear ho hb hlt
      go_wp2
      go_ret
      exact ⟨_, rfl, HD.out, HB.out⟩
set_option maxRecDepth 100000 in
set_option maxHeartbeats 16000000 in
theorem madeText_any (f : Nat → Int) (G : Nat) (w : World) (hG : w.heap[G]? = some (.cells (nums 32 f) 75 (0, 0))) : Calls Tryd.prog 49 #[.func (.func 51) #[] #[.pointer (some ⟨G, 0, none⟩)]] w fun e w' => ∃ v, e = .returned v ∧ HasDots w' v (ofV (f)) ∧ Below w.heap.size w w' := by
  obtain ⟨i0, hi, hz⟩ := infoDot

  obtain ⟨F, hF⟩ : ∃ F, F = f := ⟨_, rfl⟩
  rw [← hF]
  have CL := Lib.hid (fun (k : Nat) (hk : k < 32) (wr : World) (hb : Below w.heap.size w wr) => show Calls Tryd.prog 51 #[.int .i64 (k : Int), .pointer (some ⟨G, 0, none⟩)] wr fun e w' => e = .returned (.int .i64 (F k)) ∧ Below wr.heap.size wr w' by rw [hF]; exact closeText_any f G k hk wr (row_kept hG hb))
  clear hG
  clear hF
  go_enter Tryd.func49, Tryd.ntmps49
  go_wp2
  go_loopw [3, 6] (fun v c wr => ∃ k : Nat, k ≤ 32 ∧ c = .int .i64 (k : Int) ∧ wr.ownsRow w.heap.size 44 2 v (ofN F k).length (dotsC (ofN F k)) ∧ Below w.heap.size w wr) (fun _ c _ => 32 - (intOf c).toNat)
  case atStart => exact ⟨0, by omega, rfl, dots_own_nil _ _ _, Below.refl _ _⟩
  case round =>
    obtain ⟨k, hk, rfl, ho, hb⟩ := hrel
    have HO := Lib.hid ho
    have HB := Lib.hid hb
    by_cases hlt : k < 32
    · have q0 : (k : Int) < 32 := by omega
      have HL := Lib.hid (ofN_length F k)
      have KK := Lib.hid (show k + 1 ≤ 32 ∧ 32 - (k + 1) < 32 - k by omega)
      have CC := Lib.hid (CL.out k hlt wr hb)
      obtain ⟨m, hm⟩ : ∃ m, m = F k := ⟨_, rfl⟩
      rw [← hm] at CC
      by_cases hp : 0 < m
      · have d1 : decide (m > 0) = true := decide_eq_true hp
        have HN := Lib.hid (show ofN F (k + 1) = ofN F k ++ [((k : Int), m)] by rw [ofN, if_pos (by rw [← hm]; exact hp), ← hm])
        clear hp hm ho hb hlt
        go_wp2_with (first
          | (go_at_call 51; refine CC.out.mono ?_; rintro e w1 ⟨rfl, hb⟩; have O1 := Lib.hid (own_below HO.out hb); have B1 := Lib.hid (below_next HB.out hb); clear hb)
          | (refine build_on (by rfl) 44 #[(0, .tmp 15), (1, .tmp 16)] rfl _ _ (dot_built2 (k : Int) m) (by simp [Act.eval]) ?_)
          | (at_builtin; refine append_dot rfl (.tmp 14) (.tmp 18) 37 rfl w.heap.size 44 i0 Tryd.underlying37 hi hz _ (ofN F k) ((k : Int), m) rfl (O1.out.alloc _) ⟨w1.heap.size, 0, none⟩ 1 rfl ⟨(cell_of_row _ _ 0 _ _ _ (heap_last w1 _)).trans rfl, by rw [Addr.add_lit]; exact (cell_of_row _ _ (0 + 1) _ _ _ (heap_last w1 _)).trans rfl⟩ (by have := HL.out; have := KK.out.1; omega) (by have := B1.out.size; simp <;> omega) ?_; intro v1 w2 ho hg; rw [← HN.out] at ho; have HO1 := Lib.hid ho; have HB1 := Lib.hid (below_grown (B1.out.alloc B1.out.size _) hg (by have := B1.out.size; simp <;> omega) (fun j hj => by have := (O1.out.lt j hj).1; omega)); clear ho hg))
        refine ⟨⟨k + 1, KK.out.1, by simp, HO1.out, HB1.out⟩, ?_⟩
        have := KK.out.2; simp [intOf]; omega
      · have d1 : decide (m > 0) = false := decide_eq_false hp
        have HN := Lib.hid (show ofN F (k + 1) = ofN F k by rw [ofN, if_neg (by rw [← hm]; exact hp), List.append_nil])
        clear hp hm ho hb hlt
        go_wp2_with (first
          | (go_at_call 51; refine CC.out.mono ?_; rintro e w1 ⟨rfl, hb⟩; have O1 := Lib.hid (own_below HO.out hb); have B1 := Lib.hid (below_next HB.out hb); clear hb))
        refine ⟨⟨k + 1, KK.out.1, by simp, by rw [HN.out]; exact O1.out, B1.out⟩, ?_⟩
        have := KK.out.2; simp [intOf]; omega
    · have q0 : ¬ (k : Int) < 32 := by omega
      obtain rfl : k = 32 := by omega
      have HD := Lib.hid (dots_of_own HO.out)
      clear ho hb hlt
      go_wp2
      go_ret
      exact ⟨_, rfl, HD.out, HB.out⟩
end Go.Proofs.YtcnjgdnokiindaaDoor
namespace Go.Proofs.YtcnjgdnokiindaaDoor
open Go.RowKit
theorem row_yields {P : Program} {ops : Array Oper} {S : World → Prop} {o : Oper} {a : Act} (hw : Region.wanted o (yielded ops a.tmps) = true) (ty : TypeId) (x : Operand) (ho : o.op = .load ty x) (g : Nat) (hx : a.eval x = .pointer (some ⟨g, 0, none⟩)) (t : TypeId) (cs : Array Value) (fr : Nat × Nat) (d : TypeDesc)
    (hu : P.underlying ty = some d) (hd : (match d with | .struct _ | .array _ _ => true | _ => false) = true) (hi : (P.info? ty).map (·.size) = some cs.size) (hS : ∀ w, S w → w.heap[g]? = some (.cells cs t fr)) : YieldsIf P ops S o (.agg cs) a :=
  .inl ⟨hw, fun w h => by
    unfold execOp
    simp [ho, hx, Instr.loadAt, Instr.sureAddr, run_loadVar_row w g t ty cs fr d (hS w h) hu hd hi]⟩
end Go.Proofs.YtcnjgdnokiindaaDoor
namespace Go.Proofs.YtcnjgdnokiindaaDoor
open Go.RowKit
theorem refAll_V (l : List D2) (hl : l.length < 2000000) (v : Value) (w : World) (hv : HasDots w v l) : Calls Tryd.prog 60 #[v] w fun e w' => e = .returned (numsV 32 (allV l)) ∧ Below w.heap.size w w' := refAll_any l hl v w hv
theorem refOf_V (f : Nat → Int) (w : World) : Calls Tryd.prog 61 #[numsV 32 f] w fun e w' => ∃ v, e = .returned v ∧ HasDots w' v (ofV f) ∧ Below w.heap.size w w' := refOf_any f w
set_option maxRecDepth 100000 in
set_option maxHeartbeats 4000000 in
theorem refMay_any10 (l : List D2) (hl : l.length < 2000000) (v : Value) (w : World) (hv : HasDots w v l) : Calls Tryd.prog 57 #[v] w fun e w' => e = .returned (.bool (mayV l)) ∧ Below w.heap.size w w' := by
  have HV := Lib.hid hv
  have A1 := Lib.hid (fun w v hv => refAll_V l hl v w hv)
  have O1 := Lib.hid (fun w => refOf_V (allV l) w)
  have Q1 := Lib.hid (fun w v u hv hu => refEqual_any l (vecOf l) hl v u w hv hu)
  obtain ⟨ao, cap, rfl⟩ := dots_shape hv l.length rfl
  obtain ⟨n, hn⟩ : ∃ n, n = l.length := ⟨_, rfl⟩
  rw [← hn] at HV ⊢
  clear hv hl hn
  go_enter Tryd.func57, Tryd.ntmps57
  go_wp2_with (first
    | (go_at_call 60; refine (A1.out _ _ HV.out).mono ?_; rintro e w1 ⟨rfl, hb⟩; have B1 := Lib.hid hb; clear hb)
    | (go_at_call 61; refine (O1.out _).mono ?_; rintro e w2 ⟨u, rfl, hu, hb⟩; have HU := Lib.hid hu; have B2 := Lib.hid (below_next B1.out hb); clear hu hb)
    | (go_at_call 32; refine (Q1.out _ _ _ (dots_below HV.out B2.out) HU.out).mono ?_; rintro e w3 ⟨rfl, hb⟩; have B3 := Lib.hid (below_next B2.out hb); clear hb))
  go_ret
  exact ⟨rfl, B3.out⟩
end Go.Proofs.YtcnjgdnokiindaaDoor
namespace Go.Proofs.YtcnjgdnokiindaaDoor
open Go.RowKit
theorem counts_V (l : List D2) (hl : l.length < 2000000) (v : Value) (w : World) (hv : HasDots w v l) : Calls Tryd.prog 48 #[v] w fun e w' => e = .returned (numsV 32 (allV l)) ∧ Below w.heap.size w w' := counts_any l hl v w hv
theorem counts_VL (l : List D2) (hl : l.length < 10000000000000) (v : Value) (w : World) (hv : HasDots w v l) : Calls Tryd.prog 48 #[v] w fun e w' => e = .returned (numsV 32 (allV l)) ∧ Below w.heap.size w w' := counts_long l hl v w hv
/-- A row of numbers loaded, as an opaque value. -/
theorem load_nums {P : Program} {ops : Array Oper} {rest : List Oper} {o : Oper} {a : Act} {w : World} {Q : Exit → Act → World → Prop} (hgd : o.guard = none) (ty : TypeId) (x : Operand) (ho : o.op = .load ty x)
    (g : Nat) (hx : a.eval x = .pointer (some ⟨g, 0, none⟩)) (t : TypeId) (n : Nat) (f : Nat → Int) (hg : w.heap[g]? = some (.cells (nums n f) t (0, 0))) {e : TypeId}
    (hu : P.underlying ty = some (.array n e)) (hi : (P.info? ty).map (·.size) = some n)
    (h : wpList P ops Q rest (a.put o.dst (numsV n f)) w) : wpList P ops Q (o :: rest) a w :=
  wpList_load_row hgd ty x ho g hx t (nums n f) (0, 0) _ hg hu rfl (by rw [nums_size]; exact hi) h
set_option maxRecDepth 100000 in
set_option maxHeartbeats 16000000 in
theorem vecSame_any (a b : List D2) (ha : a.length < 2000000) (hb : b.length < 2000000) (v u : Value) (w : World) (hv : HasDots w v a) (hu : HasDots w u b) : Calls Tryd.prog 24 #[v, u] w fun e w' => e = .returned (.bool (sameV a b)) ∧ Below w.heap.size w w' := by
  have HV := Lib.hid hv
  have HU := Lib.hid hu
  have A1 := Lib.hid (fun w v hv => counts_V a ha v w hv)
  have A2 := Lib.hid (fun w v hv => counts_V b hb v w hv)
  have E1 := eql_nums (P := Tryd.prog) Tryd.underlying75 Tryd.underlying2 (by kernel_rfl) (allV a) (allV b) (sameN_V a b)
  have E2 := fun x y => guard_nums (P := Tryd.prog) (t := 75) (by kernel_rfl) x y 32 (allV a) (allV b)
  obtain ⟨ao, cap, rfl⟩ := dots_shape hv a.length rfl
  obtain ⟨ao2, cap2, rfl⟩ := dots_shape hu b.length rfl
  obtain ⟨n, hn⟩ : ∃ n, n = a.length := ⟨_, rfl⟩
  obtain ⟨m, hm⟩ : ∃ m, m = b.length := ⟨_, rfl⟩
  rw [← hn] at HV ⊢
  rw [← hm] at HU ⊢
  clear hv hu ha hb hn hm
  go_enter Tryd.func24, Tryd.ntmps24
  go_wp2_with (first
    | (go_at_call 48; with_reducible refine (A1.out w _ HV.out).mono ?_; rintro e w1 ⟨rfl, hb⟩; have B1 := Lib.hid hb; clear hb)
    | (go_at_call 48; with_reducible refine (A2.out w1 _ (dots_below HU.out B1.out)).mono ?_; rintro e w2 ⟨rfl, hb⟩; have B2 := Lib.hid (below_next B1.out hb); clear hb))
  go_ret
  exact ⟨rfl, B2.out⟩
set_option maxRecDepth 100000 in
set_option maxHeartbeats 16000000 in
theorem vecGet_any (l : List D2) (hl : l.length < 2000000) (r : Int) (v : Value) (w : World) (hv : HasDots w v l) : Calls Tryd.prog 46 #[v, .int .i64 r] w fun e w' => e = .returned (.int .i64 (getV l r)) ∧ Below w.heap.size w w' := by
  have HV := Lib.hid hv
  have A1 := Lib.hid (fun w v hv => counts_V l hl v w hv)
  obtain ⟨ao, cap, rfl⟩ := dots_shape hv l.length rfl
  obtain ⟨n, hn⟩ : ∃ n, n = l.length := ⟨_, rfl⟩
  rw [← hn] at HV ⊢
  clear hv hl hn
  by_cases h0 : r < 0
  · have d1 : decide (r < 0) = true := decide_eq_true h0
    have HR := Lib.hid (show getV l r = 0 by rw [getV, if_pos (.inl h0)])
    clear h0
    go_enter Tryd.func46, Tryd.ntmps46
    go_wp2
    go_ret
    exact ⟨by rw [HR.out]; rfl, Below.refl _ _⟩
  · have d1 : decide (r < 0) = false := decide_eq_false h0
    by_cases h1 : 31 < r
    · have d2 : decide (r ≥ 32) = true := decide_eq_true (by omega)
      have HR := Lib.hid (show getV l r = 0 by rw [getV, if_pos (.inr h1)])
      clear h0 h1
      go_enter Tryd.func46, Tryd.ntmps46
      go_wp2
      go_ret
      exact ⟨by rw [HR.out]; rfl, Below.refl _ _⟩
    · have d2 : decide (r ≥ 32) = false := decide_eq_false (by omega)
      obtain ⟨i, hi⟩ : ∃ i : Nat, r = (i : Int) := ⟨r.toNat, by omega⟩
      subst hi
      have ix := fun w => index_nums (P := Tryd.prog) w (t := 75) (n := 32) (allV l) i (by omega) Tryd.underlying75 Tryd.underlying2 (by kernel_rfl)
      replace ix : ∀ w, (Instr.index 75 (numsV 32 (allV l)) (.int .i64 (i : Int))).run Tryd.prog w = .ok (.int .i64 (allV l i)) w := ix
      have HR := Lib.hid (show getV l (i : Int) = allV l i by rw [getV, if_neg (by omega), Int.toNat_natCast])
      clear h0 h1
      go_enter Tryd.func46, Tryd.ntmps46
      go_wp2_with (first
        | (go_at_call 48; refine (A1.out w _ HV.out).mono ?_; rintro e w1 ⟨rfl, hb⟩; have B1 := Lib.hid hb; clear hb))
      go_ret
      exact ⟨by rw [HR.out]; rfl, B1.out⟩
set_option maxRecDepth 100000 in
set_option maxHeartbeats 16000000 in
theorem vecHas_any (l : List D2) (hl : l.length < 2000000) (r q : Int) (v : Value) (w : World) (hv : HasDots w v l) : Calls Tryd.prog 21 #[v, .agg #[.int .i64 r, .int .i64 q]] w fun e w' => e = .returned (.bool (hasV l r q)) ∧ Below w.heap.size w w' := by
  have HV := Lib.hid hv
  have MY := Lib.hid (fun w => may_any9 r q w)
  have GT := Lib.hid (fun w hv => vecGet_any l hl r v w hv)
  have E0 := Lib.hid (show (w.alloc (.cells #[.int .i64 r, .int .i64 q] 44 (0, 0))).heap[w.heap.size]? = some (.cells #[.int .i64 r, .int .i64 q] 44 (0, 0)) from one_box w r q)
  obtain ⟨c0, c1⟩ := dot_cells (show _ = some (dotO r q) from E0.out)
  have C0 := Lib.hid c0
  have C1 := Lib.hid c1
  have B0 := Lib.hid ((Below.refl w.heap.size w).alloc (Nat.le_refl _) (.cells #[.int .i64 r, .int .i64 q] 44 (0, 0)))
  obtain ⟨ao, cap, rfl⟩ := dots_shape hv l.length rfl
  obtain ⟨n, hn⟩ : ∃ n, n = l.length := ⟨_, rfl⟩
  rw [← hn] at HV GT ⊢
  obtain ⟨G, hG⟩ : ∃ G, G = getV l r := ⟨_, rfl⟩
  rw [← hG] at GT
  have HR := Lib.hid (show hasV l r q = (mayD r q && decide (q ≤ G)) by rw [hasV, hG])
  clear hv hl hn hG c0 c1
  cases hm : mayD r q with
  | true =>
    rw [hm] at MY HR
    clear hm
    go_enter Tryd.func21, Tryd.ntmps21
    go_wp2
    generalize w.alloc (.cells #[.int .i64 r, .int .i64 q] 44 (0, 0)) = W0 at *
    refine wp_region_held_drew (S := fun w' => Below W0.heap.size W0 w') (by kernel_rfl) (drawS (Below.refl _ _)) (fun hHeld => ?_)
    generalize W0.drew = wd at hHeld ⊢
    refine take_at (i := 0) 5 rfl rfl (by kernel_rfl) (by kernel_rfl) (by kernel_rfl) (fun _ _ _ h => h) (row_yields (by rfl) 44 (.tmp 3) rfl w.heap.size rfl 44 _ (0, 0) _ Tryd.underlying44 rfl (by kernel_rfl) (fun _ h => row_kept E0.out h)) hHeld ?_
    simp only [List.setIfInBounds_toArray, List.set_cons_zero, List.set_cons_succ]
    refine wpAnyH_ready (rs := [1]) (by kernel_rfl) (by simp) ?_
    refine AllReadyH.cons rfl (fun K hK => ?_) AllReadyH.nil
    go_simp
    go_at_call 45
    refine (MY.out _).mono ?_
    rintro e w6 ⟨rfl, hb⟩
    dsimp only
    refine hK.out _ _ (below_next hHeld hb) (fun hHeld => ?_)
    clear hK K hb
    refine take_at (i := 2) 7 rfl rfl (by kernel_rfl) (by kernel_rfl) (by kernel_rfl) (fun _ _ _ h => h) (sure_yes (by rfl) (fun w => by go_simp; try with_reducible rfl)) hHeld ?_
    simp only [List.setIfInBounds_toArray, List.set_cons_zero, List.set_cons_succ]
    refine take_at (i := 3) 8 rfl rfl (by kernel_rfl) (by kernel_rfl) (by kernel_rfl) (fun _ _ _ h => h) (sure_yes (by rfl) (fun w => by go_simp; try with_reducible rfl)) hHeld ?_
    simp only [List.setIfInBounds_toArray, List.set_cons_zero, List.set_cons_succ]
    refine take_at (i := 5) 10 rfl rfl (by kernel_rfl) (by kernel_rfl) (by kernel_rfl) (fun _ _ _ h => h) (sure_yes (by rfl) (fun w => by go_simp; try with_reducible rfl)) hHeld ?_
    simp only [List.setIfInBounds_toArray, List.set_cons_zero, List.set_cons_succ]
    refine take_at (i := 6) 11 rfl rfl (by kernel_rfl) (by kernel_rfl) (by kernel_rfl) (fun _ _ _ h => h) (sure_yes (by rfl) (fun w => by go_simp; try with_reducible rfl)) hHeld ?_
    simp only [List.setIfInBounds_toArray, List.set_cons_zero, List.set_cons_succ]
    refine take_at (i := 4) 9 rfl rfl (by kernel_rfl) (by kernel_rfl) (by kernel_rfl) (fun _ _ _ h => h) (cell_yields (by rfl) 2 (.tmp 8) rfl w.heap.size 1 rfl .i64 q Tryd.underlying2 (fun w h => (World.cell?_of_block (h.block _ (World.block_lt_of_cell? _ _ C1.out))).trans C1.out)) hHeld ?_
    simp only [List.setIfInBounds_toArray, List.set_cons_zero, List.set_cons_succ]
    refine take_at (i := 7) 12 rfl rfl (by kernel_rfl) (by kernel_rfl) (by kernel_rfl) (fun _ _ _ h => h) (cell_yields (by rfl) 3 (.tmp 11) rfl w.heap.size 0 rfl .i64 r Tryd.underlying3 (fun w h => (World.cell?_of_block (h.block _ (World.block_lt_of_cell? _ _ C0.out))).trans C0.out)) hHeld ?_
    simp only [List.setIfInBounds_toArray, List.set_cons_zero, List.set_cons_succ]
    refine wpAnyH_ready (rs := [8]) (by kernel_rfl) (by simp) ?_
    refine AllReadyH.cons rfl (fun K hK => ?_) AllReadyH.nil
    go_simp
    go_at_call 46
    refine (GT.out _ (dots_below HV.out (below_next B0.out hHeld))).mono ?_
    rintro e w6 ⟨rfl, hb⟩
    dsimp only
    refine hK.out _ _ (below_next hHeld hb) (fun hHeld => ?_)
    clear hK K hb
    refine take_at (i := 9) 14 rfl rfl (by kernel_rfl) (by kernel_rfl) (by kernel_rfl) (fun _ _ _ h => h) (sure_yes (by rfl) (fun w => by go_simp; try with_reducible rfl)) hHeld ?_
    simp only [List.setIfInBounds_toArray, List.set_cons_zero, List.set_cons_succ]
    refine take_at (i := 10) 15 rfl rfl (by kernel_rfl) (by kernel_rfl) (by kernel_rfl) (fun _ _ _ h => h) (sure_yes (by rfl) (fun w => by go_simp; try with_reducible rfl)) hHeld ?_
    simp only [List.setIfInBounds_toArray, List.set_cons_zero, List.set_cons_succ]
    refine take_at (i := 11) 4 rfl rfl (by kernel_rfl) (by kernel_rfl) (by kernel_rfl) (fun _ _ _ h => h) (sure_yes (by rfl) (fun w => by go_simp; try with_reducible rfl)) hHeld ?_
    simp only [List.setIfInBounds_toArray, List.set_cons_zero, List.set_cons_succ]
    refine wpAnyH_done (by kernel_rfl) ?_ _
    go_wp2
    go_ret
    exact ⟨by rw [HR.out]; rfl, below_next B0.out hHeld⟩
  | false =>
    rw [hm] at MY HR
    clear hm
    go_enter Tryd.func21, Tryd.ntmps21
    go_wp2
    generalize w.alloc (.cells #[.int .i64 r, .int .i64 q] 44 (0, 0)) = W0 at *
    refine wp_region_held_drew (S := fun w' => Below W0.heap.size W0 w') (by kernel_rfl) (drawS (Below.refl _ _)) (fun hHeld => ?_)
    generalize W0.drew = wd at hHeld ⊢
    refine take_at (i := 0) 5 rfl rfl (by kernel_rfl) (by kernel_rfl) (by kernel_rfl) (fun _ _ _ h => h) (row_yields (by rfl) 44 (.tmp 3) rfl w.heap.size rfl 44 _ (0, 0) _ Tryd.underlying44 rfl (by kernel_rfl) (fun _ h => row_kept E0.out h)) hHeld ?_
    simp only [List.setIfInBounds_toArray, List.set_cons_zero, List.set_cons_succ]
    refine wpAnyH_ready (rs := [1]) (by kernel_rfl) (by simp) ?_
    refine AllReadyH.cons rfl (fun K hK => ?_) AllReadyH.nil
    go_simp
    go_at_call 45
    refine (MY.out _).mono ?_
    rintro e w6 ⟨rfl, hb⟩
    dsimp only
    refine hK.out _ _ (below_next hHeld hb) (fun hHeld => ?_)
    clear hK K hb
    refine take_at (i := 2) 7 rfl rfl (by kernel_rfl) (by kernel_rfl) (by kernel_rfl) (fun _ _ _ h => h) (sure_yes (by rfl) (fun w => by go_simp; try with_reducible rfl)) hHeld ?_
    simp only [List.setIfInBounds_toArray, List.set_cons_zero, List.set_cons_succ]
    refine take_at (i := 3) 8 rfl rfl (by kernel_rfl) (by kernel_rfl) (by kernel_rfl) (fun _ _ _ h => h) (.inr ⟨by rfl, rfl⟩) hHeld ?_
    simp only [List.setIfInBounds_toArray, List.set_cons_zero, List.set_cons_succ]
    refine take_at (i := 4) 9 rfl rfl (by kernel_rfl) (by kernel_rfl) (by kernel_rfl) (fun _ _ _ h => h) (.inr ⟨by rfl, rfl⟩) hHeld ?_
    simp only [List.setIfInBounds_toArray, List.set_cons_zero, List.set_cons_succ]
    refine take_at (i := 5) 10 rfl rfl (by kernel_rfl) (by kernel_rfl) (by kernel_rfl) (fun _ _ _ h => h) (.inr ⟨by rfl, rfl⟩) hHeld ?_
    simp only [List.setIfInBounds_toArray, List.set_cons_zero, List.set_cons_succ]
    refine take_at (i := 6) 11 rfl rfl (by kernel_rfl) (by kernel_rfl) (by kernel_rfl) (fun _ _ _ h => h) (.inr ⟨by rfl, rfl⟩) hHeld ?_
    simp only [List.setIfInBounds_toArray, List.set_cons_zero, List.set_cons_succ]
    refine take_at (i := 7) 12 rfl rfl (by kernel_rfl) (by kernel_rfl) (by kernel_rfl) (fun _ _ _ h => h) (.inr ⟨by rfl, rfl⟩) hHeld ?_
    simp only [List.setIfInBounds_toArray, List.set_cons_zero, List.set_cons_succ]
    refine take_at (i := 8) 13 rfl rfl (by kernel_rfl) (by kernel_rfl) (by kernel_rfl) (fun _ _ _ h => h) (.inr ⟨by rfl, rfl⟩) hHeld ?_
    simp only [List.setIfInBounds_toArray, List.set_cons_zero, List.set_cons_succ]
    refine take_at (i := 9) 14 rfl rfl (by kernel_rfl) (by kernel_rfl) (by kernel_rfl) (fun _ _ _ h => h) (.inr ⟨by rfl, rfl⟩) hHeld ?_
    simp only [List.setIfInBounds_toArray, List.set_cons_zero, List.set_cons_succ]
    refine take_at (i := 10) 15 rfl rfl (by kernel_rfl) (by kernel_rfl) (by kernel_rfl) (fun _ _ _ h => h) (sure_yes (by rfl) (fun w => by go_simp; try with_reducible rfl)) hHeld ?_
    simp only [List.setIfInBounds_toArray, List.set_cons_zero, List.set_cons_succ]
    refine take_at (i := 11) 4 rfl rfl (by kernel_rfl) (by kernel_rfl) (by kernel_rfl) (fun _ _ _ h => h) (sure_yes (by rfl) (fun w => by go_simp; try with_reducible rfl)) hHeld ?_
    simp only [List.setIfInBounds_toArray, List.set_cons_zero, List.set_cons_succ]
    refine wpAnyH_done (by kernel_rfl) ?_ _
    go_wp2
    go_ret
    exact ⟨by rw [HR.out]; rfl, below_next B0.out hHeld⟩
set_option maxRecDepth 100000 in
set_option maxHeartbeats 16000000 in
theorem vecJoin_long (a b : List D2) (ha : a.length < 2000000) (hb : b.length < 10000000000000) (v u : Value) (w : World) (hv : HasDots w v a) (hu : HasDots w u b) : Calls Tryd.prog 25 #[v, u] w fun e w' => ∃ x, e = .returned x ∧ TypDots w' x (joinV a b) ∧ Below w.heap.size w w' := by
  have HV := Lib.hid hv
  have HU := Lib.hid hu
  have A1 := Lib.hid (fun w v hv => counts_V a ha v w hv)
  have A2 := Lib.hid (fun w v hv => counts_VL b hb v w hv)
  obtain ⟨ao, cap, rfl⟩ := dots_shape hv a.length rfl
  obtain ⟨ao2, cap2, rfl⟩ := dots_shape hu b.length rfl
  obtain ⟨n, hn⟩ : ∃ n, n = a.length := ⟨_, rfl⟩
  obtain ⟨m, hm⟩ : ∃ m, m = b.length := ⟨_, rfl⟩
  rw [← hn] at HV ⊢
  rw [← hm] at HU ⊢
  clear hv hu ha hb hn hm
  have MJ := Lib.hid (fun G H w hG hH => madeJoin_typ (allV a) (allV b) G H w hG hH)
  have hmf : ∀ (fn : Fn) (first cap : Array Value) (w : World), (Instr.makeFunc fn first cap).run Tryd.prog w = .ok (.func fn first cap) w := fun _ _ _ _ => rfl
  go_enter Tryd.func25, Tryd.ntmps25
  go_wp2_with (first
    | (go_at_call 48; with_reducible refine (A1.out w _ HV.out).mono ?_; rintro e w1 ⟨rfl, hb⟩; have B1 := Lib.hid hb; clear hb)
    | (go_at_call 48; with_reducible refine (A2.out w1 _ (dots_below HU.out B1.out)).mono ?_; rintro e w2 ⟨rfl, hb⟩; have B2 := Lib.hid (below_next B1.out hb); clear hb)
    | (refine alloc_as rfl 75 rfl _ zero49 ?_)
    | (refine store_old rfl 75 (.tmp 5) (.tmp 8) rfl rfl w2.heap.size _ (nums 32 (allV a)) 75 (alloc2_0 w2 _ _) rfl rfl (by rw [nums_size]; kernel_rfl) (by rw [nums_size, nums_size]) (nums_one _ _) ?_; intro w3 hg ho hs hB; have G3 := Lib.hid hg; have H3 := Lib.hid (show w3.heap[w2.heap.size + 1]? = some (.cells (nums 32 fun _ => 0) 75 (0, 0)) from (ho _ (by omega)).trans (alloc2_1 w2 _ _)); have B3 := Lib.hid (hB w.heap.size w ((B2.out.alloc B2.out.size _).alloc (by have := B2.out.size; simp <;> omega) _) B2.out.size); clear hg ho hs hB)
    | (refine store_old rfl 75 (.tmp 6) (.tmp 10) rfl rfl (w2.heap.size + 1) _ (nums 32 (allV b)) 75 H3.out (by show Value.pointer (some ⟨(w2.alloc _).heap.size, 0, none⟩) = _; rw [World.size_alloc]) rfl (by rw [nums_size]; kernel_rfl) (by rw [nums_size, nums_size]) (nums_one _ _) ?_; intro w4 hg ho hs hB; have H4 := Lib.hid hg; have G4 := Lib.hid ((ho w2.heap.size (by omega)).trans G3.out); have B4 := Lib.hid (hB w.heap.size w B3.out (by have := B2.out.size; omega)); clear hg ho hs hB)
    | (go_at_call 49; refine (MJ.out _ _ _ G4.out H4.out).mono ?_; rintro e w5 ⟨x, rfl, hx, hb⟩; have HX := Lib.hid hx; have B5 := Lib.hid (below_next B4.out hb); clear hx hb))
  go_ret
  exact ⟨_, rfl, HX.out, B5.out⟩
theorem vecJoin_typ (a b : List D2) (ha : a.length < 2000000) (hb : b.length < 2000000) (v u : Value) (w : World) (hv : HasDots w v a) (hu : HasDots w u b) : Calls Tryd.prog 25 #[v, u] w fun e w' => ∃ x, e = .returned x ∧ TypDots w' x (joinV a b) ∧ Below w.heap.size w w' := vecJoin_long a b ha (by omega) v u w hv hu
theorem vecJoin_any (a b : List D2) (ha : a.length < 2000000) (hb : b.length < 2000000) (v u : Value) (w : World) (hv : HasDots w v a) (hu : HasDots w u b) : Calls Tryd.prog 25 #[v, u] w fun e w' => ∃ x, e = .returned x ∧ HasDots w' x (joinV a b) ∧ Below w.heap.size w w' := (vecJoin_typ a b ha hb v u w hv hu).mono fun _ _ ⟨x, h1, h2, h3⟩ => ⟨x, h1, h2.1, h3⟩
set_option maxRecDepth 100000 in
set_option maxHeartbeats 16000000 in
theorem vecMeet_any (a b : List D2) (ha : a.length < 2000000) (hb : b.length < 2000000) (v u : Value) (w : World) (hv : HasDots w v a) (hu : HasDots w u b) : Calls Tryd.prog 44 #[v, u] w fun e w' => ∃ x, e = .returned x ∧ HasDots w' x (meetV a b) ∧ Below w.heap.size w w' := by
  have HV := Lib.hid hv
  have HU := Lib.hid hu
  have A1 := Lib.hid (fun w v hv => counts_V a ha v w hv)
  have A2 := Lib.hid (fun w v hv => counts_V b hb v w hv)
  obtain ⟨ao, cap, rfl⟩ := dots_shape hv a.length rfl
  obtain ⟨ao2, cap2, rfl⟩ := dots_shape hu b.length rfl
  obtain ⟨n, hn⟩ : ∃ n, n = a.length := ⟨_, rfl⟩
  obtain ⟨m, hm⟩ : ∃ m, m = b.length := ⟨_, rfl⟩
  rw [← hn] at HV ⊢
  rw [← hm] at HU ⊢
  clear hv hu ha hb hn hm
  have MJ := Lib.hid (fun G H w hG hH => madeMeet_any (allV a) (allV b) G H w hG hH)
  have hmf : ∀ (fn : Fn) (first cap : Array Value) (w : World), (Instr.makeFunc fn first cap).run Tryd.prog w = .ok (.func fn first cap) w := fun _ _ _ _ => rfl
  go_enter Tryd.func44, Tryd.ntmps44
  go_wp2_with (first
    | (go_at_call 48; with_reducible refine (A1.out w _ HV.out).mono ?_; rintro e w1 ⟨rfl, hb⟩; have B1 := Lib.hid hb; clear hb)
    | (go_at_call 48; with_reducible refine (A2.out w1 _ (dots_below HU.out B1.out)).mono ?_; rintro e w2 ⟨rfl, hb⟩; have B2 := Lib.hid (below_next B1.out hb); clear hb)
    | (refine alloc_as rfl 75 rfl _ zero49 ?_)
    | (refine store_old rfl 75 (.tmp 5) (.tmp 8) rfl rfl w2.heap.size _ (nums 32 (allV a)) 75 (alloc2_0 w2 _ _) rfl rfl (by rw [nums_size]; kernel_rfl) (by rw [nums_size, nums_size]) (nums_one _ _) ?_; intro w3 hg ho hs hB; have G3 := Lib.hid hg; have H3 := Lib.hid (show w3.heap[w2.heap.size + 1]? = some (.cells (nums 32 fun _ => 0) 75 (0, 0)) from (ho _ (by omega)).trans (alloc2_1 w2 _ _)); have B3 := Lib.hid (hB w.heap.size w ((B2.out.alloc B2.out.size _).alloc (by have := B2.out.size; simp <;> omega) _) B2.out.size); clear hg ho hs hB)
    | (refine store_old rfl 75 (.tmp 6) (.tmp 10) rfl rfl (w2.heap.size + 1) _ (nums 32 (allV b)) 75 H3.out (by show Value.pointer (some ⟨(w2.alloc _).heap.size, 0, none⟩) = _; rw [World.size_alloc]) rfl (by rw [nums_size]; kernel_rfl) (by rw [nums_size, nums_size]) (nums_one _ _) ?_; intro w4 hg ho hs hB; have H4 := Lib.hid hg; have G4 := Lib.hid ((ho w2.heap.size (by omega)).trans G3.out); have B4 := Lib.hid (hB w.heap.size w B3.out (by have := B2.out.size; omega)); clear hg ho hs hB)
    | (go_at_call 49; refine (MJ.out _ _ _ G4.out H4.out).mono ?_; rintro e w5 ⟨x, rfl, hx, hb⟩; have HX := Lib.hid hx; have B5 := Lib.hid (below_next B4.out hb); clear hx hb))
  go_ret
  exact ⟨_, rfl, HX.out, B5.out⟩
theorem dots_one (w : World) (r q : Int) : HasDots (w.alloc (.cells #[.int .i64 r, .int .i64 q] 44 (0, 0))) (.slice (some ⟨w.heap.size, 0, none⟩) 1 1) [(r, q)] := by
  refine ⟨some ⟨w.heap.size, 0, none⟩, 1, rfl, (fun h => by cases h), fun ad had => ?_⟩
  cases had
  refine ⟨Nat.le_refl _, fun j u hj => ?_⟩
  match j, hj with
  | 0, hj => exact (show _ = some (Value.int .i64 r) from (cell_of_row _ _ 0 _ _ _ (heap_last w _)).trans rfl).trans hj
  | 1, hj => rw [Addr.add_lit]; exact (show _ = some (Value.int .i64 q) from (cell_of_row _ _ (0 + 1) _ _ _ (heap_last w _)).trans rfl).trans hj
set_option maxRecDepth 100000 in
set_option maxHeartbeats 16000000 in
theorem vecLeq_any (a b : List D2) (ha : a.length < 2000000) (hb : b.length < 2000000) (v u : Value) (w : World) (hv : HasDots w v a) (hu : HasDots w u b) : Calls Tryd.prog 23 #[v, u] w fun e w' => e = .returned (.bool (leqV a b)) ∧ Below w.heap.size w w' := by
  have HV := Lib.hid hv
  have HU := Lib.hid hu
  have A1 := Lib.hid (fun w v hv => counts_V a ha v w hv)
  have A2 := Lib.hid (fun w v hv => counts_V b hb v w hv)
  obtain ⟨ao, cap, rfl⟩ := dots_shape hv a.length rfl
  obtain ⟨ao2, cap2, rfl⟩ := dots_shape hu b.length rfl
  obtain ⟨n, hn⟩ : ∃ n, n = a.length := ⟨_, rfl⟩
  obtain ⟨m, hm⟩ : ∃ m, m = b.length := ⟨_, rfl⟩
  rw [← hn] at HV ⊢
  rw [← hm] at HU ⊢
  clear hv hu ha hb hn hm
  go_enter Tryd.func23, Tryd.ntmps23
  go_wp2_with (first
    | (go_at_call 48; with_reducible refine (A1.out w _ HV.out).mono ?_; rintro e w1 ⟨rfl, hb⟩; have B1 := Lib.hid hb; clear hb)
    | (go_at_call 48; with_reducible refine (A2.out w1 _ (dots_below HU.out B1.out)).mono ?_; rintro e w2 ⟨rfl, hb⟩; have B2 := Lib.hid (below_next B1.out hb); clear hb)
    | (refine alloc_as rfl 75 rfl _ zero49 ?_)
    | (refine store_old rfl 75 (.tmp 5) (.tmp 10) rfl rfl w2.heap.size _ (nums 32 (allV a)) 75 (alloc2_0 w2 _ _) rfl rfl (by rw [nums_size]; kernel_rfl) (by rw [nums_size, nums_size]) (nums_one _ _) ?_; intro w3 hg ho hs hB; have G3 := Lib.hid hg; have H3 := Lib.hid (show w3.heap[w2.heap.size + 1]? = some (.cells (nums 32 fun _ => 0) 75 (0, 0)) from (ho _ (by omega)).trans (alloc2_1 w2 _ _)); have B3 := Lib.hid (hB w.heap.size w ((B2.out.alloc B2.out.size _).alloc (by have := B2.out.size; simp <;> omega) _) B2.out.size); clear hg ho hs hB)
    | (refine store_old rfl 75 (.tmp 6) (.tmp 12) rfl rfl (w2.heap.size + 1) _ (nums 32 (allV b)) 75 H3.out (by show Value.pointer (some ⟨(w2.alloc _).heap.size, 0, none⟩) = _; rw [World.size_alloc]) rfl (by rw [nums_size]; kernel_rfl) (by rw [nums_size, nums_size]) (nums_one _ _) ?_; intro w4 hg ho hs hB; have H4 := Lib.hid hg; have G4 := Lib.hid ((ho w2.heap.size (by omega)).trans G3.out); have B4 := Lib.hid (hB w.heap.size w B3.out (by have := B2.out.size; omega)); clear hg ho hs hB)
    | (refine load_nums rfl 75 (.tmp 5) rfl w2.heap.size rfl 75 32 (allV a) G4.out Tryd.underlying75 (by kernel_rfl) ?_))
  generalize w2.heap.size + 1 = H at *
  clear G3 H3 B3 B2 B1 G4
  go_loopw [14] (fun c wr => ∃ k : Nat, k ≤ 32 ∧ c = .int .i64 (k : Int) ∧ (∀ i, i < k → allV a i ≤ allV b i) ∧ wr.heap[H]? = some (.cells (nums 32 (allV b)) 75 (0, 0)) ∧ Below w.heap.size w wr) (fun c _ => 32 - (intOf c).toNat)
  case atStart => exact ⟨0, by omega, rfl, (fun i hi => absurd hi (by omega)), H4.out, B4.out⟩
  case round =>
    clear H4 B4
    obtain ⟨k, hk, rfl, hall, hh, hb⟩ := hrel
    by_cases hlt : k < 32
    · have q0 : (k : Int) < 32 := by omega
      have c1 := nums_cell hh k hlt
      have ix := fun w => index_nums (P := Tryd.prog) w (t := 75) (n := 32) (allV a) k hlt Tryd.underlying75 Tryd.underlying2 (by kernel_rfl)
      replace ix : ∀ w, (Instr.index 75 (numsV 32 (allV a)) (.int .i64 (k : Int))).run Tryd.prog w = .ok (.int .i64 (allV a k)) w := ix
      have HH := Lib.hid hh
      have HB := Lib.hid hb
      have HA := Lib.hid hall
      have KK := Lib.hid (show k + 1 ≤ 32 ∧ 32 - (k + 1) < 32 - k by omega)
      have HL := Lib.hid (leqV_iff a b)
      obtain ⟨x, hx⟩ : ∃ x, x = allV a k := ⟨_, rfl⟩
      obtain ⟨y, hy⟩ : ∃ y, y = allV b k := ⟨_, rfl⟩
      rw [← hx] at ix
      rw [← hy] at c1
      by_cases hgt : x > y
      · have d1 : decide (x > y) = true := decide_eq_true hgt
        have HF := Lib.hid (show leqV a b = false by
          cases h : leqV a b with
          | false => rfl
          | true => have := HL.out.1 h k hlt; omega)
        clear hall hh hb hgt hx hy
        go_wp2
        go_ret
        exact ⟨by rw [HF.out]; rfl, HB.out⟩
      · have d1 : decide (x > y) = false := decide_eq_false hgt
        have HN := Lib.hid (show ∀ i, i < k + 1 → allV a i ≤ allV b i from fun i hi => by
          by_cases e : i = k
          · subst e; omega
          · exact HA.out i (by omega))
        clear hall hh hb hgt hx hy
        go_wp2
        refine ⟨⟨k + 1, KK.out.1, by simp, HN.out, HH.out, HB.out⟩, ?_⟩
        have := KK.out.2; simp [intOf] <;> omega
    · have q0 : ¬ (k : Int) < 32 := by omega
      have HE := Lib.hid (show leqV a b = true from (leqV_iff a b).2 fun i hi => hall i (by omega))
      have HB := Lib.hid hb
      clear hall hh hb
      go_wp2
      go_ret
      exact ⟨by rw [HE.out]; rfl, HB.out⟩
end Go.Proofs.YtcnjgdnokiindaaDoor
namespace Go.Proofs.YtcnjgdnokiindaaDoor
open Go.RowKit
theorem dots_part {w : World} {ad : Addr} {n cap : Nat} {l : List D2} (h : HasDots w (.slice (some ad) n cap) l) (k : Nat) (hk : k ≤ n) (hn : n = l.length) : HasDots w (.slice (some ad) k cap) (l.take k) := by
  obtain ⟨ao, cap', e, hnil, hc⟩ := h
  injection e with e1 e2 e3
  subst e1 e3
  have hl : (l.take k).length = k := by rw [List.length_take]; omega
  refine ⟨some ad, cap, by rw [hl], (fun h => by cases h), fun ad' had => ?_⟩
  cases had
  refine ⟨by rw [hl]; have := (hc ad rfl).1; omega, fun j u hj => (hc ad rfl).2 j u ?_⟩
  obtain ⟨i, d, h1, h2⟩ := dotsC_inv _ j u hj
  have h3 : l[i]? = some d := by
    rw [List.getElem?_take] at h1
    split at h1
    · exact h1
    · cases h1
  obtain ⟨p1, p2⟩ := dotsC_at l i d h3
  rcases h2 with ⟨rfl, rfl⟩ | ⟨rfl, rfl⟩
  · exact p1
  · exact p2
theorem fol_no {l : List D2} {r q : Int} (h : mayD r q = false) : fol l (r, q) = false := by
  rw [fol, show mayT (r, q) = false from h]; rfl
theorem fol_nil {r q : Int} (h : mayD r q = true) : fol [] (r, q) = true := by
  rw [fol, show mayT (r, q) = true from h]; rfl
theorem fol_last {l : List D2} {r q r0 q0 : Int} {j : Nat} (h : mayD r q = true) (hj : l.length = j + 1) (hd : l[j]? = some (r0, q0)) : fol l (r, q) = decide (r0 < r) := by
  obtain ⟨a, b, rfl⟩ := list_snoc l (fun e => by rw [e] at hj; simp at hj)
  have ha : a.length = j := by simpa using hj
  subst ha
  obtain rfl : b = (r0, q0) := by simpa using hd
  rw [fol, show mayT (r, q) = true from h, List.getLastD_concat]
  simp
set_option maxRecDepth 100000 in
set_option maxHeartbeats 16000000 in
theorem mayFollow_any (l : List D2) (hl : l.length < 2000000) (r q : Int) (v : Value) (w : World) (hv : HasDots w v l) : Calls Tryd.prog 55 #[v, .agg #[.int .i64 r, .int .i64 q]] w fun e w' => e = .returned (.bool (fol l (r, q))) ∧ Below w.heap.size w w' := by
  have HV := Lib.hid hv
  have MY := Lib.hid (fun w => may_any9 r q w)
  have E0 := Lib.hid (show (w.alloc (.cells #[.int .i64 r, .int .i64 q] 44 (0, 0))).heap[w.heap.size]? = some (.cells #[.int .i64 r, .int .i64 q] 44 (0, 0)) from one_box w r q)
  have B0 := Lib.hid ((Below.refl w.heap.size w).alloc (Nat.le_refl _) (.cells #[.int .i64 r, .int .i64 q] 44 (0, 0)))
  cases hm : mayD r q with
  | false =>
    rw [hm] at MY
    have HR := Lib.hid (fol_no (l := l) hm)
    obtain ⟨ao, cap, rfl⟩ := dots_shape hv l.length rfl
    obtain ⟨n, hn⟩ : ∃ n, n = l.length := ⟨_, rfl⟩
    rw [← hn] at HV ⊢
    clear hv hl hn hm
    go_enter Tryd.func55, Tryd.ntmps55
    go_upto_region 1 with fail
    generalize w.alloc (.cells #[.int .i64 r, .int .i64 q] 44 (0, 0)) = W0 at *
    refine wp_region_held_drew (S := fun w' => Below W0.heap.size W0 w') (by kernel_rfl) (drawS (Below.refl _ _)) (fun hHeld => ?_)
    generalize W0.drew = wd at hHeld ⊢
    refine take_at (i := 0) 5 rfl rfl (by kernel_rfl) (by kernel_rfl) (by kernel_rfl) (fun _ _ _ h => h) (row_yields (by rfl) 44 (.tmp 3) rfl w.heap.size rfl 44 _ (0, 0) _ Tryd.underlying44 rfl (by kernel_rfl) (fun _ h => row_kept E0.out h)) hHeld ?_
    simp only [List.setIfInBounds_toArray, List.set_cons_zero, List.set_cons_succ]
    refine wpAnyH_ready (rs := [1]) (by kernel_rfl) (by simp) ?_
    refine AllReadyH.cons rfl (fun K hK => ?_) AllReadyH.nil
    go_simp
    go_at_call 45
    refine (MY.out _).mono ?_
    rintro e w6 ⟨rfl, hb⟩
    dsimp only
    refine hK.out _ _ (below_next hHeld hb) (fun hHeld => ?_)
    clear hK K hb
    refine take_at (i := 2) 7 rfl rfl (by kernel_rfl) (by kernel_rfl) (by kernel_rfl) (fun _ _ _ h => h) (sure_yes (by rfl) (fun w => by go_simp; try with_reducible rfl)) hHeld ?_
    simp only [List.setIfInBounds_toArray, List.set_cons_zero, List.set_cons_succ]
    refine take_at (i := 3) 8 rfl rfl (by kernel_rfl) (by kernel_rfl) (by kernel_rfl) (fun _ _ _ h => h) (.inr ⟨by rfl, rfl⟩) hHeld ?_
    simp only [List.setIfInBounds_toArray, List.set_cons_zero, List.set_cons_succ]
    refine take_at (i := 4) 9 rfl rfl (by kernel_rfl) (by kernel_rfl) (by kernel_rfl) (fun _ _ _ h => h) (.inr ⟨by rfl, rfl⟩) hHeld ?_
    simp only [List.setIfInBounds_toArray, List.set_cons_zero, List.set_cons_succ]
    refine take_at (i := 5) 10 rfl rfl (by kernel_rfl) (by kernel_rfl) (by kernel_rfl) (fun _ _ _ h => h) (.inr ⟨by rfl, rfl⟩) hHeld ?_
    simp only [List.setIfInBounds_toArray, List.set_cons_zero, List.set_cons_succ]
    refine take_at (i := 6) 11 rfl rfl (by kernel_rfl) (by kernel_rfl) (by kernel_rfl) (fun _ _ _ h => h) (.inr ⟨by rfl, rfl⟩) hHeld ?_
    simp only [List.setIfInBounds_toArray, List.set_cons_zero, List.set_cons_succ]
    refine take_at (i := 7) 12 rfl rfl (by kernel_rfl) (by kernel_rfl) (by kernel_rfl) (fun _ _ _ h => h) (.inr ⟨by rfl, rfl⟩) hHeld ?_
    simp only [List.setIfInBounds_toArray, List.set_cons_zero, List.set_cons_succ]
    refine take_at (i := 8) 13 rfl rfl (by kernel_rfl) (by kernel_rfl) (by kernel_rfl) (fun _ _ _ h => h) (.inr ⟨by rfl, rfl⟩) hHeld ?_
    simp only [List.setIfInBounds_toArray, List.set_cons_zero, List.set_cons_succ]
    refine take_at (i := 9) 14 rfl rfl (by kernel_rfl) (by kernel_rfl) (by kernel_rfl) (fun _ _ _ h => h) (.inr ⟨by rfl, rfl⟩) hHeld ?_
    simp only [List.setIfInBounds_toArray, List.set_cons_zero, List.set_cons_succ]
    refine take_at (i := 10) 15 rfl rfl (by kernel_rfl) (by kernel_rfl) (by kernel_rfl) (fun _ _ _ h => h) (.inr ⟨by rfl, rfl⟩) hHeld ?_
    simp only [List.setIfInBounds_toArray, List.set_cons_zero, List.set_cons_succ]
    refine take_at (i := 11) 16 rfl rfl (by kernel_rfl) (by kernel_rfl) (by kernel_rfl) (fun _ _ _ h => h) (.inr ⟨by rfl, rfl⟩) hHeld ?_
    simp only [List.setIfInBounds_toArray, List.set_cons_zero, List.set_cons_succ]
    refine take_at (i := 12) 17 rfl rfl (by kernel_rfl) (by kernel_rfl) (by kernel_rfl) (fun _ _ _ h => h) (.inr ⟨by rfl, rfl⟩) hHeld ?_
    simp only [List.setIfInBounds_toArray, List.set_cons_zero, List.set_cons_succ]
    refine take_at (i := 13) 18 rfl rfl (by kernel_rfl) (by kernel_rfl) (by kernel_rfl) (fun _ _ _ h => h) (.inr ⟨by rfl, rfl⟩) hHeld ?_
    simp only [List.setIfInBounds_toArray, List.set_cons_zero, List.set_cons_succ]
    refine take_at (i := 14) 19 rfl rfl (by kernel_rfl) (by kernel_rfl) (by kernel_rfl) (fun _ _ _ h => h) (.inr ⟨by rfl, rfl⟩) hHeld ?_
    simp only [List.setIfInBounds_toArray, List.set_cons_zero, List.set_cons_succ]
    refine take_at (i := 15) 20 rfl rfl (by kernel_rfl) (by kernel_rfl) (by kernel_rfl) (fun _ _ _ h => h) (.inr ⟨by rfl, rfl⟩) hHeld ?_
    simp only [List.setIfInBounds_toArray, List.set_cons_zero, List.set_cons_succ]
    refine take_at (i := 16) 21 rfl rfl (by kernel_rfl) (by kernel_rfl) (by kernel_rfl) (fun _ _ _ h => h) (.inr ⟨by rfl, rfl⟩) hHeld ?_
    simp only [List.setIfInBounds_toArray, List.set_cons_zero, List.set_cons_succ]
    refine take_at (i := 17) 22 rfl rfl (by kernel_rfl) (by kernel_rfl) (by kernel_rfl) (fun _ _ _ h => h) (.inr ⟨by rfl, rfl⟩) hHeld ?_
    simp only [List.setIfInBounds_toArray, List.set_cons_zero, List.set_cons_succ]
    refine take_at (i := 18) 23 rfl rfl (by kernel_rfl) (by kernel_rfl) (by kernel_rfl) (fun _ _ _ h => h) (sure_yes (by rfl) (fun w => by go_simp; try with_reducible rfl)) hHeld ?_
    simp only [List.setIfInBounds_toArray, List.set_cons_zero, List.set_cons_succ]
    refine take_at (i := 19) 4 rfl rfl (by kernel_rfl) (by kernel_rfl) (by kernel_rfl) (fun _ _ _ h => h) (sure_yes (by rfl) (fun w => by go_simp; try with_reducible rfl)) hHeld ?_
    simp only [List.setIfInBounds_toArray, List.set_cons_zero, List.set_cons_succ]
    refine wpAnyH_done (by kernel_rfl) ?_ _
    go_wp2
    go_ret
    exact ⟨by rw [HR.out]; rfl, below_next B0.out hHeld⟩
  | true =>
    rw [hm] at MY
    by_cases hnil : l = []
    · subst hnil
      have HR := Lib.hid (fol_nil hm)
      obtain ⟨ao, cap, rfl⟩ := dots_shape hv 0 rfl
      clear hv hl hm
      go_enter Tryd.func55, Tryd.ntmps55
      go_upto_region 1 with fail
      generalize w.alloc (.cells #[.int .i64 r, .int .i64 q] 44 (0, 0)) = W0 at *
      refine wp_region_held_drew (S := fun w' => Below W0.heap.size W0 w') (by kernel_rfl) (drawS (Below.refl _ _)) (fun hHeld => ?_)
      generalize W0.drew = wd at hHeld ⊢
      refine take_at (i := 0) 5 rfl rfl (by kernel_rfl) (by kernel_rfl) (by kernel_rfl) (fun _ _ _ h => h) (row_yields (by rfl) 44 (.tmp 3) rfl w.heap.size rfl 44 _ (0, 0) _ Tryd.underlying44 rfl (by kernel_rfl) (fun _ h => row_kept E0.out h)) hHeld ?_
      simp only [List.setIfInBounds_toArray, List.set_cons_zero, List.set_cons_succ]
      refine wpAnyH_ready (rs := [1]) (by kernel_rfl) (by simp) ?_
      refine AllReadyH.cons rfl (fun K hK => ?_) AllReadyH.nil
      go_simp
      go_at_call 45
      refine (MY.out _).mono ?_
      rintro e w6 ⟨rfl, hb⟩
      dsimp only
      refine hK.out _ _ (below_next hHeld hb) (fun hHeld => ?_)
      clear hK K hb
      refine take_at (i := 2) 7 rfl rfl (by kernel_rfl) (by kernel_rfl) (by kernel_rfl) (fun _ _ _ h => h) (sure_yes (by rfl) (fun w => by go_simp; try with_reducible rfl)) hHeld ?_
      simp only [List.setIfInBounds_toArray, List.set_cons_zero, List.set_cons_succ]
      refine take_at (i := 3) 8 rfl rfl (by kernel_rfl) (by kernel_rfl) (by kernel_rfl) (fun _ _ _ h => h) (sure_yes (by rfl) (fun w => by go_simp; try with_reducible rfl)) hHeld ?_
      simp only [List.setIfInBounds_toArray, List.set_cons_zero, List.set_cons_succ]
      refine take_at (i := 4) 9 rfl rfl (by kernel_rfl) (by kernel_rfl) (by kernel_rfl) (fun _ _ _ h => h) (sure_yes (by rfl) (fun w => by go_simp; try with_reducible rfl)) hHeld ?_
      simp only [List.setIfInBounds_toArray, List.set_cons_zero, List.set_cons_succ]
      refine take_at (i := 5) 10 rfl rfl (by kernel_rfl) (by kernel_rfl) (by kernel_rfl) (fun _ _ _ h => h) (sure_yes (by rfl) (fun w => by go_simp; try with_reducible rfl)) hHeld ?_
      simp only [List.setIfInBounds_toArray, List.set_cons_zero, List.set_cons_succ]
      refine take_at (i := 6) 11 rfl rfl (by kernel_rfl) (by kernel_rfl) (by kernel_rfl) (fun _ _ _ h => h) (sure_yes (by rfl) (fun w => by go_simp; try with_reducible rfl)) hHeld ?_
      simp only [List.setIfInBounds_toArray, List.set_cons_zero, List.set_cons_succ]
      refine take_at (i := 7) 12 rfl rfl (by kernel_rfl) (by kernel_rfl) (by kernel_rfl) (fun _ _ _ h => h) (.inr ⟨by rfl, rfl⟩) hHeld ?_
      simp only [List.setIfInBounds_toArray, List.set_cons_zero, List.set_cons_succ]
      refine take_at (i := 8) 13 rfl rfl (by kernel_rfl) (by kernel_rfl) (by kernel_rfl) (fun _ _ _ h => h) (.inr ⟨by rfl, rfl⟩) hHeld ?_
      simp only [List.setIfInBounds_toArray, List.set_cons_zero, List.set_cons_succ]
      refine take_at (i := 9) 14 rfl rfl (by kernel_rfl) (by kernel_rfl) (by kernel_rfl) (fun _ _ _ h => h) (.inr ⟨by rfl, rfl⟩) hHeld ?_
      simp only [List.setIfInBounds_toArray, List.set_cons_zero, List.set_cons_succ]
      refine take_at (i := 10) 15 rfl rfl (by kernel_rfl) (by kernel_rfl) (by kernel_rfl) (fun _ _ _ h => h) (.inr ⟨by rfl, rfl⟩) hHeld ?_
      simp only [List.setIfInBounds_toArray, List.set_cons_zero, List.set_cons_succ]
      refine take_at (i := 11) 16 rfl rfl (by kernel_rfl) (by kernel_rfl) (by kernel_rfl) (fun _ _ _ h => h) (.inr ⟨by rfl, rfl⟩) hHeld ?_
      simp only [List.setIfInBounds_toArray, List.set_cons_zero, List.set_cons_succ]
      refine take_at (i := 12) 17 rfl rfl (by kernel_rfl) (by kernel_rfl) (by kernel_rfl) (fun _ _ _ h => h) (.inr ⟨by rfl, rfl⟩) hHeld ?_
      simp only [List.setIfInBounds_toArray, List.set_cons_zero, List.set_cons_succ]
      refine take_at (i := 13) 18 rfl rfl (by kernel_rfl) (by kernel_rfl) (by kernel_rfl) (fun _ _ _ h => h) (.inr ⟨by rfl, rfl⟩) hHeld ?_
      simp only [List.setIfInBounds_toArray, List.set_cons_zero, List.set_cons_succ]
      refine take_at (i := 14) 19 rfl rfl (by kernel_rfl) (by kernel_rfl) (by kernel_rfl) (fun _ _ _ h => h) (.inr ⟨by rfl, rfl⟩) hHeld ?_
      simp only [List.setIfInBounds_toArray, List.set_cons_zero, List.set_cons_succ]
      refine take_at (i := 15) 20 rfl rfl (by kernel_rfl) (by kernel_rfl) (by kernel_rfl) (fun _ _ _ h => h) (.inr ⟨by rfl, rfl⟩) hHeld ?_
      simp only [List.setIfInBounds_toArray, List.set_cons_zero, List.set_cons_succ]
      refine take_at (i := 16) 21 rfl rfl (by kernel_rfl) (by kernel_rfl) (by kernel_rfl) (fun _ _ _ h => h) (.inr ⟨by rfl, rfl⟩) hHeld ?_
      simp only [List.setIfInBounds_toArray, List.set_cons_zero, List.set_cons_succ]
      refine take_at (i := 17) 22 rfl rfl (by kernel_rfl) (by kernel_rfl) (by kernel_rfl) (fun _ _ _ h => h) (sure_yes (by rfl) (fun w => by go_simp; try with_reducible rfl)) hHeld ?_
      simp only [List.setIfInBounds_toArray, List.set_cons_zero, List.set_cons_succ]
      refine take_at (i := 18) 23 rfl rfl (by kernel_rfl) (by kernel_rfl) (by kernel_rfl) (fun _ _ _ h => h) (sure_yes (by rfl) (fun w => by go_simp; try with_reducible rfl)) hHeld ?_
      simp only [List.setIfInBounds_toArray, List.set_cons_zero, List.set_cons_succ]
      refine take_at (i := 19) 4 rfl rfl (by kernel_rfl) (by kernel_rfl) (by kernel_rfl) (fun _ _ _ h => h) (sure_yes (by rfl) (fun w => by go_simp; try with_reducible rfl)) hHeld ?_
      simp only [List.setIfInBounds_toArray, List.set_cons_zero, List.set_cons_succ]
      refine wpAnyH_done (by kernel_rfl) ?_ _
      go_wp2
      go_ret
      exact ⟨by rw [HR.out]; rfl, below_next B0.out hHeld⟩
    · obtain ⟨j, hj⟩ : ∃ j, l.length = j + 1 := ⟨l.length - 1, by have := List.length_pos_iff.2 hnil; omega⟩
      obtain ⟨d, hd⟩ : ∃ d, l[j]? = some d := ⟨_, List.getElem?_eq_getElem (by omega)⟩
      obtain ⟨r0, q0⟩ := d
      have HR := Lib.hid (fol_last hm hj hd)
      obtain ⟨n, hn⟩ : ∃ n, n = l.length := ⟨_, rfl⟩
      obtain ⟨ad, cap, rfl, cd, -⟩ := dots_at hv n j hn.symm _ hd
      obtain ⟨c0, -⟩ := dot_cells (show _ = some (dotO r q) from E0.out)
      have CD := Lib.hid ((World.cell?_of_block (B0.out.block _ (World.block_lt_of_cell? _ _ cd))).trans cd)
      have C0 := Lib.hid c0
      have e1 : ((n : Int) == 0) = false := by rw [beq_eq_false_iff_ne]; omega
      have wj : IntKind.i64.wrap ((n : Int) - 1) = (j : Int) := by rw [IntKind.wrap_i64]; omega
      have qj : (j : Int) < (n : Int) := by omega
      clear hv hl hm hnil hj hd hn cd c0
      go_enter Tryd.func55, Tryd.ntmps55
      go_upto_region 1 with fail
      generalize w.alloc (.cells #[.int .i64 r, .int .i64 q] 44 (0, 0)) = W0 at *
      refine wp_region_held_drew (S := fun w' => Below W0.heap.size W0 w') (by kernel_rfl) (drawS (Below.refl _ _)) (fun hHeld => ?_)
      generalize W0.drew = wd at hHeld ⊢
      refine take_at (i := 0) 5 rfl rfl (by kernel_rfl) (by kernel_rfl) (by kernel_rfl) (fun _ _ _ h => h) (row_yields (by rfl) 44 (.tmp 3) rfl w.heap.size rfl 44 _ (0, 0) _ Tryd.underlying44 rfl (by kernel_rfl) (fun _ h => row_kept E0.out h)) hHeld ?_
      simp only [List.setIfInBounds_toArray, List.set_cons_zero, List.set_cons_succ]
      refine wpAnyH_ready (rs := [1]) (by kernel_rfl) (by simp) ?_
      refine AllReadyH.cons rfl (fun K hK => ?_) AllReadyH.nil
      go_simp
      go_at_call 45
      refine (MY.out _).mono ?_
      rintro e w6 ⟨rfl, hb⟩
      dsimp only
      refine hK.out _ _ (below_next hHeld hb) (fun hHeld => ?_)
      clear hK K hb
      refine take_at (i := 2) 7 rfl rfl (by kernel_rfl) (by kernel_rfl) (by kernel_rfl) (fun _ _ _ h => h) (sure_yes (by rfl) (fun w => by go_simp; try with_reducible rfl)) hHeld ?_
      simp only [List.setIfInBounds_toArray, List.set_cons_zero, List.set_cons_succ]
      refine take_at (i := 3) 8 rfl rfl (by kernel_rfl) (by kernel_rfl) (by kernel_rfl) (fun _ _ _ h => h) (sure_yes (by rfl) (fun w => by go_simp; try with_reducible rfl)) hHeld ?_
      simp only [List.setIfInBounds_toArray, List.set_cons_zero, List.set_cons_succ]
      refine take_at (i := 4) 9 rfl rfl (by kernel_rfl) (by kernel_rfl) (by kernel_rfl) (fun _ _ _ h => h) (sure_yes (by rfl) (fun w => by go_simp; try with_reducible rfl)) hHeld ?_
      simp only [List.setIfInBounds_toArray, List.set_cons_zero, List.set_cons_succ]
      refine take_at (i := 5) 10 rfl rfl (by kernel_rfl) (by kernel_rfl) (by kernel_rfl) (fun _ _ _ h => h) (sure_yes (by rfl) (fun w => by go_simp; try with_reducible rfl)) hHeld ?_
      simp only [List.setIfInBounds_toArray, List.set_cons_zero, List.set_cons_succ]
      refine take_at (i := 6) 11 rfl rfl (by kernel_rfl) (by kernel_rfl) (by kernel_rfl) (fun _ _ _ h => h) (sure_yes (by rfl) (fun w => by go_simp; try with_reducible rfl)) hHeld ?_
      simp only [List.setIfInBounds_toArray, List.set_cons_zero, List.set_cons_succ]
      refine take_at (i := 7) 12 rfl rfl (by kernel_rfl) (by kernel_rfl) (by kernel_rfl) (fun _ _ _ h => h) (sure_yes (by rfl) (fun w => by go_simp; try with_reducible rfl)) hHeld ?_
      simp only [List.setIfInBounds_toArray, List.set_cons_zero, List.set_cons_succ]
      refine take_at (i := 8) 13 rfl rfl (by kernel_rfl) (by kernel_rfl) (by kernel_rfl) (fun _ _ _ h => h) (sure_yes (by rfl) (fun w => by go_simp; try with_reducible rfl)) hHeld ?_
      simp only [List.setIfInBounds_toArray, List.set_cons_zero, List.set_cons_succ]
      refine take_at (i := 9) 14 rfl rfl (by kernel_rfl) (by kernel_rfl) (by kernel_rfl) (fun _ _ _ h => h) (sure_yes (by rfl) (fun w => by go_simp; try with_reducible rfl)) hHeld ?_
      simp only [List.setIfInBounds_toArray, List.set_cons_zero, List.set_cons_succ]
      refine take_at (i := 10) 15 rfl rfl (by kernel_rfl) (by kernel_rfl) (by kernel_rfl) (fun _ _ _ h => h) (sure_yes (by rfl) (fun w => by go_simp; try with_reducible rfl)) hHeld ?_
      simp only [List.setIfInBounds_toArray, List.set_cons_zero, List.set_cons_succ]
      refine take_at (i := 11) 16 rfl rfl (by kernel_rfl) (by kernel_rfl) (by kernel_rfl) (fun _ _ _ h => h) (sure_yes (by rfl) (fun w => by go_simp; try with_reducible rfl)) hHeld ?_
      simp only [List.setIfInBounds_toArray, List.set_cons_zero, List.set_cons_succ]
      refine take_at (i := 12) 17 rfl rfl (by kernel_rfl) (by kernel_rfl) (by kernel_rfl) (fun _ _ _ h => h) (sure_yes (by rfl) (fun w => by go_simp; try with_reducible rfl)) hHeld ?_
      simp only [List.setIfInBounds_toArray, List.set_cons_zero, List.set_cons_succ]
      refine take_at (i := 14) 19 rfl rfl (by kernel_rfl) (by kernel_rfl) (by kernel_rfl) (fun _ _ _ h => h) (sure_yes (by rfl) (fun w => by go_simp; try with_reducible rfl)) hHeld ?_
      simp only [List.setIfInBounds_toArray, List.set_cons_zero, List.set_cons_succ]
      refine take_at (i := 13) 18 rfl rfl (by kernel_rfl) (by kernel_rfl) (by kernel_rfl) (fun _ _ _ h => h) (addr_yields (by rfl) 3 (.tmp 17) rfl (ad.add (j * 2)) rfl .i64 r0 Tryd.underlying3 (fun w h => (World.cell?_of_block (h.block _ (World.block_lt_of_cell? _ _ CD.out))).trans CD.out)) hHeld ?_
      simp only [List.setIfInBounds_toArray, List.set_cons_zero, List.set_cons_succ]
      refine take_at (i := 15) 20 rfl rfl (by kernel_rfl) (by kernel_rfl) (by kernel_rfl) (fun _ _ _ h => h) (cell_yields (by rfl) 3 (.tmp 19) rfl w.heap.size 0 rfl .i64 r Tryd.underlying3 (fun w h => (World.cell?_of_block (h.block _ (World.block_lt_of_cell? _ _ C0.out))).trans C0.out)) hHeld ?_
      simp only [List.setIfInBounds_toArray, List.set_cons_zero, List.set_cons_succ]
      refine take_at (i := 16) 21 rfl rfl (by kernel_rfl) (by kernel_rfl) (by kernel_rfl) (fun _ _ _ h => h) (sure_yes (by rfl) (fun w => by go_simp; try with_reducible rfl)) hHeld ?_
      simp only [List.setIfInBounds_toArray, List.set_cons_zero, List.set_cons_succ]
      refine take_at (i := 17) 22 rfl rfl (by kernel_rfl) (by kernel_rfl) (by kernel_rfl) (fun _ _ _ h => h) (sure_yes (by rfl) (fun w => by go_simp; try with_reducible rfl)) hHeld ?_
      simp only [List.setIfInBounds_toArray, List.set_cons_zero, List.set_cons_succ]
      refine take_at (i := 18) 23 rfl rfl (by kernel_rfl) (by kernel_rfl) (by kernel_rfl) (fun _ _ _ h => h) (sure_yes (by rfl) (fun w => by go_simp; try with_reducible rfl)) hHeld ?_
      simp only [List.setIfInBounds_toArray, List.set_cons_zero, List.set_cons_succ]
      refine take_at (i := 19) 4 rfl rfl (by kernel_rfl) (by kernel_rfl) (by kernel_rfl) (fun _ _ _ h => h) (sure_yes (by rfl) (fun w => by go_simp; try with_reducible rfl)) hHeld ?_
      simp only [List.setIfInBounds_toArray, List.set_cons_zero, List.set_cons_succ]
      refine wpAnyH_done (by kernel_rfl) ?_ _
      go_wp2
      go_ret
      exact ⟨by rw [HR.out]; rfl, below_next B0.out hHeld⟩
set_option maxRecDepth 100000 in
set_option maxHeartbeats 16000000 in
theorem vecMay_any (l : List D2) (hl : l.length < 2000000) (v : Value) (w : World) (hv : HasDots w v l) : Calls Tryd.prog 42 #[v] w fun e w' => e = .returned (.bool (mayV l)) ∧ Below w.heap.size w w' := by
  have HV := Lib.hid hv
  obtain ⟨n, hn⟩ : ∃ n, n = l.length := ⟨_, rfl⟩
  obtain ⟨ao, cap, rfl⟩ := dots_shape hv n hn
  have HN := Lib.hid hn
  have hn4 : n < 2000000 := by omega
  clear hn hv hl
  go_enter Tryd.func42, Tryd.ntmps42
  go_wp2
  go_loopw [7] (fun c wr => ∃ k : Nat, k ≤ n ∧ c = .int .i64 (k : Int) ∧ mayV (l.take k) = true ∧ Below w.heap.size w wr) (fun c _ => n - (intOf c).toNat)
  case atStart => exact ⟨0, Nat.zero_le _, rfl, mayV_nil, Below.refl _ _⟩
  case round =>
    obtain ⟨k, hk, rfl, hok, hb⟩ := hrel
    by_cases hlt : k < n
    · have q0 : (k : Int) < (n : Int) := by omega
      have hkl : k < l.length := by rw [← HN.out]; exact hlt
      obtain ⟨d, hd⟩ : ∃ d, l[k]? = some d := ⟨_, List.getElem?_eq_getElem hkl⟩
      have HA := Lib.hid (mayV_take hd)
      obtain ⟨r, q⟩ := d
      have HVr := dots_below HV.out hb
      obtain ⟨ad, cap', e, c0, c1⟩ := dots_at HVr n k HN.out.symm _ hd
      cases e
      have C0 := Lib.hid (And.intro c0 c1)
      have KK := Lib.hid (show k + 1 ≤ n ∧ n - (k + 1) < n - k by omega)
      have D0 := Lib.hid (heap_last wr (.cells #[.int .i64 r, .int .i64 q] 44 (0, 0)))
      have B0 := Lib.hid (hb.alloc hb.size (.cells #[.int .i64 r, .int .i64 q] 44 (0, 0)))
      have HT := Lib.hid (dots_below (dots_part HVr k hk HN.out) ((Below.refl wr.heap.size wr).alloc (Nat.le_refl _) (.cells #[.int .i64 r, .int .i64 q] 44 (0, 0))))
      have MF := Lib.hid (fun w hv => mayFollow_any (l.take k) (by rw [List.length_take]; omega) r q (.slice (some ad) k cap) w hv)
      have q1 : (k : Int) ≤ (cap : Int) := by obtain ⟨ao, c', e, -, hc⟩ := HVr; injection e with e1 e2 e3; subst e3; have := (hc ad e1.symm).1; have := HN.out; omega
      have HO := Lib.hid hok
      obtain ⟨B, hB⟩ : ∃ B, fol (l.take k) (r, q) = B := ⟨_, rfl⟩
      rw [hB] at MF HA
      clear c0 c1 hb hd hkl HVr hok hB
      go_wp2_with (first
        | (refine load_dot10 (by rfl) 44 (.tmp 10) rfl (ad.add (k * 2)) rfl r q Tryd.underlying44 (by kernel_rfl) C0.out ?_))
      generalize wr.alloc (.cells #[.int .i64 r, .int .i64 q] 44 (0, 0)) = W1 at *
      refine wp_region_held_drew (S := fun w' => Below W1.heap.size W1 w') (by kernel_rfl) (drawS (Below.refl _ _)) (fun hHeld => ?_)
      generalize W1.drew = wd at hHeld ⊢
      refine take_at (i := 0) 12 rfl rfl (by kernel_rfl) (by kernel_rfl) (by kernel_rfl) (fun _ _ _ h => h) (sure_yes (by rfl) (fun w => by go_simp; try with_reducible rfl)) hHeld ?_
      simp only [List.setIfInBounds_toArray, List.set_cons_zero, List.set_cons_succ]
      refine take_at (i := 1) 13 rfl rfl (by kernel_rfl) (by kernel_rfl) (by kernel_rfl) (fun _ _ _ h => h) (sure_yes (by rfl) (fun w => by go_simp; try with_reducible rfl)) hHeld ?_
      simp only [List.setIfInBounds_toArray, List.set_cons_zero, List.set_cons_succ]
      refine take_at (i := 2) 14 rfl rfl (by kernel_rfl) (by kernel_rfl) (by kernel_rfl) (fun _ _ _ h => h) (sure_yes (by rfl) (fun w => by go_simp; try with_reducible rfl)) hHeld ?_
      simp only [List.setIfInBounds_toArray, List.set_cons_zero, List.set_cons_succ]
      refine take_at (i := 3) 15 rfl rfl (by kernel_rfl) (by kernel_rfl) (by kernel_rfl) (fun _ _ _ h => h) (row_yields (by rfl) 44 (.tmp 4) rfl wr.heap.size rfl 44 _ (0, 0) _ Tryd.underlying44 rfl (by kernel_rfl) (fun _ h => row_kept D0.out h)) hHeld ?_
      simp only [List.setIfInBounds_toArray, List.set_cons_zero, List.set_cons_succ]
      refine wpAnyH_ready (rs := [4]) (by kernel_rfl) (by simp) ?_
      refine AllReadyH.cons rfl (fun K hK => ?_) AllReadyH.nil
      go_simp
      go_at_call 55
      refine (MF.out _ (dots_below HT.out hHeld)).mono ?_
      rintro e w6 ⟨rfl, hb⟩
      dsimp only
      refine hK.out _ _ (below_next hHeld hb) (fun hHeld => ?_)
      clear hK K hb
      refine take_at (i := 5) 17 rfl rfl (by kernel_rfl) (by kernel_rfl) (by kernel_rfl) (fun _ _ _ h => h) (sure_yes (by rfl) (fun w => by go_simp; try with_reducible rfl)) hHeld ?_
      simp only [List.setIfInBounds_toArray, List.set_cons_zero, List.set_cons_succ]
      refine wpAnyH_done (by kernel_rfl) ?_ _
      cases B with
      | true =>
        go_wp2
        refine ⟨⟨k + 1, KK.out.1, by simp, by rw [HA.out, HO.out]; rfl, below_next B0.out hHeld⟩, ?_⟩
        simp [intOf]; exact KK.out.2
      | false =>
        have HF := Lib.hid (mayV_ahead (l := l) (k := k + 1) (by rw [HA.out, HO.out]; rfl))
        go_wp2
        go_ret
        exact ⟨by rw [HF.out]; rfl, below_next B0.out hHeld⟩
    · have q0 : ¬ (k : Int) < (n : Int) := by omega
      have HE := Lib.hid (show l.take k = l by rw [show k = l.length by rw [← HN.out]; omega, List.take_length])
      rw [HE.out] at hok
      have HO := Lib.hid hok
      have HB := Lib.hid hb
      clear hok hb
      go_wp2
      go_ret
      exact ⟨by rw [HO.out]; rfl, HB.out⟩
end Go.Proofs.YtcnjgdnokiindaaDoor
namespace Go.Proofs.YtcnjgdnokiindaaDoor
open Go.RowKit
set_option maxRecDepth 100000 in
theorem roster_any (n : Int) (w : World) : Calls Tryd.prog 27 #[.int .i64 n] w fun e w' => e = .returned (.bool (decide (1 ≤ n) && decide (n ≤ 32))) ∧ w = w' := by
  by_cases h1 : 1 ≤ n
  · have d1 : decide (n ≥ 1) = true := decide_eq_true h1
    by_cases h2 : n ≤ 32
    · have d2 : decide (n ≤ 32) = true := decide_eq_true h2
      have HR := Lib.hid (show (decide (1 ≤ n) && decide (n ≤ 32)) = true by simp [h1, h2])
      clear h1 h2
      go_enter Tryd.func27, Tryd.ntmps27
      go_wp2
      go_ret
      exact ⟨by rw [HR.out]; rfl, rfl⟩
    · have d2 : decide (n ≤ 32) = false := decide_eq_false h2
      have HR := Lib.hid (show (decide (1 ≤ n) && decide (n ≤ 32)) = false by simp [h2])
      clear h1 h2
      go_enter Tryd.func27, Tryd.ntmps27
      go_wp2
      go_ret
      exact ⟨by rw [HR.out]; rfl, rfl⟩
  · have d1 : decide (n ≥ 1) = false := decide_eq_false h1
    have HR := Lib.hid (show (decide (1 ≤ n) && decide (n ≤ 32)) = false by simp [h1])
    clear h1
    go_enter Tryd.func27, Tryd.ntmps27
    go_wp2
    go_ret
    exact ⟨by rw [HR.out]; rfl, rfl⟩
set_option maxRecDepth 100000 in
theorem has_any (ao : Option Addr) (n c : Nat) (r : Int) (w : World) : Calls Tryd.prog 39 #[.slice ao n c, .int .i64 r] w fun e w' => e = .returned (.bool (decide (0 ≤ r) && decide (r < (n : Int)))) ∧ w = w' := by
  by_cases h1 : 0 ≤ r
  · have d1 : decide (r ≥ 0) = true := decide_eq_true h1
    by_cases h2 : r < (n : Int)
    · have d2 : decide (r < (n : Int)) = true := decide_eq_true h2
      have HR := Lib.hid (show (decide (0 ≤ r) && decide (r < (n : Int))) = true by simp [h1, h2])
      clear h1 h2
      go_enter Tryd.func39, Tryd.ntmps39
      go_wp2
      go_ret
      exact ⟨by rw [HR.out]; rfl, rfl⟩
    · have d2 : decide (r < (n : Int)) = false := decide_eq_false h2
      have HR := Lib.hid (show (decide (0 ≤ r) && decide (r < (n : Int))) = false by rw [d2, Bool.and_false])
      clear h1 h2
      go_enter Tryd.func39, Tryd.ntmps39
      go_wp2
      go_ret
      exact ⟨by rw [HR.out]; rfl, rfl⟩
  · have d1 : decide (r ≥ 0) = false := decide_eq_false h1
    have HR := Lib.hid (show (decide (0 ≤ r) && decide (r < (n : Int))) = false by simp [h1])
    clear h1
    go_enter Tryd.func39, Tryd.ntmps39
    go_wp2
    go_ret
    exact ⟨by rw [HR.out]; rfl, rfl⟩
set_option maxRecDepth 100000 in
theorem infoVec : ∃ i, Tryd.prog.info? 37 = some i ∧ i.zero = some (.slice none 0 0) ∧ i.size = 1 ∧ i.bytes = 24 := by
  have h : (Tryd.prog.info? 37).map (fun i => (i.zero, i.size, i.bytes)) = some (some (.slice none 0 0), 1, 24) := by kernel_rfl
  cases hi : Tryd.prog.info? 37 with
  | none => rw [hi] at h; cases h
  | some i => rw [hi] at h; have := Option.some.inj h; simp only [Prod.mk.injEq] at this; exact ⟨i, rfl, this.1, this.2.1, this.2.2⟩
theorem infoVec3 {i : TypeInfo} (h : i.zero = some (.slice none 0 0) ∧ i.size = 1 ∧ i.bytes = 24) : (i.zero.map (·.cells.size), i.size, i.bytes) = (some 1, 1, 24) := by
  rw [h.1, h.2.1, h.2.2]; rfl
theorem own_made {w : World} {B g n : Nat} (h : w.ownsRow B 37 1 (.slice (some ⟨g, 0, none⟩) n n) n (madeCells (Value.slice none 0 0).cells (n * 1)).toList) : OwnMat B w (.slice (some ⟨g, 0, none⟩) n n) (List.replicate n (([] : List D2), Value.slice none 0 0)) := by
  refine ⟨?_, fun x hx => ?_⟩
  · rw [List.length_replicate, List.map_replicate]
    rw [show (Value.slice none 0 0).cells = #[Value.slice none 0 0] from rfl, toList_madeCells_one, Nat.mul_one] at h
    exact h
  · rw [List.mem_replicate] at hx
    obtain ⟨-, rfl⟩ := hx
    exact row_typ (typ_nil w)
set_option maxRecDepth 100000 in
theorem new_any (n : Nat) (h1 : 1 ≤ n) (h2 : n ≤ 32) (w : World) : Calls Tryd.prog 17 #[.int .i64 (n : Int)] w fun e w' => ∃ v, e = .returned v ∧ HasMat w' v (newM n) ∧ Below w.heap.size w w' := by
  obtain ⟨i0, hi, hz0, hz1, hz2⟩ := infoVec
  have RO := Lib.hid (roster_any (n : Int) w)
  rw [show (decide (1 ≤ (n : Int)) && decide ((n : Int) ≤ 32)) = true by simp; omega] at RO
  have HN := Lib.hid h2
  clear h1 h2
  go_enter Tryd.func17, Tryd.ntmps17
  go_wp2_with (first
    | (go_at_call 27; refine RO.out.mono ?_; rintro e w1 ⟨rfl, rfl⟩)
    | (refine wpList_make_full _ rfl (.tmp 6) (.tmp 6) 22 rfl w.heap.size 37 i0 (.slice none 0 0) 1 Tryd.underlying22 hi hz0 hz1 .i64 .i64 (n : Int) (n : Int) n rfl rfl rfl rfl (by rw [hz2]; have := HN.out; omega) (by unfold maxLen; have := HN.out; omega) (Nat.le_refl _) ?_; intro w1 ho1 hg1; have HO1 := Lib.hid (mat_of_own (own_made ho1)); have HB1 := Lib.hid (below_grown (Below.refl w.heap.size w) hg1 (Nat.le_refl _) (fun k hk => by cases hk)); clear ho1 hg1))
  go_ret
  exact ⟨_, rfl, by have h := HO1.out; rw [List.map_replicate] at h; exact h, HB1.out⟩
/-- Dots appended to a slice of dots of the call's own. -/
theorem append_dots {P : Program} {w : World} {ops : Array Oper} {rest : List Oper} {o : Oper} {a : Act} {Q : Exit → Act → World → Prop} (hgd : o.guard = none) (s x : Operand) (t : TypeId)
    (ho : o.op = .call { callee := .builtin .append, args := #[s, x], argTypes := #[t, t] })
    (base : Nat) (e : TypeId) (i : TypeInfo) (ht : P.underlying t = some (.slice e)) (hi : P.info? e = some i) (hz : (i.zero.map (·.cells.size), i.size, i.bytes) = (some 2, 2, 16))
    (v : Value) (l m : List D2) (hs : a.eval s = v) (hown : w.ownsRow base e 2 v l.length (dotsC l)) (ad : Addr) (n c : Nat) (hx : a.eval x = .slice (some ad) n c) (hn : n = m.length)
    (hc : ∀ j u, (dotsC m)[j]? = some u → w.cell? (ad.add j) = some u)
    (hlen : l.length + m.length ≤ 2000000) (hbase : base ≤ w.heap.size)
    (h : ∀ v' w', w'.ownsRow base e 2 v' (l ++ m).length (dotsC (l ++ m)) → w.grownBy w' v.ownBlock → wpList P ops Q rest (a.put o.dst v') w') : wpList P ops Q (o :: rest) a w := by
  simp only [Prod.mk.injEq] at hz
  obtain ⟨hz1, hz2, hz3⟩ := hz
  cases hzz : i.zero with
  | none => rw [hzz] at hz1; cases hz1
  | some z =>
    rw [hzz] at hz1
    simp only [Option.map_some, Option.some.injEq] at hz1
    refine wpList_append_own w hgd s x t ho base e i z 2 16 ht hi hzz hz2 hz3 hz1 (by decide) v l.length (dotsC l) hs hown ad n c (dotsC m) hx (by rw [dotsC_length, hn]) hc (fun u hu => dotsC_one m u hu)
      (by unfold maxLen; omega) (by omega) hbase fun v' w' h1 h2 _ => h v' w' (by rw [dotsC_append, List.length_append, ← hn]; exact h1) h2
set_option maxRecDepth 100000 in
set_option maxHeartbeats 4000000 in
theorem cloneV_any (l : List D2) (hl : l.length < 2000000) (v : Value) (w : World) (hv : HasDots w v l) : Calls Tryd.prog 47 #[v] w fun e w' => ∃ x, e = .returned x ∧ TypDots w' x l ∧ Below w.heap.size w w' := by
  obtain ⟨i0, hi, hz⟩ := infoDot
  have q22 : ∀ (w : World) (a : Option Addr) (n c n' c' : Nat), (binOp .eql 37 (.slice a n c) (.slice none n' c')).run Tryd.prog w = .ok (.bool a.isNone) w := fun w a n c n' c' => Lib.run_eql_slice_nil w _ _ a n c n' c' Tryd.underlying37
  have u22 : ∀ w, Sem.run Tryd.prog (underlying 37) w = .ok (TypeDesc.slice 44) w := run_underlying Tryd.underlying37
  obtain ⟨ao, cap, rfl, hnil, hc⟩ := hv
  cases ao with
  | none =>
    obtain ⟨rfl, rfl⟩ := hnil rfl
    clear hc hnil
    go_enter Tryd.func47, Tryd.ntmps47
    go_wp2
    go_ret
    exact ⟨_, rfl, typ_nil _, Below.refl _ _⟩
  | some ad =>
    have HC := Lib.hid (hc ad rfl).2
    have HL := Lib.hid hl
    obtain ⟨n, hn⟩ : ∃ n, n = l.length := ⟨_, rfl⟩
    have HN := Lib.hid hn
    rw [← hn]
    have HB := Lib.hid ((Below.refl w.heap.size w).alloc (Nat.le_refl _) (.cells #[] 44 (0, 0)))
    clear hc hnil hl hn
    go_enter Tryd.func47, Tryd.ntmps47
    go_wp2_with (first
      | (at_builtin; refine append_dots rfl (.tmp 5) (.tmp 6) 37 rfl w.heap.size 44 i0 Tryd.underlying37 hi hz _ [] l rfl (World.ownsRow_made w #[] 0 (Nat.le_refl _) (Nat.zero_le _) rfl) ad n cap rfl HN.out (fun j u hu => Lib.cell?_alloc_some _ (HC.out j u hu)) (by have := HL.out; simp; omega) (by simp) ?_; intro v1 w1 ho hg; rw [List.nil_append] at ho; have HO := Lib.hid (typ_of_own ho); have HB1 := Lib.hid (below_grown HB.out hg HB.out.size (fun k hk => Nat.le_of_eq (Option.some.inj (show some w.heap.size = some k from hk)))); clear ho hg))
    go_ret
    exact ⟨_, rfl, HO.out, HB1.out⟩
end Go.Proofs.YtcnjgdnokiindaaDoor
namespace Go.Proofs.YtcnjgdnokiindaaDoor
open Go.RowKit
set_option maxRecDepth 100000 in
set_option maxHeartbeats 4000000 in
theorem mayStep_any (b : Bool) (l : List D2) (hl : l.length < 2000000) (u : Value) (w : World) (hu : HasDots w u l) : Calls Tryd.prog 41 #[.bool b, u] w fun e w' => e = .returned (.bool (b && mayV l)) ∧ Below w.heap.size w w' := by
  have M1 := Lib.hid (vecMay_any l hl u w hu)
  obtain ⟨ao, cap, rfl⟩ := dots_shape hu l.length rfl
  obtain ⟨n, hn⟩ : ∃ n, n = l.length := ⟨_, rfl⟩
  rw [← hn] at M1 ⊢
  clear hu hl hn
  cases b with
  | true =>
    go_enter Tryd.func41, Tryd.ntmps41
    go_wp2_with (first
      | (go_at_call 42; refine M1.out.mono ?_; rintro e w1 ⟨rfl, hb⟩; have B1 := Lib.hid hb; clear hb))
    go_ret
    exact ⟨by rw [Bool.true_and]; rfl, B1.out⟩
  | false =>
    go_enter Tryd.func41, Tryd.ntmps41
    go_wp2
    go_ret
    exact ⟨by rw [Bool.false_and]; rfl, Below.refl _ _⟩
theorem all_take (m : M2) (k : Nat) (l : List D2) (hl : m[k]? = some l) : (m.take (k + 1)).all mayV = ((m.take k).all mayV && mayV l) := by
  rw [List.take_add_one, hl, List.all_append]; simp
theorem mayM_no {m : M2} {n : Int} (h : (decide (1 ≤ n) && decide (n ≤ 32)) = false ∨ (m.length : Int) ≠ n) : mayM m n = false := by
  unfold mayM
  rcases h with h | h
  · rw [h, Bool.and_false, Bool.and_false]
  · rw [decide_eq_false h, Bool.false_and, Bool.and_false]
theorem mayM_yes {m : M2} {n : Int} (h : (decide (1 ≤ n) && decide (n ≤ 32)) = true) (h2 : (m.length : Int) = n) : mayM m n = m.all mayV := by
  unfold mayM
  rw [h, decide_eq_true h2, Bool.and_true, Bool.and_true]
set_option maxRecDepth 100000 in
set_option maxHeartbeats 4000000 in
theorem matMay_any (m : M2) (hm : Fits m) (n : Int) (v : Value) (w : World) (hv : HasMat w v m) : Calls Tryd.prog 19 #[v, .int .i64 n] w fun e w' => e = .returned (.bool (mayM m n)) ∧ Below w.heap.size w w' := by
  have RO := Lib.hid (roster_any n w)
  have FO := Lib.hid (foldMay_any m (by have := hm.1; omega) v (.bool true) w hv (fun k t wr => t = .bool ((m.take k).all mayV) ∧ Below w.heap.size w wr) ⟨rfl, Below.refl _ _⟩ (fun _ _ _ h => h.2)
    (fun k l hl t u wr hI _ hu => by
      obtain ⟨rfl, hb⟩ := hI
      refine (mayStep_any _ l (fits_at hm hl) u wr hu).mono fun e w' ⟨h1, h2⟩ => ⟨_, h1, by rw [all_take m k l hl], below_next hb h2⟩))
  have HN := Lib.hid (fun h => mayM_no (m := m) (n := n) h)
  have HY := Lib.hid (fun h h2 => mayM_yes (m := m) (n := n) h h2)
  obtain ⟨ao, cap, rfl⟩ := mat_shape hv m.length rfl
  obtain ⟨N, hN⟩ : ∃ N, N = m.length := ⟨_, rfl⟩
  have hall : (m.take N).all mayV = m.all mayV := by rw [hN, List.take_length]
  have HA := Lib.hid hall
  rw [← hN] at FO HN HY ⊢
  obtain ⟨R, hR⟩ : ∃ R, R = (decide (1 ≤ n) && decide (n ≤ 32)) := ⟨_, rfl⟩
  rw [← hR] at RO HN HY
  clear hv hm hN hall hR
  cases R with
  | false =>
    have HE := Lib.hid (HN.out (.inl rfl))
    go_enter Tryd.func19, Tryd.ntmps19
    go_wp2_with (first
      | (go_at_call 27; refine RO.out.mono ?_; rintro e w1 ⟨rfl, rfl⟩))
    go_ret
    exact ⟨by rw [HE.out]; rfl, Below.refl _ _⟩
  | true =>
    by_cases h : (N : Int) = n
    · have t1 : ((N : Int) != n) = false := bne_eq_false_iff_eq.2 h
      have HE := Lib.hid (HY.out rfl h)
      clear h
      go_enter Tryd.func19, Tryd.ntmps19
      go_wp2_with (first
        | (go_at_call 27; refine RO.out.mono ?_; rintro e w1 ⟨rfl, rfl⟩)
        | (go_at_call 40; refine FO.out.mono ?_; rintro e w1 ⟨t', rfl, ⟨rfl, hb⟩⟩; have B1 := Lib.hid hb; clear hb))
      go_ret
      exact ⟨by rw [HE.out, ← HA.out]; rfl, B1.out⟩
    · have t1 : ((N : Int) != n) = true := bne_iff_ne.2 h
      have HE := Lib.hid (HN.out (.inr h))
      clear h
      go_enter Tryd.func19, Tryd.ntmps19
      go_wp2_with (first
        | (go_at_call 27; refine RO.out.mono ?_; rintro e w1 ⟨rfl, rfl⟩))
      go_ret
      exact ⟨by rw [HE.out]; rfl, Below.refl _ _⟩
set_option maxRecDepth 100000 in
set_option maxHeartbeats 4000000 in
theorem copyStep_any (B : Nat) (us : List R2) (l : List D2) (hl : l.length < 2000000) (t u : Value) (w : World) (hB : B ≤ w.heap.size) (ht : OwnMat B w t us) (hn : us.length + 1 ≤ 2000000) (hu : HasDots w u l) :
    Calls Tryd.prog 59 #[t, u] w fun e w' => ∃ t', e = .returned t' ∧ (∃ x, OwnMat B w' t' (us ++ [(l, x)])) ∧ Below B w w' := by
  obtain ⟨i0, hi, hz⟩ := infoVec
  have CL := Lib.hid (cloneV_any l hl u w hu)
  have HO := Lib.hid ht
  have HBB := Lib.hid hB
  have HNN := Lib.hid hn
  obtain ⟨ao, cap, rfl⟩ := dots_shape hu l.length rfl
  obtain ⟨tao, tcap, rfl⟩ := ownMat_shape ht
  obtain ⟨N, hN⟩ : ∃ N, N = us.length := ⟨_, rfl⟩
  obtain ⟨n, hn⟩ : ∃ n, n = l.length := ⟨_, rfl⟩
  have HL := Lib.hid hn
  rw [← hN] at HO ⊢
  rw [← hn] at CL ⊢
  clear hu hl ht hn hN hB
  go_enter Tryd.func59, Tryd.ntmps59
  go_wp2_with (first
    | (go_at_call 47; refine CL.out.mono ?_; rintro e w1 ⟨x, rfl, hx, hb⟩; have HX := Lib.hid hx; obtain ⟨xo, xc, rfl⟩ := dots_shape hx.1 n HL.out; have B1 := Lib.hid hb; have O1 := Lib.hid (ownMat_below HO.out hb); clear hb hx)
    | (at_builtin; refine append_row rfl (.tmp 5) (.tmp 8) 22 rfl B i0 Tryd.underlying22 hi (infoVec3 hz) _ us (l, .slice xo n xc) rfl (ownMat_below O1.out ((Below.refl _ _).alloc (Nat.le_refl _) _)) (row_typ (typ_below HX.out ((Below.refl _ _).alloc (Nat.le_refl _) _))) ⟨w1.heap.size, 0, none⟩ 1 rfl ((cell_of_row _ _ 0 _ _ _ (heap_last w1 _)).trans rfl) HNN.out (by have := B1.out.size; have := HBB.out; simp <;> omega) ?_; intro v2 w2 ho hg; have HO2 := Lib.hid ho; have HB2 := Lib.hid (below_grown ((B1.out.mono HBB.out).alloc (by have := B1.out.size; have := HBB.out; omega) _) hg (by have := B1.out.size; have := HBB.out; simp <;> omega) (fun j hj => (O1.out.1.lt j hj).1)); clear ho hg))
  go_ret
  exact ⟨_, rfl, ⟨_, HO2.out⟩, HB2.out⟩
set_option maxRecDepth 100000 in
set_option maxHeartbeats 4000000 in
theorem copied_any (m : M2) (hm : Fits m) (v : Value) (w : World) (hv : HasMat w v m) : Calls Tryd.prog 33 #[v] w fun e w' => ∃ x, e = .returned x ∧ (∃ us : List R2, us.map (·.1) = m ∧ OwnMat w.heap.size w' x us) ∧ Below w.heap.size w w' := by
  have FO := Lib.hid (foldCopy_any m (by have := hm.1; omega) v (.slice none 0 0) w hv (fun k t wr => (∃ us : List R2, us.map (·.1) = m.take k ∧ OwnMat w.heap.size wr t us) ∧ Below w.heap.size w wr) ⟨⟨[], rfl, ownMat_nil _ _⟩, Below.refl _ _⟩ (fun _ _ _ h => h.2)
    (fun k l hl t u wr hI _ hu => by
      obtain ⟨⟨us, h1, h2⟩, hb⟩ := hI
      have hlen : us.length + 1 ≤ 2000000 := by
        have e := congrArg List.length h1
        rw [List.length_map, List.length_take] at e
        have := hm.1; omega
      refine (copyStep_any w.heap.size us l (fits_at hm hl) t u wr hb.size h2 hlen hu).mono fun e w' ⟨t', h3, ⟨x, h4⟩, h5⟩ => ⟨t', h3, ⟨us ++ [(l, x)], ?_, h4⟩, hb.trans h5⟩
      rw [List.map_append, h1, List.take_add_one, hl]; rfl))
  obtain ⟨ao, cap, rfl⟩ := mat_shape hv m.length rfl
  obtain ⟨N, hN⟩ : ∃ N, N = m.length := ⟨_, rfl⟩
  have HA := Lib.hid (show m.take N = m by rw [hN, List.take_length])
  rw [← hN] at FO ⊢
  clear hv hm hN
  go_enter Tryd.func33, Tryd.ntmps33
  go_wp2_with (first
    | (go_at_call 58; refine FO.out.mono ?_; rintro e w1 ⟨t', rfl, h1, hb⟩; have H1 := Lib.hid h1; have B1 := Lib.hid hb; clear hb h1))
  go_ret
  exact ⟨_, rfl, by rw [← HA.out]; exact H1.out, B1.out⟩
theorem rowM_out {m : M2} {r : Int} (h : (decide (0 ≤ r) && decide (r < (m.length : Int))) = false) : rowM m r = [] := by
  unfold rowM
  by_cases h0 : 0 ≤ r
  · have : ¬ r < (m.length : Int) := fun h1 => by simp [h0, h1] at h
    rw [if_pos h0, List.getD_eq_getElem?_getD, List.getElem?_eq_none (by omega)]; rfl
  · rw [if_neg h0]
theorem rowM_in {m : M2} {r : Int} (h : (decide (0 ≤ r) && decide (r < (m.length : Int))) = true) : ∃ k : Nat, r = (k : Int) ∧ k < m.length ∧ m[k]? = some (rowM m r) := by
  rw [Bool.and_eq_true, decide_eq_true_eq, decide_eq_true_eq] at h
  refine ⟨r.toNat, by omega, by omega, ?_⟩
  rw [rowM, if_pos h.1, List.getD_eq_getElem?_getD, List.getElem?_eq_getElem (by omega)]; rfl
set_option maxRecDepth 100000 in
set_option maxHeartbeats 4000000 in
theorem matRow_any (m : M2) (hm : Fits m) (r : Int) (v : Value) (w : World) (hv : HasMat w v m) : Calls Tryd.prog 22 #[v, .int .i64 r] w fun e w' => ∃ x, e = .returned x ∧ HasDots w' x (rowM m r) ∧ Below w.heap.size w w' := by
  have HM := Lib.hid hm
  cases hR : (decide (0 ≤ r) && decide (r < (m.length : Int))) with
  | false =>
    have HE := Lib.hid (rowM_out hR)
    obtain ⟨ao, cap, rfl⟩ := mat_shape hv m.length rfl
    have HA := Lib.hid (has_any ao m.length cap r w)
    rw [hR] at HA
    obtain ⟨N, hN⟩ : ∃ N, N = m.length := ⟨_, rfl⟩
    rw [← hN] at HA ⊢
    clear hv hm hN hR
    go_enter Tryd.func22, Tryd.ntmps22
    go_wp2_with (first
      | (go_at_call 39; refine HA.out.mono ?_; rintro e w1 ⟨rfl, rfl⟩))
    go_ret
    exact ⟨_, rfl, by rw [HE.out]; exact dots_nil _, Below.refl _ _⟩
  | true =>
    obtain ⟨k, rfl, hk, hl⟩ := rowM_in hR
    obtain ⟨ad, cap, u, rfl, c0, hd⟩ := mat_at hv m.length k rfl _ hl
    have HA := Lib.hid (has_any (some ad) m.length cap (k : Int) w)
    rw [hR] at HA
    have CL := Lib.hid (cloneV_any _ (fits_at hm hl) u w hd)
    obtain ⟨N, hN⟩ : ∃ N, N = m.length := ⟨_, rfl⟩
    rw [← hN] at HA hk ⊢
    have q0 : (k : Int) < (N : Int) := by omega
    clear hv hm hN hR hl hd hk
    go_enter Tryd.func22, Tryd.ntmps22
    go_wp2_with (first
      | (go_at_call 39; refine HA.out.mono ?_; rintro e w1 ⟨rfl, rfl⟩)
      | (go_at_call 47; refine CL.out.mono ?_; rintro e w1 ⟨x, rfl, hx, hb⟩; have HX := Lib.hid hx; have B1 := Lib.hid hb; clear hb hx))
    go_ret
    exact ⟨_, rfl, HX.out.1, B1.out⟩
end Go.Proofs.YtcnjgdnokiindaaDoor
