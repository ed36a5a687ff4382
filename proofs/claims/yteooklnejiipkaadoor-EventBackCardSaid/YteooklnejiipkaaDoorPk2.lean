/-
Texts that all claims of this seat share, part 2: VecCounts, VecMade, Law09Orders, VecSmall, VecMay, EventMay, EventOrd.
-/
import Derived.Test.YteooklnejiipkaaDoorPk1
namespace Go.Proofs.YteooklnejiipkaaDoor
open Go.RowKit
theorem zero49 : (Tryd.prog.info? 68).map (fun i => i.zero) = some (some (.agg (nums 32 fun _ => 0))) := by kernel_rfl
theorem seen_max (i : Nat) (m : Int) (d : D2) (hm : mayT d = true) (hd : d.1 = (i : Int)) : seen i m d = max m d.2 := by
  unfold seen
  by_cases h : m < d.2
  · rw [if_pos ⟨hm, hd, h⟩]; omega
  · rw [if_neg (fun hh => h hh.2.2)]; omega
set_option maxRecDepth 100000 in
set_option maxHeartbeats 16000000 in
theorem counts_long (l : List D2) (hl : l.length < 10000000000000) (v : Value) (w : World) (hv : HasDots w v l) : Calls Tryd.prog 37 #[v] w fun e w' => e = .returned (.agg (nums 32 (allV l))) ∧ Below w.heap.size w w' := by
  have HV := Lib.hid hv
  obtain ⟨n, hn⟩ : ∃ n, n = l.length := ⟨_, rfl⟩
  obtain ⟨ao, cap, rfl⟩ := dots_shape hv n hn
  have HN := Lib.hid hn
  have hn4 : n < 10000000000000 := by omega
  have Z0 := heap_last w (.cells (nums 32 fun _ => 0) 68 (0, 0))
  have Z1 := heap_last (w.alloc (.cells (nums 32 fun _ => 0) 68 (0, 0))) (.cells (nums 32 fun _ => 0) 68 (0, 0))
  have HZ := Lib.hid (And.intro (show ((w.alloc (.cells (nums 32 fun _ => 0) 68 (0, 0))).alloc (.cells (nums 32 fun _ => 0) 68 (0, 0))).heap[w.heap.size]? = some (.cells (nums 32 fun _ => 0) 68 (0, 0)) by rw [heap_at_alloc, if_neg (by simp)]; exact Z0) (by rwa [World.size_alloc] at Z1))
  have HB := Lib.hid (((Below.refl w.heap.size w).alloc (Nat.le_refl _) (.cells (nums 32 fun _ => 0) 68 (0, 0))).alloc (by simp) (.cells (nums 32 fun _ => 0) 68 (0, 0)))
  clear hn hv hl Z0 Z1
  go_enter Tryd.func37, Tryd.ntmps37
  go_wp2_with (first | (refine alloc_as rfl 68 rfl _ zero49 ?_))
  generalize ((w.alloc (.cells (nums 32 fun _ => 0) 68 (0, 0))).alloc (.cells (nums 32 fun _ => 0) 68 (0, 0))) = W0 at *
  go_loopw [8] (fun c wr => ∃ k : Nat, k ≤ n ∧ c = .int .i64 (k : Int) ∧ wr.heap[w.heap.size]? = some (.cells (nums 32 fun _ => 0) 68 (0, 0)) ∧ wr.heap[w.heap.size + 1]? = some (.cells (nums 32 (allV (l.take k))) 68 (0, 0)) ∧ Below w.heap.size w wr) (fun c _ => n - (intOf c).toNat)
  case atStart => exact ⟨0, Nat.zero_le _, rfl, HZ.out.1, HZ.out.2, HB.out⟩
  case round =>
    clear HZ HB
    obtain ⟨k, hk, rfl, hz, ho, hb⟩ := hrel
    by_cases hlt : k < n
    · have q0 : (k : Int) < (n : Int) := by omega
      have hkl : k < l.length := by rw [← HN.out]; exact hlt
      obtain ⟨d, hd⟩ : ∃ d, l[k]? = some d := ⟨_, List.getElem?_eq_getElem hkl⟩
      have HA := Lib.hid (allV_at hd)
      obtain ⟨r, q⟩ := d
      obtain ⟨ad, cap', e, c0, c1⟩ := dots_at (dots_below HV.out hb) n k HN.out.symm _ hd
      cases e
      have C0 := Lib.hid (And.intro c0 c1)
      have MY := Lib.hid (fun w => may_any9 r q w)
      have KK := Lib.hid (show k + 1 ≤ n ∧ n - (k + 1) < n - k by omega)
      have D0 := Lib.hid (heap_last wr (.cells #[.int .i64 r, .int .i64 q] 23 (0, 0)))
      have B0 := Lib.hid (hb.alloc hb.size (.cells #[.int .i64 r, .int .i64 q] 23 (0, 0)))
      have K0 := (Below.refl wr.heap.size wr).alloc (Nat.le_refl _) (.cells #[.int .i64 r, .int .i64 q] 23 (0, 0))
      have Z0 := Lib.hid (row_kept hz K0)
      have O0 := Lib.hid (row_kept ho K0)
      have LS := Lib.hid (show w.heap.size + 1 < wr.heap.size from by obtain ⟨h, -⟩ := Array.getElem?_eq_some_iff.1 ho; exact h)
      clear c0 c1 hz ho hb hd hkl K0
      generalize hW1 : wr.alloc (.cells #[.int .i64 r, .int .i64 q] 23 (0, 0)) = W1 at *
      cases hm : mayD r q with
      | false =>
        rw [hm] at MY
        have HS := Lib.hid (show nums 32 (allV (l.take (k + 1))) = nums 32 (allV (l.take k)) from nums_congr _ _ _ fun i _ => by
          rw [HA.out i, seen, if_neg (fun h => by have h2 := h.1; rw [mayT, hm] at h2; cases h2)])
        clear hm HA
        go_wp2_with (first
          | (refine load_dot10 (by rfl) 23 (.tmp 10) rfl (ad.add (k * 2)) rfl r q Tryd.underlying23 (by kernel_rfl) C0.out ?_; try rw [hW1])
          | (refine load_row_on (by rfl) 23 (.tmp 5) rfl wr.heap.size rfl 23 _ (0, 0) _ D0.out Tryd.underlying23 rfl (by kernel_rfl) ?_)
          | (go_at_call 24; refine (MY.out _).mono ?_; rintro e w1 ⟨rfl, hb⟩; have Z1 := Lib.hid (row_kept Z0.out hb); have O1 := Lib.hid (row_kept O0.out hb); have B1 := Lib.hid (below_next B0.out hb); clear hb))
        refine ⟨⟨k + 1, KK.out.1, by simp, Z1.out, by rw [HS.out]; exact O1.out, B1.out⟩, ?_⟩
        simp [intOf]; exact KK.out.2
      | true =>
        rw [hm] at MY
        have hb := mayT_bd (d := (r, q)) hm
        simp only at hb
        obtain ⟨i, hi⟩ : ∃ i : Nat, r = (i : Int) := ⟨r.toNat, by omega⟩
        subst hi
        have hi32 : i < 32 := by omega
        have qi : (i : Int) < 32 := by omega
        obtain ⟨m, hme⟩ : ∃ m, m = allV (l.take k) i := ⟨_, rfl⟩
        obtain ⟨M, hM⟩ : ∃ M, M = max m q := ⟨_, rfl⟩
        have HS := Lib.hid (show (nums 32 (allV (l.take k))).setIfInBounds i (.int .i64 M) = nums 32 (allV (l.take (k + 1))) from nums_set _ _ _ _ _ fun j _ => by
          rw [HA.out j]
          by_cases hj : j = i
          · subst hj; rw [if_pos rfl, seen_max _ _ ((j : Int), q) (show mayT ((j : Int), q) = true from hm) rfl, hM, hme]
          · rw [if_neg hj, seen, if_neg (fun h => hj (by have := h.2.1; simp only at this; omega))])
        have NC := Lib.hid (fun (w' : World) (h : w'.heap[w.heap.size + 1]? = some (.cells (nums 32 (allV (l.take k))) 68 (0, 0))) => show w'.cell? ⟨w.heap.size + 1, i, none⟩ = some (.int .i64 m) by rw [hme]; exact nums_cell h i hi32)
        have hI := Lib.hid hi32
        have hMM : (if m < q then q else m) = M := by rw [hM]; split <;> omega
        have hMX : max m q = M := hM.symm
        clear hm HA hb hme hi32 hM
        go_wp2_with (first
          | (refine load_dot10 (by rfl) 23 (.tmp 10) rfl (ad.add (k * 2)) rfl (i : Int) q Tryd.underlying23 (by kernel_rfl) C0.out ?_; try rw [hW1])
          | (refine load_row_on (by rfl) 23 (.tmp 5) rfl wr.heap.size rfl 23 _ (0, 0) _ D0.out Tryd.underlying23 rfl (by kernel_rfl) ?_)
          | (go_at_call 24; refine (MY.out _).mono ?_; rintro e w1 ⟨rfl, hb⟩; have Z1 := Lib.hid (row_kept Z0.out hb); have O1 := Lib.hid (row_kept O0.out hb); have D1 := Lib.hid (row_kept D0.out hb); have B1 := Lib.hid (below_next B0.out hb); clear hb))
        obtain ⟨c0, c1⟩ := dot_cells (show _ = some (dotO (i : Int) q) from D1.out)
        have cm := NC.out _ O1.out
        go_still_tail 10, (by kernel_rfl)
        change wpList _ _ _ _ _ w1.drew
        have hz : w1.drew.heap[w.heap.size]? = _ := Z1.out
        have ho : w1.drew.heap[w.heap.size + 1]? = _ := O1.out
        have hb := below_draws B1.out 1
        change Below _ _ w1.drew at hb
        clear O1 Z1 B1 c0 c1 cm D1
        generalize w1.drew = w7 at *
        go_wp2_with (first
          | (refine store_cell rfl 2 (.tmp 23) (.tmp 22) rfl rfl .i64 (w.heap.size + 1) i _ M 68 ho rfl rfl (by rw [nums_size]; exact hI.out) (by kernel_rfl) ?_; intro w8 hg8 hs8; rw [HS.out] at hg8; have H8 := Lib.hid (And.intro hg8 (And.intro ((hs8.block w.heap.size (by omega)).trans hz) (solo_below hb hs8 (by omega)))); clear hg8 hs8 hz ho hb))
        refine ⟨⟨k + 1, KK.out.1, by simp, H8.out.2.1, H8.out.1, H8.out.2.2⟩, ?_⟩
        simp [intOf]; exact KK.out.2
    · have q0 : ¬ (k : Int) < (n : Int) := by omega
      have HE := Lib.hid (show l.take k = l by rw [show k = l.length by rw [← HN.out]; omega, List.take_length])
      rw [HE.out] at ho
      have HZ := Lib.hid hz
      have HO := Lib.hid ho
      have HB := Lib.hid hb
      clear hz ho hb
      go_wp2_with (first
        | (refine wpList_load_row rfl 68 (.tmp 3) rfl (w.heap.size + 1) rfl 68 _ (0, 0) _ HO.out Tryd.underlying68 rfl (by rw [nums_size]; kernel_rfl) ?_)
        | (refine wpList_store_row rfl 68 (.tmp 2) (.tmp 25) rfl w.heap.size _ rfl rfl 68 _ HZ.out (by rw [nums_size]; kernel_rfl) (by rw [nums_size, nums_size]) (nums_one _ _) ?_))
      exact bodyPost_ret (results_cell_row Tryd.results37 _ _ w.heap.size 68 _ (0, 0) _ rfl (setRow_heap _ _ _ _ _ _ HZ.out) Tryd.underlying68 rfl (by rw [nums_size]; kernel_rfl)) rfl ⟨rfl, below_setRow HB.out (Nat.le_refl _) _⟩
theorem counts_any (l : List D2) (hl : l.length < 2000000) (v : Value) (w : World) (hv : HasDots w v l) : Calls Tryd.prog 37 #[v] w fun e w' => e = .returned (.agg (nums 32 (allV l))) ∧ Below w.heap.size w w' := counts_long l (by omega) v w hv
end Go.Proofs.YteooklnejiipkaaDoor
namespace Go.Proofs.YteooklnejiipkaaDoor
open Go.RowKit
set_option maxRecDepth 100000 in
set_option maxHeartbeats 4000000 in
theorem closeText_any (f : Nat → Int) (G i : Nat) (hi : i < 32) (w : World) (hG : w.heap[G]? = some (.cells (nums 32 f) 68 (0, 0))) : Calls Tryd.prog 39 #[.int .i64 (i : Int), .pointer (some ⟨G, 0, none⟩)] w fun e w' => e = .returned (.int .i64 (f i)) ∧ Below w.heap.size w w' := by
  have c0 := nums_cell hG i hi
  have q0 : (i : Int) < 32 := by omega
  obtain ⟨a, ha⟩ : ∃ a, a = f i := ⟨_, rfl⟩
  rw [← ha] at c0 ⊢
  clear hG hi ha
  go_enter Tryd.func39, Tryd.ntmps39
  go_wp2
  go_ret
  exact ⟨rfl, Below.refl _ _⟩
set_option maxRecDepth 100000 in
set_option maxHeartbeats 16000000 in
theorem madeText_any (f : Nat → Int) (G : Nat) (w : World) (hG : w.heap[G]? = some (.cells (nums 32 f) 68 (0, 0))) : Calls Tryd.prog 38 #[.func (.func 39) #[] #[.pointer (some ⟨G, 0, none⟩)]] w fun e w' => ∃ v, e = .returned v ∧ HasDots w' v (ofV (f)) ∧ Below w.heap.size w w' := by
  obtain ⟨i0, hi, hz⟩ := infoDot

  obtain ⟨F, hF⟩ : ∃ F, F = f := ⟨_, rfl⟩
  rw [← hF]
  have CL := Lib.hid (fun (k : Nat) (hk : k < 32) (wr : World) (hb : Below w.heap.size w wr) => show Calls Tryd.prog 39 #[.int .i64 (k : Int), .pointer (some ⟨G, 0, none⟩)] wr fun e w' => e = .returned (.int .i64 (F k)) ∧ Below wr.heap.size wr w' by rw [hF]; exact closeText_any f G k hk wr (row_kept hG hb))
  clear hG
  clear hF
  go_enter Tryd.func38, Tryd.ntmps38
  go_wp2
  go_loopw [3, 6] (fun v c wr => ∃ k : Nat, k ≤ 32 ∧ c = .int .i64 (k : Int) ∧ wr.ownsRow w.heap.size 23 2 v (ofN F k).length (dotsC (ofN F k)) ∧ Below w.heap.size w wr) (fun _ c _ => 32 - (intOf c).toNat)
  case atStart => exact ⟨0, by omega, rfl, dots_own_nil _ _ _, Below.refl _ _⟩
  case round =>
    obtain ⟨k, hk, rfl, ho, hb⟩ := hrel
    have HO := Lib.hid ho
    have HB := Lib.hid hb
    by_cases hlt : k < 32
    · have q0 : (k : Int) < 32 := by omega
      have HL := Lib.hid (ofN_length F k)
      have KK := Lib.hid (show k + 1 ≤ 32 ∧ 32 - (k + 1) < 32 - k by omega)
      have CC := Lib.hid (CL.out k hlt wr hb)
      obtain ⟨m, hm⟩ : ∃ m, m = F k := ⟨_, rfl⟩
      rw [← hm] at CC
      by_cases hp : 0 < m
      · have d1 : decide (m > 0) = true := decide_eq_true hp
        have HN := Lib.hid (show ofN F (k + 1) = ofN F k ++ [((k : Int), m)] by rw [ofN, if_pos (by rw [← hm]; exact hp), ← hm])
        clear hp hm ho hb hlt
        go_wp2_with (first
          | (go_at_call 39; refine CC.out.mono ?_; rintro e w1 ⟨rfl, hb⟩; have O1 := Lib.hid (own_below HO.out hb); have B1 := Lib.hid (below_next HB.out hb); clear hb)
          | (refine build_on (by rfl) 23 #[(0, .tmp 15), (1, .tmp 16)] rfl _ _ (dot_built2 (k : Int) m) (by simp [Act.eval]) ?_)
          | (at_builtin; refine append_dot rfl (.tmp 14) (.tmp 18) 25 rfl w.heap.size 23 i0 Tryd.underlying25 hi hz _ (ofN F k) ((k : Int), m) rfl (O1.out.alloc _) ⟨w1.heap.size, 0, none⟩ 1 rfl ⟨(cell_of_row _ _ 0 _ _ _ (heap_last w1 _)).trans rfl, by rw [Addr.add_lit]; exact (cell_of_row _ _ (0 + 1) _ _ _ (heap_last w1 _)).trans rfl⟩ (by have := HL.out; have := KK.out.1; omega) (by have := B1.out.size; simp <;> omega) ?_; intro v1 w2 ho hg; rw [← HN.out] at ho; have HO1 := Lib.hid ho; have HB1 := Lib.hid (below_grown (B1.out.alloc B1.out.size _) hg (by have := B1.out.size; simp <;> omega) (fun j hj => by have := (O1.out.lt j hj).1; omega)); clear ho hg))
        refine ⟨⟨k + 1, KK.out.1, by simp, HO1.out, HB1.out⟩, ?_⟩
        have := KK.out.2; simp [intOf]; omega
      · have d1 : decide (m > 0) = false := decide_eq_false hp
        have HN := Lib.hid (show ofN F (k + 1) = ofN F k by rw [ofN, if_neg (by rw [← hm]; exact hp), List.append_nil])
        clear hp hm ho hb hlt
        go_wp2_with (first
          | (go_at_call 39; refine CC.out.mono ?_; rintro e w1 ⟨rfl, hb⟩; have O1 := Lib.hid (own_below HO.out hb); have B1 := Lib.hid (below_next HB.out hb); clear hb))
        refine ⟨⟨k + 1, KK.out.1, by simp, by rw [HN.out]; exact O1.out, B1.out⟩, ?_⟩
        have := KK.out.2; simp [intOf]; omega
    · have q0 : ¬ (k : Int) < 32 := by omega
      obtain rfl : k = 32 := by omega
      have HD := Lib.hid (dots_of_own HO.out)
      clear ho hb hlt
      go_wp2
      go_ret
      exact ⟨_, rfl, HD.out, HB.out⟩
end Go.Proofs.YteooklnejiipkaaDoor
namespace Go.Proofs.YteooklnejiipkaaDoor
open Go.RowKit
theorem row_yields {P : Program} {ops : Array Oper} {S : World → Prop} {o : Oper} {a : Act} (hw : Region.wanted o (yielded ops a.tmps) = true) (ty : TypeId) (x : Operand) (ho : o.op = .load ty x) (g : Nat) (hx : a.eval x = .pointer (some ⟨g, 0, none⟩)) (t : TypeId) (cs : Array Value) (fr : Nat × Nat) (d : TypeDesc)
    (hu : P.underlying ty = some d) (hd : (match d with | .struct _ | .array _ _ => true | _ => false) = true) (hi : (P.info? ty).map (·.size) = some cs.size) (hS : ∀ w, S w → w.heap[g]? = some (.cells cs t fr)) : YieldsIf P ops S o (.agg cs) a :=
  .inl ⟨hw, fun w h => by
    unfold execOp
    simp [ho, hx, Instr.loadAt, Instr.sureAddr, run_loadVar_row w g t ty cs fr d (hS w h) hu hd hi]⟩
end Go.Proofs.YteooklnejiipkaaDoor
namespace Go.Proofs.YteooklnejiipkaaDoor
open Go.RowKit
theorem counts_V (l : List D2) (hl : l.length < 2000000) (v : Value) (w : World) (hv : HasDots w v l) : Calls Tryd.prog 37 #[v] w fun e w' => e = .returned (numsV 32 (allV l)) ∧ Below w.heap.size w w' := counts_any l hl v w hv
set_option maxRecDepth 100000 in
set_option maxHeartbeats 16000000 in
theorem vecGet_any (l : List D2) (hl : l.length < 2000000) (r : Int) (v : Value) (w : World) (hv : HasDots w v l) : Calls Tryd.prog 50 #[v, .int .i64 r] w fun e w' => e = .returned (.int .i64 (getV l r)) ∧ Below w.heap.size w w' := by
  have HV := Lib.hid hv
  have A1 := Lib.hid (fun w v hv => counts_V l hl v w hv)
  obtain ⟨ao, cap, rfl⟩ := dots_shape hv l.length rfl
  obtain ⟨n, hn⟩ : ∃ n, n = l.length := ⟨_, rfl⟩
  rw [← hn] at HV ⊢
  clear hv hl hn
  by_cases h0 : r < 0
  · have d1 : decide (r < 0) = true := decide_eq_true h0
    have HR := Lib.hid (show getV l r = 0 by rw [getV, if_pos (.inl h0)])
    clear h0
    go_enter Tryd.func50, Tryd.ntmps50
    go_wp2
    go_ret
    exact ⟨by rw [HR.out]; rfl, Below.refl _ _⟩
  · have d1 : decide (r < 0) = false := decide_eq_false h0
    by_cases h1 : 31 < r
    · have d2 : decide (r ≥ 32) = true := decide_eq_true (by omega)
      have HR := Lib.hid (show getV l r = 0 by rw [getV, if_pos (.inr h1)])
      clear h0 h1
      go_enter Tryd.func50, Tryd.ntmps50
      go_wp2
      go_ret
      exact ⟨by rw [HR.out]; rfl, Below.refl _ _⟩
    · have d2 : decide (r ≥ 32) = false := decide_eq_false (by omega)
      obtain ⟨i, hi⟩ : ∃ i : Nat, r = (i : Int) := ⟨r.toNat, by omega⟩
      subst hi
      have ix := fun w => index_nums (P := Tryd.prog) w (t := 68) (n := 32) (allV l) i (by omega) Tryd.underlying68 Tryd.underlying2 (by kernel_rfl)
      replace ix : ∀ w, (Instr.index 68 (numsV 32 (allV l)) (.int .i64 (i : Int))).run Tryd.prog w = .ok (.int .i64 (allV l i)) w := ix
      have HR := Lib.hid (show getV l (i : Int) = allV l i by rw [getV, if_neg (by omega), Int.toNat_natCast])
      clear h0 h1
      go_enter Tryd.func50, Tryd.ntmps50
      go_wp2_with (first
        | (go_at_call 37; refine (A1.out w _ HV.out).mono ?_; rintro e w1 ⟨rfl, hb⟩; have B1 := Lib.hid hb; clear hb))
      go_ret
      exact ⟨by rw [HR.out]; rfl, B1.out⟩
end Go.Proofs.YteooklnejiipkaaDoor
namespace Go.Proofs.YteooklnejiipkaaDoor
open Go.RowKit
theorem dots_part {w : World} {ad : Addr} {n cap : Nat} {l : List D2} (h : HasDots w (.slice (some ad) n cap) l) (k : Nat) (hk : k ≤ n) (hn : n = l.length) : HasDots w (.slice (some ad) k cap) (l.take k) := by
  obtain ⟨ao, cap', e, hnil, hc⟩ := h
  injection e with e1 e2 e3
  subst e1 e3
  have hl : (l.take k).length = k := by rw [List.length_take]; omega
  refine ⟨some ad, cap, by rw [hl], (fun h => by cases h), fun ad' had => ?_⟩
  cases had
  refine ⟨by rw [hl]; have := (hc ad rfl).1; omega, fun j u hj => (hc ad rfl).2 j u ?_⟩
  obtain ⟨i, d, h1, h2⟩ := dotsC_inv _ j u hj
  have h3 : l[i]? = some d := by
    rw [List.getElem?_take] at h1
    split at h1
    · exact h1
    · cases h1
  obtain ⟨p1, p2⟩ := dotsC_at l i d h3
  rcases h2 with ⟨rfl, rfl⟩ | ⟨rfl, rfl⟩
  · exact p1
  · exact p2
theorem fol_no {l : List D2} {r q : Int} (h : mayD r q = false) : fol l (r, q) = false := by
  rw [fol, show mayT (r, q) = false from h]; rfl
theorem fol_nil {r q : Int} (h : mayD r q = true) : fol [] (r, q) = true := by
  rw [fol, show mayT (r, q) = true from h]; rfl
theorem fol_last {l : List D2} {r q r0 q0 : Int} {j : Nat} (h : mayD r q = true) (hj : l.length = j + 1) (hd : l[j]? = some (r0, q0)) : fol l (r, q) = decide (r0 < r) := by
  obtain ⟨a, b, rfl⟩ := list_snoc l (fun e => by rw [e] at hj; simp at hj)
  have ha : a.length = j := by simpa using hj
  subst ha
  obtain rfl : b = (r0, q0) := by simpa using hd
  rw [fol, show mayT (r, q) = true from h, List.getLastD_concat]
  simp
set_option maxRecDepth 100000 in
set_option maxHeartbeats 16000000 in
theorem mayFollow_any (l : List D2) (hl : l.length < 2000000) (r q : Int) (v : Value) (w : World) (hv : HasDots w v l) : Calls Tryd.prog 67 #[v, .agg #[.int .i64 r, .int .i64 q]] w fun e w' => e = .returned (.bool (fol l (r, q))) ∧ Below w.heap.size w w' := by
  have HV := Lib.hid hv
  have MY := Lib.hid (fun w => may_any9 r q w)
  have E0 := Lib.hid (show (w.alloc (.cells #[.int .i64 r, .int .i64 q] 23 (0, 0))).heap[w.heap.size]? = some (.cells #[.int .i64 r, .int .i64 q] 23 (0, 0)) from one_box w r q)
  have B0 := Lib.hid ((Below.refl w.heap.size w).alloc (Nat.le_refl _) (.cells #[.int .i64 r, .int .i64 q] 23 (0, 0)))
  cases hm : mayD r q with
  | false =>
    rw [hm] at MY
    have HR := Lib.hid (fol_no (l := l) hm)
    obtain ⟨ao, cap, rfl⟩ := dots_shape hv l.length rfl
    obtain ⟨n, hn⟩ : ∃ n, n = l.length := ⟨_, rfl⟩
    rw [← hn] at HV ⊢
    clear hv hl hn hm
    go_enter Tryd.func67, Tryd.ntmps67
    go_upto_region 1 with fail
    generalize w.alloc (.cells #[.int .i64 r, .int .i64 q] 23 (0, 0)) = W0 at *
    refine wp_region_held_drew (S := fun w' => Below W0.heap.size W0 w') (by kernel_rfl) (drawS (Below.refl _ _)) (fun hHeld => ?_)
    generalize W0.drew = wd at hHeld ⊢
    refine take_at (i := 0) 5 rfl rfl (by kernel_rfl) (by kernel_rfl) (by kernel_rfl) (fun _ _ _ h => h) (row_yields (by rfl) 23 (.tmp 3) rfl w.heap.size rfl 23 _ (0, 0) _ Tryd.underlying23 rfl (by kernel_rfl) (fun _ h => row_kept E0.out h)) hHeld ?_
    simp only [List.setIfInBounds_toArray, List.set_cons_zero, List.set_cons_succ]
    refine wpAnyH_ready (rs := [1]) (by kernel_rfl) (by simp) ?_
    refine AllReadyH.cons rfl (fun K hK => ?_) AllReadyH.nil
    go_simp
    go_at_call 24
    refine (MY.out _).mono ?_
    rintro e w6 ⟨rfl, hb⟩
    dsimp only
    refine hK.out _ _ (below_next hHeld hb) (fun hHeld => ?_)
    clear hK K hb
    refine take_at (i := 2) 7 rfl rfl (by kernel_rfl) (by kernel_rfl) (by kernel_rfl) (fun _ _ _ h => h) (sure_yes (by rfl) (fun w => by go_simp; try with_reducible rfl)) hHeld ?_
    simp only [List.setIfInBounds_toArray, List.set_cons_zero, List.set_cons_succ]
    refine take_at (i := 3) 8 rfl rfl (by kernel_rfl) (by kernel_rfl) (by kernel_rfl) (fun _ _ _ h => h) (.inr ⟨by rfl, rfl⟩) hHeld ?_
    simp only [List.setIfInBounds_toArray, List.set_cons_zero, List.set_cons_succ]
    refine take_at (i := 4) 9 rfl rfl (by kernel_rfl) (by kernel_rfl) (by kernel_rfl) (fun _ _ _ h => h) (.inr ⟨by rfl, rfl⟩) hHeld ?_
    simp only [List.setIfInBounds_toArray, List.set_cons_zero, List.set_cons_succ]
    refine take_at (i := 5) 10 rfl rfl (by kernel_rfl) (by kernel_rfl) (by kernel_rfl) (fun _ _ _ h => h) (.inr ⟨by rfl, rfl⟩) hHeld ?_
    simp only [List.setIfInBounds_toArray, List.set_cons_zero, List.set_cons_succ]
    refine take_at (i := 6) 11 rfl rfl (by kernel_rfl) (by kernel_rfl) (by kernel_rfl) (fun _ _ _ h => h) (.inr ⟨by rfl, rfl⟩) hHeld ?_
    simp only [List.setIfInBounds_toArray, List.set_cons_zero, List.set_cons_succ]
    refine take_at (i := 7) 12 rfl rfl (by kernel_rfl) (by kernel_rfl) (by kernel_rfl) (fun _ _ _ h => h) (.inr ⟨by rfl, rfl⟩) hHeld ?_
    simp only [List.setIfInBounds_toArray, List.set_cons_zero, List.set_cons_succ]
    refine take_at (i := 8) 13 rfl rfl (by kernel_rfl) (by kernel_rfl) (by kernel_rfl) (fun _ _ _ h => h) (.inr ⟨by rfl, rfl⟩) hHeld ?_
    simp only [List.setIfInBounds_toArray, List.set_cons_zero, List.set_cons_succ]
    refine take_at (i := 9) 14 rfl rfl (by kernel_rfl) (by kernel_rfl) (by kernel_rfl) (fun _ _ _ h => h) (.inr ⟨by rfl, rfl⟩) hHeld ?_
    simp only [List.setIfInBounds_toArray, List.set_cons_zero, List.set_cons_succ]
    refine take_at (i := 10) 15 rfl rfl (by kernel_rfl) (by kernel_rfl) (by kernel_rfl) (fun _ _ _ h => h) (.inr ⟨by rfl, rfl⟩) hHeld ?_
    simp only [List.setIfInBounds_toArray, List.set_cons_zero, List.set_cons_succ]
    refine take_at (i := 11) 16 rfl rfl (by kernel_rfl) (by kernel_rfl) (by kernel_rfl) (fun _ _ _ h => h) (.inr ⟨by rfl, rfl⟩) hHeld ?_
    simp only [List.setIfInBounds_toArray, List.set_cons_zero, List.set_cons_succ]
    refine take_at (i := 12) 17 rfl rfl (by kernel_rfl) (by kernel_rfl) (by kernel_rfl) (fun _ _ _ h => h) (.inr ⟨by rfl, rfl⟩) hHeld ?_
    simp only [List.setIfInBounds_toArray, List.set_cons_zero, List.set_cons_succ]
    refine take_at (i := 13) 18 rfl rfl (by kernel_rfl) (by kernel_rfl) (by kernel_rfl) (fun _ _ _ h => h) (.inr ⟨by rfl, rfl⟩) hHeld ?_
    simp only [List.setIfInBounds_toArray, List.set_cons_zero, List.set_cons_succ]
    refine take_at (i := 14) 19 rfl rfl (by kernel_rfl) (by kernel_rfl) (by kernel_rfl) (fun _ _ _ h => h) (.inr ⟨by rfl, rfl⟩) hHeld ?_
    simp only [List.setIfInBounds_toArray, List.set_cons_zero, List.set_cons_succ]
    refine take_at (i := 15) 20 rfl rfl (by kernel_rfl) (by kernel_rfl) (by kernel_rfl) (fun _ _ _ h => h) (.inr ⟨by rfl, rfl⟩) hHeld ?_
    simp only [List.setIfInBounds_toArray, List.set_cons_zero, List.set_cons_succ]
    refine take_at (i := 16) 21 rfl rfl (by kernel_rfl) (by kernel_rfl) (by kernel_rfl) (fun _ _ _ h => h) (.inr ⟨by rfl, rfl⟩) hHeld ?_
    simp only [List.setIfInBounds_toArray, List.set_cons_zero, List.set_cons_succ]
    refine take_at (i := 17) 22 rfl rfl (by kernel_rfl) (by kernel_rfl) (by kernel_rfl) (fun _ _ _ h => h) (.inr ⟨by rfl, rfl⟩) hHeld ?_
    simp only [List.setIfInBounds_toArray, List.set_cons_zero, List.set_cons_succ]
    refine take_at (i := 18) 23 rfl rfl (by kernel_rfl) (by kernel_rfl) (by kernel_rfl) (fun _ _ _ h => h) (sure_yes (by rfl) (fun w => by go_simp; try with_reducible rfl)) hHeld ?_
    simp only [List.setIfInBounds_toArray, List.set_cons_zero, List.set_cons_succ]
    refine take_at (i := 19) 4 rfl rfl (by kernel_rfl) (by kernel_rfl) (by kernel_rfl) (fun _ _ _ h => h) (sure_yes (by rfl) (fun w => by go_simp; try with_reducible rfl)) hHeld ?_
    simp only [List.setIfInBounds_toArray, List.set_cons_zero, List.set_cons_succ]
    refine wpAnyH_done (by kernel_rfl) ?_ _
    go_wp2
    go_ret
    exact ⟨by rw [HR.out]; rfl, below_next B0.out hHeld⟩
  | true =>
    rw [hm] at MY
    by_cases hnil : l = []
    · subst hnil
      have HR := Lib.hid (fol_nil hm)
      obtain ⟨ao, cap, rfl⟩ := dots_shape hv 0 rfl
      clear hv hl hm
      go_enter Tryd.func67, Tryd.ntmps67
      go_upto_region 1 with fail
      generalize w.alloc (.cells #[.int .i64 r, .int .i64 q] 23 (0, 0)) = W0 at *
      refine wp_region_held_drew (S := fun w' => Below W0.heap.size W0 w') (by kernel_rfl) (drawS (Below.refl _ _)) (fun hHeld => ?_)
      generalize W0.drew = wd at hHeld ⊢
      refine take_at (i := 0) 5 rfl rfl (by kernel_rfl) (by kernel_rfl) (by kernel_rfl) (fun _ _ _ h => h) (row_yields (by rfl) 23 (.tmp 3) rfl w.heap.size rfl 23 _ (0, 0) _ Tryd.underlying23 rfl (by kernel_rfl) (fun _ h => row_kept E0.out h)) hHeld ?_
      simp only [List.setIfInBounds_toArray, List.set_cons_zero, List.set_cons_succ]
      refine wpAnyH_ready (rs := [1]) (by kernel_rfl) (by simp) ?_
      refine AllReadyH.cons rfl (fun K hK => ?_) AllReadyH.nil
      go_simp
      go_at_call 24
      refine (MY.out _).mono ?_
      rintro e w6 ⟨rfl, hb⟩
      dsimp only
      refine hK.out _ _ (below_next hHeld hb) (fun hHeld => ?_)
      clear hK K hb
      refine take_at (i := 2) 7 rfl rfl (by kernel_rfl) (by kernel_rfl) (by kernel_rfl) (fun _ _ _ h => h) (sure_yes (by rfl) (fun w => by go_simp; try with_reducible rfl)) hHeld ?_
      simp only [List.setIfInBounds_toArray, List.set_cons_zero, List.set_cons_succ]
      refine take_at (i := 3) 8 rfl rfl (by kernel_rfl) (by kernel_rfl) (by kernel_rfl) (fun _ _ _ h => h) (sure_yes (by rfl) (fun w => by go_simp; try with_reducible rfl)) hHeld ?_
      simp only [List.setIfInBounds_toArray, List.set_cons_zero, List.set_cons_succ]
      refine take_at (i := 4) 9 rfl rfl (by kernel_rfl) (by kernel_rfl) (by kernel_rfl) (fun _ _ _ h => h) (sure_yes (by rfl) (fun w => by go_simp; try with_reducible rfl)) hHeld ?_
      simp only [List.setIfInBounds_toArray, List.set_cons_zero, List.set_cons_succ]
      refine take_at (i := 5) 10 rfl rfl (by kernel_rfl) (by kernel_rfl) (by kernel_rfl) (fun _ _ _ h => h) (sure_yes (by rfl) (fun w => by go_simp; try with_reducible rfl)) hHeld ?_
      simp only [List.setIfInBounds_toArray, List.set_cons_zero, List.set_cons_succ]
      refine take_at (i := 6) 11 rfl rfl (by kernel_rfl) (by kernel_rfl) (by kernel_rfl) (fun _ _ _ h => h) (sure_yes (by rfl) (fun w => by go_simp; try with_reducible rfl)) hHeld ?_
      simp only [List.setIfInBounds_toArray, List.set_cons_zero, List.set_cons_succ]
      refine take_at (i := 7) 12 rfl rfl (by kernel_rfl) (by kernel_rfl) (by kernel_rfl) (fun _ _ _ h => h) (.inr ⟨by rfl, rfl⟩) hHeld ?_
      simp only [List.setIfInBounds_toArray, List.set_cons_zero, List.set_cons_succ]
      refine take_at (i := 8) 13 rfl rfl (by kernel_rfl) (by kernel_rfl) (by kernel_rfl) (fun _ _ _ h => h) (.inr ⟨by rfl, rfl⟩) hHeld ?_
      simp only [List.setIfInBounds_toArray, List.set_cons_zero, List.set_cons_succ]
      refine take_at (i := 9) 14 rfl rfl (by kernel_rfl) (by kernel_rfl) (by kernel_rfl) (fun _ _ _ h => h) (.inr ⟨by rfl, rfl⟩) hHeld ?_
      simp only [List.setIfInBounds_toArray, List.set_cons_zero, List.set_cons_succ]
      refine take_at (i := 10) 15 rfl rfl (by kernel_rfl) (by kernel_rfl) (by kernel_rfl) (fun _ _ _ h => h) (.inr ⟨by rfl, rfl⟩) hHeld ?_
      simp only [List.setIfInBounds_toArray, List.set_cons_zero, List.set_cons_succ]
      refine take_at (i := 11) 16 rfl rfl (by kernel_rfl) (by kernel_rfl) (by kernel_rfl) (fun _ _ _ h => h) (.inr ⟨by rfl, rfl⟩) hHeld ?_
      simp only [List.setIfInBounds_toArray, List.set_cons_zero, List.set_cons_succ]
      refine take_at (i := 12) 17 rfl rfl (by kernel_rfl) (by kernel_rfl) (by kernel_rfl) (fun _ _ _ h => h) (.inr ⟨by rfl, rfl⟩) hHeld ?_
      simp only [List.setIfInBounds_toArray, List.set_cons_zero, List.set_cons_succ]
      refine take_at (i := 13) 18 rfl rfl (by kernel_rfl) (by kernel_rfl) (by kernel_rfl) (fun _ _ _ h => h) (.inr ⟨by rfl, rfl⟩) hHeld ?_
      simp only [List.setIfInBounds_toArray, List.set_cons_zero, List.set_cons_succ]
      refine take_at (i := 14) 19 rfl rfl (by kernel_rfl) (by kernel_rfl) (by kernel_rfl) (fun _ _ _ h => h) (.inr ⟨by rfl, rfl⟩) hHeld ?_
      simp only [List.setIfInBounds_toArray, List.set_cons_zero, List.set_cons_succ]
      refine take_at (i := 15) 20 rfl rfl (by kernel_rfl) (by kernel_rfl) (by kernel_rfl) (fun _ _ _ h => h) (.inr ⟨by rfl, rfl⟩) hHeld ?_
      simp only [List.setIfInBounds_toArray, List.set_cons_zero, List.set_cons_succ]
      refine take_at (i := 16) 21 rfl rfl (by kernel_rfl) (by kernel_rfl) (by kernel_rfl) (fun _ _ _ h => h) (.inr ⟨by rfl, rfl⟩) hHeld ?_
      simp only [List.setIfInBounds_toArray, List.set_cons_zero, List.set_cons_succ]
      refine take_at (i := 17) 22 rfl rfl (by kernel_rfl) (by kernel_rfl) (by kernel_rfl) (fun _ _ _ h => h) (sure_yes (by rfl) (fun w => by go_simp; try with_reducible rfl)) hHeld ?_
      simp only [List.setIfInBounds_toArray, List.set_cons_zero, List.set_cons_succ]
      refine take_at (i := 18) 23 rfl rfl (by kernel_rfl) (by kernel_rfl) (by kernel_rfl) (fun _ _ _ h => h) (sure_yes (by rfl) (fun w => by go_simp; try with_reducible rfl)) hHeld ?_
      simp only [List.setIfInBounds_toArray, List.set_cons_zero, List.set_cons_succ]
      refine take_at (i := 19) 4 rfl rfl (by kernel_rfl) (by kernel_rfl) (by kernel_rfl) (fun _ _ _ h => h) (sure_yes (by rfl) (fun w => by go_simp; try with_reducible rfl)) hHeld ?_
      simp only [List.setIfInBounds_toArray, List.set_cons_zero, List.set_cons_succ]
      refine wpAnyH_done (by kernel_rfl) ?_ _
      go_wp2
      go_ret
      exact ⟨by rw [HR.out]; rfl, below_next B0.out hHeld⟩
    · obtain ⟨j, hj⟩ : ∃ j, l.length = j + 1 := ⟨l.length - 1, by have := List.length_pos_iff.2 hnil; omega⟩
      obtain ⟨d, hd⟩ : ∃ d, l[j]? = some d := ⟨_, List.getElem?_eq_getElem (by omega)⟩
      obtain ⟨r0, q0⟩ := d
      have HR := Lib.hid (fol_last hm hj hd)
      obtain ⟨n, hn⟩ : ∃ n, n = l.length := ⟨_, rfl⟩
      obtain ⟨ad, cap, rfl, cd, -⟩ := dots_at hv n j hn.symm _ hd
      obtain ⟨c0, -⟩ := dot_cells (show _ = some (dotO r q) from E0.out)
      have CD := Lib.hid ((World.cell?_of_block (B0.out.block _ (World.block_lt_of_cell? _ _ cd))).trans cd)
      have C0 := Lib.hid c0
      have e1 : ((n : Int) == 0) = false := by rw [beq_eq_false_iff_ne]; omega
      have wj : IntKind.i64.wrap ((n : Int) - 1) = (j : Int) := by rw [IntKind.wrap_i64]; omega
      have qj : (j : Int) < (n : Int) := by omega
      clear hv hl hm hnil hj hd hn cd c0
      go_enter Tryd.func67, Tryd.ntmps67
      go_upto_region 1 with fail
      generalize w.alloc (.cells #[.int .i64 r, .int .i64 q] 23 (0, 0)) = W0 at *
      refine wp_region_held_drew (S := fun w' => Below W0.heap.size W0 w') (by kernel_rfl) (drawS (Below.refl _ _)) (fun hHeld => ?_)
      generalize W0.drew = wd at hHeld ⊢
      refine take_at (i := 0) 5 rfl rfl (by kernel_rfl) (by kernel_rfl) (by kernel_rfl) (fun _ _ _ h => h) (row_yields (by rfl) 23 (.tmp 3) rfl w.heap.size rfl 23 _ (0, 0) _ Tryd.underlying23 rfl (by kernel_rfl) (fun _ h => row_kept E0.out h)) hHeld ?_
      simp only [List.setIfInBounds_toArray, List.set_cons_zero, List.set_cons_succ]
      refine wpAnyH_ready (rs := [1]) (by kernel_rfl) (by simp) ?_
      refine AllReadyH.cons rfl (fun K hK => ?_) AllReadyH.nil
      go_simp
      go_at_call 24
      refine (MY.out _).mono ?_
      rintro e w6 ⟨rfl, hb⟩
      dsimp only
      refine hK.out _ _ (below_next hHeld hb) (fun hHeld => ?_)
      clear hK K hb
      refine take_at (i := 2) 7 rfl rfl (by kernel_rfl) (by kernel_rfl) (by kernel_rfl) (fun _ _ _ h => h) (sure_yes (by rfl) (fun w => by go_simp; try with_reducible rfl)) hHeld ?_
      simp only [List.setIfInBounds_toArray, List.set_cons_zero, List.set_cons_succ]
      refine take_at (i := 3) 8 rfl rfl (by kernel_rfl) (by kernel_rfl) (by kernel_rfl) (fun _ _ _ h => h) (sure_yes (by rfl) (fun w => by go_simp; try with_reducible rfl)) hHeld ?_
      simp only [List.setIfInBounds_toArray, List.set_cons_zero, List.set_cons_succ]
      refine take_at (i := 4) 9 rfl rfl (by kernel_rfl) (by kernel_rfl) (by kernel_rfl) (fun _ _ _ h => h) (sure_yes (by rfl) (fun w => by go_simp; try with_reducible rfl)) hHeld ?_
      simp only [List.setIfInBounds_toArray, List.set_cons_zero, List.set_cons_succ]
      refine take_at (i := 5) 10 rfl rfl (by kernel_rfl) (by kernel_rfl) (by kernel_rfl) (fun _ _ _ h => h) (sure_yes (by rfl) (fun w => by go_simp; try with_reducible rfl)) hHeld ?_
      simp only [List.setIfInBounds_toArray, List.set_cons_zero, List.set_cons_succ]
      refine take_at (i := 6) 11 rfl rfl (by kernel_rfl) (by kernel_rfl) (by kernel_rfl) (fun _ _ _ h => h) (sure_yes (by rfl) (fun w => by go_simp; try with_reducible rfl)) hHeld ?_
      simp only [List.setIfInBounds_toArray, List.set_cons_zero, List.set_cons_succ]
      refine take_at (i := 7) 12 rfl rfl (by kernel_rfl) (by kernel_rfl) (by kernel_rfl) (fun _ _ _ h => h) (sure_yes (by rfl) (fun w => by go_simp; try with_reducible rfl)) hHeld ?_
      simp only [List.setIfInBounds_toArray, List.set_cons_zero, List.set_cons_succ]
      refine take_at (i := 8) 13 rfl rfl (by kernel_rfl) (by kernel_rfl) (by kernel_rfl) (fun _ _ _ h => h) (sure_yes (by rfl) (fun w => by go_simp; try with_reducible rfl)) hHeld ?_
      simp only [List.setIfInBounds_toArray, List.set_cons_zero, List.set_cons_succ]
      refine take_at (i := 9) 14 rfl rfl (by kernel_rfl) (by kernel_rfl) (by kernel_rfl) (fun _ _ _ h => h) (sure_yes (by rfl) (fun w => by go_simp; try with_reducible rfl)) hHeld ?_
      simp only [List.setIfInBounds_toArray, List.set_cons_zero, List.set_cons_succ]
      refine take_at (i := 10) 15 rfl rfl (by kernel_rfl) (by kernel_rfl) (by kernel_rfl) (fun _ _ _ h => h) (sure_yes (by rfl) (fun w => by go_simp; try with_reducible rfl)) hHeld ?_
      simp only [List.setIfInBounds_toArray, List.set_cons_zero, List.set_cons_succ]
      refine take_at (i := 11) 16 rfl rfl (by kernel_rfl) (by kernel_rfl) (by kernel_rfl) (fun _ _ _ h => h) (sure_yes (by rfl) (fun w => by go_simp; try with_reducible rfl)) hHeld ?_
      simp only [List.setIfInBounds_toArray, List.set_cons_zero, List.set_cons_succ]
      refine take_at (i := 12) 17 rfl rfl (by kernel_rfl) (by kernel_rfl) (by kernel_rfl) (fun _ _ _ h => h) (sure_yes (by rfl) (fun w => by go_simp; try with_reducible rfl)) hHeld ?_
      simp only [List.setIfInBounds_toArray, List.set_cons_zero, List.set_cons_succ]
      refine take_at (i := 14) 19 rfl rfl (by kernel_rfl) (by kernel_rfl) (by kernel_rfl) (fun _ _ _ h => h) (sure_yes (by rfl) (fun w => by go_simp; try with_reducible rfl)) hHeld ?_
      simp only [List.setIfInBounds_toArray, List.set_cons_zero, List.set_cons_succ]
      refine take_at (i := 13) 18 rfl rfl (by kernel_rfl) (by kernel_rfl) (by kernel_rfl) (fun _ _ _ h => h) (addr_yields (by rfl) 3 (.tmp 17) rfl (ad.add (j * 2)) rfl .i64 r0 Tryd.underlying3 (fun w h => (World.cell?_of_block (h.block _ (World.block_lt_of_cell? _ _ CD.out))).trans CD.out)) hHeld ?_
      simp only [List.setIfInBounds_toArray, List.set_cons_zero, List.set_cons_succ]
      refine take_at (i := 15) 20 rfl rfl (by kernel_rfl) (by kernel_rfl) (by kernel_rfl) (fun _ _ _ h => h) (cell_yields (by rfl) 3 (.tmp 19) rfl w.heap.size 0 rfl .i64 r Tryd.underlying3 (fun w h => (World.cell?_of_block (h.block _ (World.block_lt_of_cell? _ _ C0.out))).trans C0.out)) hHeld ?_
      simp only [List.setIfInBounds_toArray, List.set_cons_zero, List.set_cons_succ]
      refine take_at (i := 16) 21 rfl rfl (by kernel_rfl) (by kernel_rfl) (by kernel_rfl) (fun _ _ _ h => h) (sure_yes (by rfl) (fun w => by go_simp; try with_reducible rfl)) hHeld ?_
      simp only [List.setIfInBounds_toArray, List.set_cons_zero, List.set_cons_succ]
      refine take_at (i := 17) 22 rfl rfl (by kernel_rfl) (by kernel_rfl) (by kernel_rfl) (fun _ _ _ h => h) (sure_yes (by rfl) (fun w => by go_simp; try with_reducible rfl)) hHeld ?_
      simp only [List.setIfInBounds_toArray, List.set_cons_zero, List.set_cons_succ]
      refine take_at (i := 18) 23 rfl rfl (by kernel_rfl) (by kernel_rfl) (by kernel_rfl) (fun _ _ _ h => h) (sure_yes (by rfl) (fun w => by go_simp; try with_reducible rfl)) hHeld ?_
      simp only [List.setIfInBounds_toArray, List.set_cons_zero, List.set_cons_succ]
      refine take_at (i := 19) 4 rfl rfl (by kernel_rfl) (by kernel_rfl) (by kernel_rfl) (fun _ _ _ h => h) (sure_yes (by rfl) (fun w => by go_simp; try with_reducible rfl)) hHeld ?_
      simp only [List.setIfInBounds_toArray, List.set_cons_zero, List.set_cons_succ]
      refine wpAnyH_done (by kernel_rfl) ?_ _
      go_wp2
      go_ret
      exact ⟨by rw [HR.out]; rfl, below_next B0.out hHeld⟩
set_option maxRecDepth 100000 in
set_option maxHeartbeats 16000000 in
theorem vecMay_any (l : List D2) (hl : l.length < 2000000) (v : Value) (w : World) (hv : HasDots w v l) : Calls Tryd.prog 49 #[v] w fun e w' => e = .returned (.bool (mayV l)) ∧ Below w.heap.size w w' := by
  have HV := Lib.hid hv
  obtain ⟨n, hn⟩ : ∃ n, n = l.length := ⟨_, rfl⟩
  obtain ⟨ao, cap, rfl⟩ := dots_shape hv n hn
  have HN := Lib.hid hn
  have hn4 : n < 2000000 := by omega
  clear hn hv hl
  go_enter Tryd.func49, Tryd.ntmps49
  go_wp2
  go_loopw [7] (fun c wr => ∃ k : Nat, k ≤ n ∧ c = .int .i64 (k : Int) ∧ mayV (l.take k) = true ∧ Below w.heap.size w wr) (fun c _ => n - (intOf c).toNat)
  case atStart => exact ⟨0, Nat.zero_le _, rfl, mayV_nil, Below.refl _ _⟩
  case round =>
    obtain ⟨k, hk, rfl, hok, hb⟩ := hrel
    by_cases hlt : k < n
    · have q0 : (k : Int) < (n : Int) := by omega
      have hkl : k < l.length := by rw [← HN.out]; exact hlt
      obtain ⟨d, hd⟩ : ∃ d, l[k]? = some d := ⟨_, List.getElem?_eq_getElem hkl⟩
      have HA := Lib.hid (mayV_take hd)
      obtain ⟨r, q⟩ := d
      have HVr := dots_below HV.out hb
      obtain ⟨ad, cap', e, c0, c1⟩ := dots_at HVr n k HN.out.symm _ hd
      cases e
      have C0 := Lib.hid (And.intro c0 c1)
      have KK := Lib.hid (show k + 1 ≤ n ∧ n - (k + 1) < n - k by omega)
      have D0 := Lib.hid (heap_last wr (.cells #[.int .i64 r, .int .i64 q] 23 (0, 0)))
      have B0 := Lib.hid (hb.alloc hb.size (.cells #[.int .i64 r, .int .i64 q] 23 (0, 0)))
      have HT := Lib.hid (dots_below (dots_part HVr k hk HN.out) ((Below.refl wr.heap.size wr).alloc (Nat.le_refl _) (.cells #[.int .i64 r, .int .i64 q] 23 (0, 0))))
      have MF := Lib.hid (fun w hv => mayFollow_any (l.take k) (by rw [List.length_take]; omega) r q (.slice (some ad) k cap) w hv)
      have q1 : (k : Int) ≤ (cap : Int) := by obtain ⟨ao, c', e, -, hc⟩ := HVr; injection e with e1 e2 e3; subst e3; have := (hc ad e1.symm).1; have := HN.out; omega
      have HO := Lib.hid hok
      obtain ⟨B, hB⟩ : ∃ B, fol (l.take k) (r, q) = B := ⟨_, rfl⟩
      rw [hB] at MF HA
      clear c0 c1 hb hd hkl HVr hok hB
      go_wp2_with (first
        | (refine load_dot10 (by rfl) 23 (.tmp 10) rfl (ad.add (k * 2)) rfl r q Tryd.underlying23 (by kernel_rfl) C0.out ?_))
      generalize wr.alloc (.cells #[.int .i64 r, .int .i64 q] 23 (0, 0)) = W1 at *
      refine wp_region_held_drew (S := fun w' => Below W1.heap.size W1 w') (by kernel_rfl) (drawS (Below.refl _ _)) (fun hHeld => ?_)
      generalize W1.drew = wd at hHeld ⊢
      refine take_at (i := 0) 12 rfl rfl (by kernel_rfl) (by kernel_rfl) (by kernel_rfl) (fun _ _ _ h => h) (sure_yes (by rfl) (fun w => by go_simp; try with_reducible rfl)) hHeld ?_
      simp only [List.setIfInBounds_toArray, List.set_cons_zero, List.set_cons_succ]
      refine take_at (i := 1) 13 rfl rfl (by kernel_rfl) (by kernel_rfl) (by kernel_rfl) (fun _ _ _ h => h) (sure_yes (by rfl) (fun w => by go_simp; try with_reducible rfl)) hHeld ?_
      simp only [List.setIfInBounds_toArray, List.set_cons_zero, List.set_cons_succ]
      refine take_at (i := 2) 14 rfl rfl (by kernel_rfl) (by kernel_rfl) (by kernel_rfl) (fun _ _ _ h => h) (sure_yes (by rfl) (fun w => by go_simp; try with_reducible rfl)) hHeld ?_
      simp only [List.setIfInBounds_toArray, List.set_cons_zero, List.set_cons_succ]
      refine take_at (i := 3) 15 rfl rfl (by kernel_rfl) (by kernel_rfl) (by kernel_rfl) (fun _ _ _ h => h) (row_yields (by rfl) 23 (.tmp 4) rfl wr.heap.size rfl 23 _ (0, 0) _ Tryd.underlying23 rfl (by kernel_rfl) (fun _ h => row_kept D0.out h)) hHeld ?_
      simp only [List.setIfInBounds_toArray, List.set_cons_zero, List.set_cons_succ]
      refine wpAnyH_ready (rs := [4]) (by kernel_rfl) (by simp) ?_
      refine AllReadyH.cons rfl (fun K hK => ?_) AllReadyH.nil
      go_simp
      go_at_call 67
      refine (MF.out _ (dots_below HT.out hHeld)).mono ?_
      rintro e w6 ⟨rfl, hb⟩
      dsimp only
      refine hK.out _ _ (below_next hHeld hb) (fun hHeld => ?_)
      clear hK K hb
      refine take_at (i := 5) 17 rfl rfl (by kernel_rfl) (by kernel_rfl) (by kernel_rfl) (fun _ _ _ h => h) (sure_yes (by rfl) (fun w => by go_simp; try with_reducible rfl)) hHeld ?_
      simp only [List.setIfInBounds_toArray, List.set_cons_zero, List.set_cons_succ]
      refine wpAnyH_done (by kernel_rfl) ?_ _
      cases B with
      | true =>
        go_wp2
        refine ⟨⟨k + 1, KK.out.1, by simp, by rw [HA.out, HO.out]; rfl, below_next B0.out hHeld⟩, ?_⟩
        simp [intOf]; exact KK.out.2
      | false =>
        have HF := Lib.hid (mayV_ahead (l := l) (k := k + 1) (by rw [HA.out, HO.out]; rfl))
        go_wp2
        go_ret
        exact ⟨by rw [HF.out]; rfl, below_next B0.out hHeld⟩
    · have q0 : ¬ (k : Int) < (n : Int) := by omega
      have HE := Lib.hid (show l.take k = l by rw [show k = l.length by rw [← HN.out]; omega, List.take_length])
      rw [HE.out] at hok
      have HO := Lib.hid hok
      have HB := Lib.hid hb
      clear hok hb
      go_wp2
      go_ret
      exact ⟨by rw [HO.out]; rfl, HB.out⟩
end Go.Proofs.YteooklnejiipkaaDoor
namespace Go.Proofs.YteooklnejiipkaaDoor
open Go.RowKit
/-- What path.Own owes. -/
def OwnSays : Prop := ∀ w (s : List UInt8), s.length < 1152921504606846976 → PowTab w → Calls Tryd.prog 26 #[.string (str s)] w fun e w' => e = .returned (.bool (ownP s)) ∧ Below w.heap.size w w'
theorem zero_row : rowV .u8 32 zeroF = .agg #[.int .u8 0, .int .u8 0, .int .u8 0, .int .u8 0, .int .u8 0, .int .u8 0, .int .u8 0, .int .u8 0, .int .u8 0, .int .u8 0, .int .u8 0, .int .u8 0, .int .u8 0, .int .u8 0, .int .u8 0, .int .u8 0, .int .u8 0, .int .u8 0, .int .u8 0, .int .u8 0, .int .u8 0, .int .u8 0, .int .u8 0, .int .u8 0, .int .u8 0, .int .u8 0, .int .u8 0, .int .u8 0, .int .u8 0, .int .u8 0, .int .u8 0, .int .u8 0] := by kernel_rfl
set_option maxRecDepth 100000 in
theorem evSize : (Tryd.prog.info? 29).map (·.size) = some 38 := by kernel_rfl
set_option maxRecDepth 100000 in
theorem sumSize : (Tryd.prog.info? 27).map (·.size) = some 32 := by kernel_rfl
set_option maxRecDepth 100000 in
set_option maxHeartbeats 4000000 in
theorem mayHappen_any (e : Ev) (v : Value) (w : World) : Calls Tryd.prog 27 #[.agg (evC e v)] w fun x w' => x = .returned (.bool (mayH e)) ∧ Below w.heap.size w w' := by
  have E0 := Lib.hid (box_ev w 29 e v)
  have B0 := Lib.hid ((Below.refl w.heap.size w).alloc (Nat.le_refl _) (.cells (evC e v) 29 (0, 0)))
  obtain ⟨-, -, -, c3, -, c5⟩ := evAt_cells E0.out
  obtain ⟨b, hb⟩ : ∃ b, sameRow 32 e.sum zeroF = b := ⟨_, rfl⟩
  have hq := eql_rowV (P := Tryd.prog) Tryd.underlying27 Tryd.underlying5 cellsByte e.sum zeroF hb
  have hg := guard_rowV (P := Tryd.prog) digestGuard (.tmp 22) (.tmp 23) .u8 32 e.sum zeroF
  rw [zero_row] at hq hg
  by_cases h1 : e.kind = 1
  · clear hq hg hb
    by_cases h3 : 0 ≤ e.size
    · have HM := Lib.hid (show mayH e = decide (e.size ≤ 65536) by simp [mayH, h1, h3])
      go_enter Tryd.func27, Tryd.ntmps27
      go_wp2
      go_ret
      exact ⟨by rw [HM.out]; rfl, B0.out⟩
    · have HM := Lib.hid (show mayH e = false by simp [mayH, h1, h3])
      go_enter Tryd.func27, Tryd.ntmps27
      go_wp2
      go_ret
      exact ⟨by rw [HM.out]; rfl, B0.out⟩
  · by_cases h2 : e.kind = 2
    · have HM := Lib.hid (show mayH e = (decide (e.size = 0) && b) by simp [mayH, h2, hb])
      clear hb
      by_cases h3 : e.size = 0
      · go_enter Tryd.func27, Tryd.ntmps27
        go_wp2_with (first
          | (refine load_sum_on (by rfl) 27 (.tmp 21) rfl w.heap.size rfl E0.out Tryd.underlying27 sumSize ?_))
        go_ret
        exact ⟨by rw [HM.out]; simp [h3], B0.out⟩
      · clear hq hg
        go_enter Tryd.func27, Tryd.ntmps27
        go_wp2
        go_ret
        exact ⟨by rw [HM.out]; simp [h3], B0.out⟩
    · have HM := Lib.hid (show mayH e = false by simp [mayH, h1, h2])
      clear hq hg hb
      go_enter Tryd.func27, Tryd.ntmps27
      go_wp2
      go_ret
      exact ⟨by rw [HM.out]; rfl, B0.out⟩
/- mayBeKnown, May, Knows. -/
set_option maxRecDepth 100000 in
set_option maxHeartbeats 16000000 in
theorem mayKnown_any (l : List D2) (hl : l.length < 2000000) (r q : Int) (hd : mayD r q = true) (v : Value) (w : World) (hv : HasDots w v l) : Calls Tryd.prog 25 #[v, .agg #[.int .i64 r, .int .i64 q]] w fun e w' => e = .returned (.bool (mayV l && decide (getV l r = q - 1))) ∧ Below w.heap.size w w' := by
  have HV := Lib.hid hv
  have MY := Lib.hid (fun w hv => vecMay_any l hl v w hv)
  have GT := Lib.hid (fun w hv => vecGet_any l hl r v w hv)
  have E0 := Lib.hid (show (w.alloc (.cells #[.int .i64 r, .int .i64 q] 23 (0, 0))).heap[w.heap.size]? = some (.cells #[.int .i64 r, .int .i64 q] 23 (0, 0)) from one_box w r q)
  obtain ⟨c0, c1⟩ := dot_cells (show _ = some (dotO r q) from E0.out)
  have C0 := Lib.hid c0
  have C1 := Lib.hid c1
  have B0 := Lib.hid ((Below.refl w.heap.size w).alloc (Nat.le_refl _) (.cells #[.int .i64 r, .int .i64 q] 23 (0, 0)))
  obtain ⟨ao, cap, rfl⟩ := dots_shape hv l.length rfl
  obtain ⟨n, hn⟩ : ∃ n, n = l.length := ⟨_, rfl⟩
  rw [← hn] at HV MY GT ⊢
  obtain ⟨G, hG⟩ : ∃ G, G = getV l r := ⟨_, rfl⟩
  rw [← hG] at GT ⊢
  obtain ⟨p, hp⟩ : ∃ p, q - 1 = p := ⟨_, rfl⟩
  have hq := mayT_bd (d := (r, q)) hd
  have hpb : -9223372036854775808 ≤ p ∧ p < 9223372036854775808 := by dsimp only at hq; omega
  have hw : IntKind.i64.wrap (q - 1) = p := by rw [hp, IntKind.wrap_i64]; omega
  rw [hp]
  clear hv hl hn hG c0 c1 hq hd hp hpb
  cases hm : mayV l with
  | true =>
    rw [hm] at MY
    clear hm
    go_enter Tryd.func25, Tryd.ntmps25
    go_upto_region 1 with fail
    generalize w.alloc (.cells #[.int .i64 r, .int .i64 q] 23 (0, 0)) = W0 at *
    refine wp_region_held_drew (S := fun w' => Below W0.heap.size W0 w') (by kernel_rfl) (drawS (Below.refl _ _)) (fun hHeld => ?_)
    generalize W0.drew = wd at hHeld ⊢
    refine take_at (i := 0) 5 rfl rfl (by kernel_rfl) (by kernel_rfl) (by kernel_rfl) (fun _ _ _ h => h) (sure_yes (by rfl) (fun w => by go_simp; try with_reducible rfl)) hHeld ?_
    simp only [List.setIfInBounds_toArray, List.set_cons_zero, List.set_cons_succ]
    refine wpAnyH_ready (rs := [1]) (by kernel_rfl) (by simp) ?_
    refine AllReadyH.cons rfl (fun CONT hCONT => ?_) AllReadyH.nil
    go_simp
    go_at_call 49
    refine (MY.out _ (dots_below HV.out (below_next B0.out hHeld))).mono ?_
    rintro e w6 ⟨rfl, hb⟩
    dsimp only
    refine hCONT.out _ _ (below_next hHeld hb) (fun hHeld => ?_)
    clear hCONT CONT hb
    refine take_at (i := 2) 7 rfl rfl (by kernel_rfl) (by kernel_rfl) (by kernel_rfl) (fun _ _ _ h => h) (sure_yes (by rfl) (fun w => by go_simp; try with_reducible rfl)) hHeld ?_
    simp only [List.setIfInBounds_toArray, List.set_cons_zero, List.set_cons_succ]
    refine take_at (i := 3) 8 rfl rfl (by kernel_rfl) (by kernel_rfl) (by kernel_rfl) (fun _ _ _ h => h) (sure_yes (by rfl) (fun w => by go_simp; try with_reducible rfl)) hHeld ?_
    simp only [List.setIfInBounds_toArray, List.set_cons_zero, List.set_cons_succ]
    refine take_at (i := 4) 9 rfl rfl (by kernel_rfl) (by kernel_rfl) (by kernel_rfl) (fun _ _ _ h => h) (sure_yes (by rfl) (fun w => by go_simp; try with_reducible rfl)) hHeld ?_
    simp only [List.setIfInBounds_toArray, List.set_cons_zero, List.set_cons_succ]
    refine take_at (i := 7) 12 rfl rfl (by kernel_rfl) (by kernel_rfl) (by kernel_rfl) (fun _ _ _ h => h) (sure_yes (by rfl) (fun w => by go_simp; try with_reducible rfl)) hHeld ?_
    simp only [List.setIfInBounds_toArray, List.set_cons_zero, List.set_cons_succ]
    refine take_at (i := 5) 10 rfl rfl (by kernel_rfl) (by kernel_rfl) (by kernel_rfl) (fun _ _ _ h => h) (cell_yields (by rfl) 3 (.tmp 9) rfl w.heap.size 0 rfl .i64 r Tryd.underlying3 (fun w h => (World.cell?_of_block (h.block _ (World.block_lt_of_cell? _ _ C0.out))).trans C0.out)) hHeld ?_
    simp only [List.setIfInBounds_toArray, List.set_cons_zero, List.set_cons_succ]
    refine take_at (i := 8) 13 rfl rfl (by kernel_rfl) (by kernel_rfl) (by kernel_rfl) (fun _ _ _ h => h) (cell_yields (by rfl) 2 (.tmp 12) rfl w.heap.size 1 rfl .i64 q Tryd.underlying2 (fun w h => (World.cell?_of_block (h.block _ (World.block_lt_of_cell? _ _ C1.out))).trans C1.out)) hHeld ?_
    simp only [List.setIfInBounds_toArray, List.set_cons_zero, List.set_cons_succ]
    refine take_at (i := 9) 14 rfl rfl (by kernel_rfl) (by kernel_rfl) (by kernel_rfl) (fun _ _ _ h => h) (sure_yes (by rfl) (fun w => by go_simp; try with_reducible rfl)) hHeld ?_
    simp only [List.setIfInBounds_toArray, List.set_cons_zero, List.set_cons_succ]
    refine wpAnyH_ready (rs := [6]) (by kernel_rfl) (by simp) ?_
    refine AllReadyH.cons rfl (fun CONT hCONT => ?_) AllReadyH.nil
    go_simp
    go_at_call 50
    refine (GT.out _ (dots_below HV.out (below_next B0.out hHeld))).mono ?_
    rintro e w7 ⟨rfl, hb⟩
    dsimp only
    refine hCONT.out _ _ (below_next hHeld hb) (fun hHeld => ?_)
    clear hCONT CONT hb
    refine take_at (i := 10) 15 rfl rfl (by kernel_rfl) (by kernel_rfl) (by kernel_rfl) (fun _ _ _ h => h) (sure_yes (by rfl) (fun w => by go_simp; try with_reducible rfl)) hHeld ?_
    simp only [List.setIfInBounds_toArray, List.set_cons_zero, List.set_cons_succ]
    refine take_at (i := 11) 16 rfl rfl (by kernel_rfl) (by kernel_rfl) (by kernel_rfl) (fun _ _ _ h => h) (sure_yes (by rfl) (fun w => by go_simp; try with_reducible rfl)) hHeld ?_
    simp only [List.setIfInBounds_toArray, List.set_cons_zero, List.set_cons_succ]
    refine take_at (i := 12) 4 rfl rfl (by kernel_rfl) (by kernel_rfl) (by kernel_rfl) (fun _ _ _ h => h) (sure_yes (by rfl) (fun w => by go_simp; try with_reducible rfl)) hHeld ?_
    simp only [List.setIfInBounds_toArray, List.set_cons_zero, List.set_cons_succ]
    refine wpAnyH_done (by kernel_rfl) ?_ _
    go_wp2
    go_ret
    exact ⟨by rw [Bool.true_and]; rfl, below_next B0.out hHeld⟩
  | false =>
    rw [hm] at MY
    clear hm
    go_enter Tryd.func25, Tryd.ntmps25
    go_upto_region 1 with fail
    generalize w.alloc (.cells #[.int .i64 r, .int .i64 q] 23 (0, 0)) = W0 at *
    refine wp_region_held_drew (S := fun w' => Below W0.heap.size W0 w') (by kernel_rfl) (drawS (Below.refl _ _)) (fun hHeld => ?_)
    generalize W0.drew = wd at hHeld ⊢
    refine take_at (i := 0) 5 rfl rfl (by kernel_rfl) (by kernel_rfl) (by kernel_rfl) (fun _ _ _ h => h) (sure_yes (by rfl) (fun w => by go_simp; try with_reducible rfl)) hHeld ?_
    simp only [List.setIfInBounds_toArray, List.set_cons_zero, List.set_cons_succ]
    refine wpAnyH_ready (rs := [1]) (by kernel_rfl) (by simp) ?_
    refine AllReadyH.cons rfl (fun CONT hCONT => ?_) AllReadyH.nil
    go_simp
    go_at_call 49
    refine (MY.out _ (dots_below HV.out (below_next B0.out hHeld))).mono ?_
    rintro e w6 ⟨rfl, hb⟩
    dsimp only
    refine hCONT.out _ _ (below_next hHeld hb) (fun hHeld => ?_)
    clear hCONT CONT hb
    refine take_at (i := 2) 7 rfl rfl (by kernel_rfl) (by kernel_rfl) (by kernel_rfl) (fun _ _ _ h => h) (sure_yes (by rfl) (fun w => by go_simp; try with_reducible rfl)) hHeld ?_
    simp only [List.setIfInBounds_toArray, List.set_cons_zero, List.set_cons_succ]
    refine take_at (i := 3) 8 rfl rfl (by kernel_rfl) (by kernel_rfl) (by kernel_rfl) (fun _ _ _ h => h) (.inr ⟨by rfl, rfl⟩) hHeld ?_
    simp only [List.setIfInBounds_toArray, List.set_cons_zero, List.set_cons_succ]
    refine take_at (i := 4) 9 rfl rfl (by kernel_rfl) (by kernel_rfl) (by kernel_rfl) (fun _ _ _ h => h) (.inr ⟨by rfl, rfl⟩) hHeld ?_
    simp only [List.setIfInBounds_toArray, List.set_cons_zero, List.set_cons_succ]
    refine take_at (i := 5) 10 rfl rfl (by kernel_rfl) (by kernel_rfl) (by kernel_rfl) (fun _ _ _ h => h) (.inr ⟨by rfl, rfl⟩) hHeld ?_
    simp only [List.setIfInBounds_toArray, List.set_cons_zero, List.set_cons_succ]
    refine take_at (i := 6) 11 rfl rfl (by kernel_rfl) (by kernel_rfl) (by kernel_rfl) (fun _ _ _ h => h) (.inr ⟨by rfl, rfl⟩) hHeld ?_
    simp only [List.setIfInBounds_toArray, List.set_cons_zero, List.set_cons_succ]
    refine take_at (i := 7) 12 rfl rfl (by kernel_rfl) (by kernel_rfl) (by kernel_rfl) (fun _ _ _ h => h) (.inr ⟨by rfl, rfl⟩) hHeld ?_
    simp only [List.setIfInBounds_toArray, List.set_cons_zero, List.set_cons_succ]
    refine take_at (i := 8) 13 rfl rfl (by kernel_rfl) (by kernel_rfl) (by kernel_rfl) (fun _ _ _ h => h) (.inr ⟨by rfl, rfl⟩) hHeld ?_
    simp only [List.setIfInBounds_toArray, List.set_cons_zero, List.set_cons_succ]
    refine take_at (i := 9) 14 rfl rfl (by kernel_rfl) (by kernel_rfl) (by kernel_rfl) (fun _ _ _ h => h) (.inr ⟨by rfl, rfl⟩) hHeld ?_
    simp only [List.setIfInBounds_toArray, List.set_cons_zero, List.set_cons_succ]
    refine take_at (i := 10) 15 rfl rfl (by kernel_rfl) (by kernel_rfl) (by kernel_rfl) (fun _ _ _ h => h) (.inr ⟨by rfl, rfl⟩) hHeld ?_
    simp only [List.setIfInBounds_toArray, List.set_cons_zero, List.set_cons_succ]
    refine take_at (i := 11) 16 rfl rfl (by kernel_rfl) (by kernel_rfl) (by kernel_rfl) (fun _ _ _ h => h) (sure_yes (by rfl) (fun w => by go_simp; try with_reducible rfl)) hHeld ?_
    simp only [List.setIfInBounds_toArray, List.set_cons_zero, List.set_cons_succ]
    refine take_at (i := 12) 4 rfl rfl (by kernel_rfl) (by kernel_rfl) (by kernel_rfl) (fun _ _ _ h => h) (sure_yes (by rfl) (fun w => by go_simp; try with_reducible rfl)) hHeld ?_
    simp only [List.setIfInBounds_toArray, List.set_cons_zero, List.set_cons_succ]
    refine wpAnyH_done (by kernel_rfl) ?_ _
    go_wp2
    go_ret
    exact ⟨by rw [Bool.false_and]; rfl, below_next B0.out hHeld⟩
set_option maxRecDepth 100000 in
set_option maxHeartbeats 16000000 in
theorem may_any12 (OWN : OwnSays) (e : Ev) (hl : e.deps.length < 2000000) (hp : e.path.length < 1152921504606846976) (v : Value) (w : World) (hv : HasDots w v e.deps) (hT : PowTab w) : Calls Tryd.prog 11 #[.agg (evC e v)] w fun x w' => x = .returned (.bool (mayE e)) ∧ Below w.heap.size w w' := by
  have HT := Lib.hid hT
  have HV := Lib.hid hv
  have E0 := Lib.hid (box_ev w 29 e v)
  have B0 := Lib.hid ((Below.refl w.heap.size w).alloc (Nat.le_refl _) (.cells (evC e v) 29 (0, 0)))
  have MY := Lib.hid (fun w => may_any9 e.r e.q w)
  have OW := Lib.hid (fun w hT => OWN w e.path hp hT)
  have HP := Lib.hid (fun w => mayHappen_any e v w)
  cases h1 : mayD e.r e.q with
  | false =>
    have HM := Lib.hid (show mayE e = false by simp [mayE, h1])
    rw [h1] at MY
    clear h1 hT hv hl hp
    go_enter Tryd.func11, Tryd.ntmps11
    go_wp2_with (first
      | (refine load_dot10 (by rfl) 23 (.tmp 3) rfl ⟨w.heap.size, 0, none⟩ rfl e.r e.q Tryd.underlying23 (by kernel_rfl) (evAt_dot E0.out) ?_)
      | (go_at_call 24; refine (MY.out _).mono ?_; rintro x w1 ⟨rfl, hb⟩; have B1 := Lib.hid (below_next B0.out hb); have E1 := Lib.hid (evAt_kept E0.out hb); obtain ⟨-, -, c2, -, -, -⟩ := evAt_cells E1.out; clear hb))
    go_ret
    exact ⟨by rw [HM.out]; rfl, B1.out⟩
  | true =>
    have KN := Lib.hid (fun w hv => mayKnown_any e.deps hl e.r e.q h1 v w hv)
    rw [h1] at MY
    obtain ⟨ao, cap, rfl⟩ := dots_shape hv e.deps.length rfl
    cases h2 : (mayV e.deps && decide (getV e.deps e.r = e.q - 1)) with
    | false =>
      have HM := Lib.hid (show mayE e = false by simp [mayE, h1, knownE, h2])
      rw [h2] at KN
      clear h1 h2 hT hv hl hp
      go_enter Tryd.func11, Tryd.ntmps11
      go_wp2_with (first
        | (refine load_dot10 (by rfl) 23 (.tmp 3) rfl ⟨w.heap.size, 0, none⟩ rfl e.r e.q Tryd.underlying23 (by kernel_rfl) (evAt_dot E0.out) ?_)
        | (go_at_call 24; refine (MY.out _).mono ?_; rintro x w1 ⟨rfl, hb⟩; have B1 := Lib.hid (below_next B0.out hb); have E1 := Lib.hid (evAt_kept E0.out hb); obtain ⟨-, -, c2, -, -, -⟩ := evAt_cells E1.out; clear hb)
        | (refine load_dot10 (by rfl) 23 (.tmp 9) rfl ⟨w.heap.size, 0, none⟩ rfl e.r e.q Tryd.underlying23 (by kernel_rfl) (evAt_dot E1.out) ?_)
        | (go_at_call 25; refine (KN.out _ (dots_below HV.out B1.out)).mono ?_; rintro x w2 ⟨rfl, hb⟩; have B2 := Lib.hid (below_next B1.out hb); have E2 := Lib.hid (evAt_kept E1.out hb); obtain ⟨-, -, -, -, c4, -⟩ := evAt_cells E2.out; clear hb))
      go_ret
      exact ⟨by rw [HM.out]; rfl, B2.out⟩
    | true =>
      rw [h2] at KN
      cases h3 : ownP e.path with
      | false =>
        have HM := Lib.hid (show mayE e = false by simp [mayE, h3])
        rw [h3] at OW
        clear h1 h2 h3 hT hv hl hp
        go_enter Tryd.func11, Tryd.ntmps11
        go_wp2_with (first
          | (refine load_dot10 (by rfl) 23 (.tmp 3) rfl ⟨w.heap.size, 0, none⟩ rfl e.r e.q Tryd.underlying23 (by kernel_rfl) (evAt_dot E0.out) ?_)
          | (go_at_call 24; refine (MY.out _).mono ?_; rintro x w1 ⟨rfl, hb⟩; have B1 := Lib.hid (below_next B0.out hb); have E1 := Lib.hid (evAt_kept E0.out hb); obtain ⟨-, -, c2, -, -, -⟩ := evAt_cells E1.out; clear hb)
          | (refine load_dot10 (by rfl) 23 (.tmp 9) rfl ⟨w.heap.size, 0, none⟩ rfl e.r e.q Tryd.underlying23 (by kernel_rfl) (evAt_dot E1.out) ?_)
          | (go_at_call 25; refine (KN.out _ (dots_below HV.out B1.out)).mono ?_; rintro x w2 ⟨rfl, hb⟩; have B2 := Lib.hid (below_next B1.out hb); have E2 := Lib.hid (evAt_kept E1.out hb); obtain ⟨-, -, -, -, c4, -⟩ := evAt_cells E2.out; clear hb)
          | (go_at_call 26; refine (OW.out _ (powTab_below HT.out B2.out)).mono ?_; rintro x w3 ⟨rfl, hb⟩; have B3 := Lib.hid (below_next B2.out hb); have E3 := Lib.hid (evAt_kept E2.out hb); clear hb))
        go_ret
        exact ⟨by rw [HM.out]; rfl, B3.out⟩
      | true =>
        have HM := Lib.hid (show mayE e = mayH e by simp [mayE, h1, knownE, h2, h3])
        rw [h3] at OW
        clear h1 h2 h3 hT hv hl hp
        go_enter Tryd.func11, Tryd.ntmps11
        go_wp2_with (first
          | (refine load_dot10 (by rfl) 23 (.tmp 3) rfl ⟨w.heap.size, 0, none⟩ rfl e.r e.q Tryd.underlying23 (by kernel_rfl) (evAt_dot E0.out) ?_)
          | (go_at_call 24; refine (MY.out _).mono ?_; rintro x w1 ⟨rfl, hb⟩; have B1 := Lib.hid (below_next B0.out hb); have E1 := Lib.hid (evAt_kept E0.out hb); obtain ⟨-, -, c2, -, -, -⟩ := evAt_cells E1.out; clear hb)
          | (refine load_dot10 (by rfl) 23 (.tmp 9) rfl ⟨w.heap.size, 0, none⟩ rfl e.r e.q Tryd.underlying23 (by kernel_rfl) (evAt_dot E1.out) ?_)
          | (go_at_call 25; refine (KN.out _ (dots_below HV.out B1.out)).mono ?_; rintro x w2 ⟨rfl, hb⟩; have B2 := Lib.hid (below_next B1.out hb); have E2 := Lib.hid (evAt_kept E1.out hb); obtain ⟨-, -, -, -, c4, -⟩ := evAt_cells E2.out; clear hb)
          | (go_at_call 26; refine (OW.out _ (powTab_below HT.out B2.out)).mono ?_; rintro x w3 ⟨rfl, hb⟩; have B3 := Lib.hid (below_next B2.out hb); have E3 := Lib.hid (evAt_kept E2.out hb); clear hb)
          | (refine load_ev_on (by rfl) 29 (.tmp 1) rfl w.heap.size rfl E3.out Tryd.underlying29 evSize ?_)
          | (go_at_call 27; refine (HP.out _).mono ?_; rintro x w4 ⟨rfl, hb⟩; have B4 := Lib.hid (below_next B3.out hb); clear hb))
        go_ret
        exact ⟨by rw [HM.out]; rfl, B4.out⟩
theorem two_evs (w : World) (T : TypeId) (e f : Ev) (v u : Value) : EvAt ((w.alloc (.cells (evC e v) T (0, 0))).alloc (.cells (evC f u) T (0, 0))) w.heap.size T e v ∧ EvAt ((w.alloc (.cells (evC e v) T (0, 0))).alloc (.cells (evC f u) T (0, 0))) (w.heap.size + 1) T f u ∧ Below w.heap.size w ((w.alloc (.cells (evC e v) T (0, 0))).alloc (.cells (evC f u) T (0, 0))) :=
  ⟨evAt_kept (box_ev w T e v) ((Below.refl _ _).alloc (Nat.le_refl _) _), by
    have h := box_ev (w.alloc (.cells (evC e v) T (0, 0))) T f u
    rwa [show (w.alloc (.cells (evC e v) T (0, 0))).heap.size = w.heap.size + 1 by simp] at h, ((Below.refl w.heap.size w).alloc (Nat.le_refl _) _).alloc (by simp) _⟩
end Go.Proofs.YteooklnejiipkaaDoor
namespace Go.Proofs.YteooklnejiipkaaDoor
open Go.RowKit
theorem bl_trans : ∀ (a b c : List UInt8), Op.bytesLess a b = true → Op.bytesLess b c = true → Op.bytesLess a c = true
  | [], [], _, h, _ => by simp [Op.bytesLess] at h
  | _ :: _, [], _, h, _ => by simp [Op.bytesLess] at h
  | _, _ :: _, [], _, h => by simp [Op.bytesLess] at h
  | [], _ :: _, _ :: _, _, _ => by simp [Op.bytesLess]
  | x :: a, y :: b, z :: c, h, h' => by
    simp only [Op.bytesLess, Bool.or_eq_true, decide_eq_true_eq, Bool.and_eq_true, beq_iff_eq] at h h' ⊢
    rcases h with h | ⟨rfl, h⟩
    · rcases h' with h' | ⟨rfl, h'⟩
      · exact .inl (UInt8.lt_trans h h')
      · exact .inl h
    · rcases h' with h' | ⟨rfl, h'⟩
      · exact .inl h'
      · exact .inr ⟨rfl, bl_trans a b c h h'⟩
theorem bl_asymm {a b : List UInt8} (h : Op.bytesLess a b = true) : Op.bytesLess b a = false := by
  cases h' : Op.bytesLess b a with
  | false => rfl
  | true => have := bl_trans a b a h h'; rw [bytesLess_irrefl] at this; cases this
theorem bl_tri : ∀ (a b : List UInt8), Op.bytesLess a b = false → Op.bytesLess b a = false → a = b
  | [], [], _, _ => rfl
  | [], _ :: _, h, _ => by simp [Op.bytesLess] at h
  | _ :: _, [], _, h => by simp [Op.bytesLess] at h
  | x :: a, y :: b, h, h' => by
    simp only [Op.bytesLess, Bool.or_eq_false_iff, decide_eq_false_iff_not, Bool.and_eq_false_iff, beq_eq_false_iff_ne] at h h'
    have hxy : x = y := by
      apply UInt8.toNat_inj.1
      have h1 := h.1; have h2 := h'.1
      rw [UInt8.lt_iff_toNat_lt] at h1 h2
      omega
    subst hxy
    rw [bl_tri a b (h.2.resolve_left fun k => k rfl) (h'.2.resolve_left fun k => k rfl)]
/-- Which of two texts is ahead. -/
def cmpB (a b : List UInt8) : Int := if Op.bytesLess a b then -1 else if Op.bytesLess b a then 1 else 0
theorem cmpB_cases (a b : List UInt8) : (cmpB a b = 0 ∧ a = b) ∨ (cmpB a b = -1 ∧ Op.bytesLess a b = true ∧ a ≠ b) ∨ (cmpB a b = 1 ∧ Op.bytesLess b a = true ∧ a ≠ b) := by
  unfold cmpB
  cases h : Op.bytesLess a b with
  | true => exact .inr (.inl ⟨by simp, rfl, fun e => by rw [e, bytesLess_irrefl] at h; cases h⟩)
  | false =>
    cases h' : Op.bytesLess b a with
    | true => exact .inr (.inr ⟨by simp, rfl, fun e => by rw [e, bytesLess_irrefl] at h'; cases h'⟩)
    | false => exact .inl ⟨by simp, bl_tri a b h h'⟩
theorem cmpB_neg (a b : List UInt8) : cmpB b a = -cmpB a b := by
  unfold cmpB
  cases h : Op.bytesLess a b with
  | true => simp [bl_asymm h]
  | false => cases h' : Op.bytesLess b a <;> simp
def cmpE (e f : Ev) : Int := if cmpB e.path f.path = 0 then cmpD e.r e.q f.r f.q else cmpB e.path f.path
theorem cmpD_neg (r q r' q' : Int) : cmpD r' q' r q = -cmpD r q r' q' := by
  unfold cmpD
  by_cases h1 : r = r' <;> by_cases h2 : q = q'
  · subst h1; subst h2; simp
  all_goals
    rcases Int.lt_trichotomy r r' with h | h | h <;> rcases Int.lt_trichotomy q q' with k | k | k
    all_goals first
      | (exfalso; omega)
      | (repeat' split
         all_goals omega)
theorem cmpE_neg (e f : Ev) : cmpE f e = -cmpE e f := by
  unfold cmpE
  rw [cmpB_neg e.path f.path, cmpD_neg e.r e.q f.r f.q]
  by_cases h : cmpB e.path f.path = 0
  · rw [if_pos h, if_pos (by omega)]
  · rw [if_neg h, if_neg (by omega)]
theorem cmpE_zero (e f : Ev) : (cmpE e f = 0) ↔ (e.path = f.path ∧ e.r = f.r ∧ e.q = f.q) := by
  unfold cmpE
  rcases cmpB_cases e.path f.path with ⟨h, he⟩ | ⟨h, -, hn⟩ | ⟨h, -, hn⟩
  · rw [if_pos h]
    rcases cmp_cases e.r e.q f.r f.q with ⟨k, k1, k2⟩ | ⟨k, k1⟩ | ⟨k, k1⟩
    · rw [k]; simp [he, k1, k2]
    · rw [k]; constructor
      · intro x; omega
      · rintro ⟨-, x, y⟩; omega
    · rw [k]; constructor
      · intro x; omega
      · rintro ⟨-, x, y⟩; omega
  · rw [if_neg (by omega), h]; constructor
    · intro x; omega
    · rintro ⟨x, -⟩; exact absurd x hn
  · rw [if_neg (by omega), h]; constructor
    · intro x; omega
    · rintro ⟨x, -⟩; exact absurd x hn
theorem cmpD_trans (r q r' q' a b : Int) : (cmpD r q r' q' ≤ 0 → cmpD r' q' a b ≤ 0 → cmpD r q a b ≤ 0) ∧ (cmpD r q r' q' < 0 → cmpD r' q' a b < 0 → cmpD r q a b < 0) := by
  rcases cmp_cases r q r' q' with ⟨h, h1, h2⟩ | ⟨h, h1⟩ | ⟨h, h1⟩ <;> rcases cmp_cases r' q' a b with ⟨k, k1, k2⟩ | ⟨k, k1⟩ | ⟨k, k1⟩ <;> rcases cmp_cases r q a b with ⟨m, m1, m2⟩ | ⟨m, m1⟩ | ⟨m, m1⟩ <;> rw [h, k, m] <;> omega
theorem cmpE_trans (e f g : Ev) : (cmpE e f ≤ 0 → cmpE f g ≤ 0 → cmpE e g ≤ 0) ∧ (cmpE e f < 0 → cmpE f g < 0 → cmpE e g < 0) := by
  have hd := cmpD_trans e.r e.q f.r f.q g.r g.q
  unfold cmpE
  rcases cmpB_cases e.path f.path with ⟨h, he⟩ | ⟨h, hl, hn⟩ | ⟨h, hl, hn⟩ <;> rcases cmpB_cases f.path g.path with ⟨k, ke⟩ | ⟨k, kl, kn⟩ | ⟨k, kl, kn⟩
  · have hz : cmpB e.path g.path = 0 := by rw [he]; exact k
    rw [if_pos h, if_pos k, if_pos hz]; exact hd
  · have hz : cmpB e.path g.path = -1 := by rw [he]; exact k
    rw [if_pos h, if_neg (by omega), if_neg (by omega), k, hz]; omega
  · rw [if_neg (show ¬ cmpB f.path g.path = 0 by omega), k]; omega
  · have hz : cmpB e.path g.path = -1 := by rw [← ke]; exact h
    rw [if_neg (by omega), if_pos k, if_neg (by omega), h, hz]; omega
  · have hz : cmpB e.path g.path = -1 := by unfold cmpB; rw [if_pos (bl_trans _ _ _ hl kl)]
    rw [if_neg (show ¬ cmpB e.path g.path = 0 by omega), hz]; omega
  · rw [if_neg (show ¬ cmpB f.path g.path = 0 by omega), k]; omega
  · rw [if_neg (show ¬ cmpB e.path f.path = 0 by omega), h]; omega
  · rw [if_neg (show ¬ cmpB e.path f.path = 0 by omega), h]; omega
  · rw [if_neg (show ¬ cmpB e.path f.path = 0 by omega), h]; omega
theorem cmpE_path (e f : Ev) (h : Op.bytesLess e.path f.path = true) : cmpE e f = -1 := by
  unfold cmpE
  have : cmpB e.path f.path = -1 := by unfold cmpB; rw [if_pos h]
  rw [if_neg (by omega), this]
end Go.Proofs.YteooklnejiipkaaDoor
