/-
The walk of EventOrder.
-/
import Derived.Test.YteooklnejiipkaaDoorPk6
namespace Go.Proofs.YteooklnejiipkaaDoor
open Go.RowKit
theorem three_evs (w : World) (T : TypeId) (e f g : Ev) (v u t : Value) :
    EvAt (((w.alloc (.cells (evC e v) T (0, 0))).alloc (.cells (evC f u) T (0, 0))).alloc (.cells (evC g t) T (0, 0))) w.heap.size T e v ∧ EvAt (((w.alloc (.cells (evC e v) T (0, 0))).alloc (.cells (evC f u) T (0, 0))).alloc (.cells (evC g t) T (0, 0))) (w.heap.size + 1) T f u ∧
    EvAt (((w.alloc (.cells (evC e v) T (0, 0))).alloc (.cells (evC f u) T (0, 0))).alloc (.cells (evC g t) T (0, 0))) (w.heap.size + 2) T g t ∧ Below w.heap.size w (((w.alloc (.cells (evC e v) T (0, 0))).alloc (.cells (evC f u) T (0, 0))).alloc (.cells (evC g t) T (0, 0))) := by
  obtain ⟨h1, h2, h3⟩ := two_evs w T e f v u
  generalize hW : (w.alloc (.cells (evC e v) T (0, 0))).alloc (.cells (evC f u) T (0, 0)) = W at *
  have hs : W.heap.size = w.heap.size + 2 := by rw [← hW]; simp
  have h4 := box_ev W T g t
  rw [hs] at h4
  have hb := (Below.refl W.heap.size W).alloc (Nat.le_refl _) (.cells (evC g t) T (0, 0))
  exact ⟨evAt_kept h1 hb, evAt_kept h2 hb, h4, below_next h3 hb⟩
theorem cmpE_vals (e f : Ev) : cmpE e f = -1 ∨ cmpE e f = 0 ∨ cmpE e f = 1 := by
  unfold cmpE
  rcases cmpB_cases e.path f.path with ⟨h, -⟩ | ⟨h, -, -⟩ | ⟨h, -, -⟩ <;> rcases cmp_cases e.r e.q f.r f.q with ⟨k, -⟩ | ⟨k, -⟩ | ⟨k, -⟩ <;> rw [h, k] <;> simp
theorem cmpE_less (e f : Ev) (h : cmpE e f ≠ -1) : Op.bytesLess e.path f.path = false := by
  cases hb : Op.bytesLess e.path f.path with
  | false => rfl
  | true => exact absurd (cmpE_path e f hb) h
theorem cmpE_tri (e f g : Ev) : (cmpE e f ≤ 0 → cmpE f g ≤ 0 → cmpE e g ≤ 0) ∧ (cmpE e f < 0 → cmpE f g < 0 → cmpE e g < 0) := cmpE_trans e f g
set_option maxRecDepth 100000 in
set_option maxHeartbeats 16000000 in
theorem eventOrder_walk (e f g : Ev) (h1 : I64 e.r) (h2 : I64 e.q) (h3 : I64 f.r) (h4 : I64 f.q) (h5 : I64 g.r) (h6 : I64 g.q) (v u t : Value) (w : World) (hT : PowTab w) :
    Calls Tryd.prog 5 #[.agg (evC e v), .agg (evC f u), .agg (evC g t)] w fun e w' => e = .returned (.bool true) ∧ Below w.heap.size w w' := by
  have HT := Lib.hid hT
  have C1 := Lib.hid (fun w => cmp_any12 e f h1 h2 h3 h4 v u w)
  have C2 := Lib.hid (fun w => cmp_any12 f g h3 h4 h5 h6 u t w)
  have C3 := Lib.hid (fun w => cmp_any12 e g h1 h2 h5 h6 v t w)
  have C4 := Lib.hid (fun w => cmp_any12 f e h3 h4 h1 h2 u v w)
  rw [cmpE_neg e f] at C4
  have K1 := Lib.hid (cmpE_vals e f)
  have K2 := Lib.hid (cmpE_vals f g)
  have K3 := Lib.hid (cmpE_vals e g)
  have K4 := Lib.hid (cmpE_tri e f g)
  have K5 := Lib.hid (cmpE_zero e f)
  have K6 := Lib.hid (cmpE_less e f)
  have t1 : (str e.path).toList = e.path := str_toList _
  have t2 : (str f.path).toList = f.path := str_toList _
  generalize cmpE e f = x at *
  generalize cmpE f g = y at *
  generalize cmpE e g = z at *
  obtain ⟨g1, g2, g3, g4⟩ := three_evs w 29 e f g v u t
  have E0 := Lib.hid g1
  have F0 := Lib.hid g2
  have G0 := Lib.hid g3
  have B0 := Lib.hid g4
  clear g1 g2 g3 g4 h1 h2 h3 h4 h5 h6 hT
  go_enter Tryd.func5, Tryd.ntmps5
  go_upto_region 1 with fail
  generalize ((w.alloc (.cells (evC e v) 29 (0, 0))).alloc (.cells (evC f u) 29 (0, 0))).alloc (.cells (evC g t) 29 (0, 0)) = W0 at *
  go_upto_region 2 with (first
    | (go_at_call 7; refine (awake12_any _ (powTab_below HT.out B0.out)).mono ?_; rintro x1 w1 ⟨rfl, hb⟩; have E1 := Lib.hid (evAt_kept E0.out hb); have F1 := Lib.hid (evAt_kept F0.out hb); have G1 := Lib.hid (evAt_kept G0.out hb); have B1 := Lib.hid (below_next B0.out hb); clear hb))
  go_upto_region 3 with (first
    | (refine load_ev_on (by rfl) 29 (.tmp 3) rfl w.heap.size rfl E1.out Tryd.underlying29 evSize ?_)
    | (refine load_ev_on (by rfl) 29 (.tmp 4) rfl (w.heap.size + 1) rfl F1.out Tryd.underlying29 evSize ?_)
    | (go_at_call 15; refine (C1.out _).mono ?_; rintro x1 w2 ⟨rfl, hb⟩; have E2 := Lib.hid (evAt_kept E1.out hb); have F2 := Lib.hid (evAt_kept F1.out hb); have G2 := Lib.hid (evAt_kept G1.out hb); have B2 := Lib.hid (below_next B1.out hb); clear hb))
  go_upto_region 4 with (first
    | (refine load_ev_on (by rfl) 29 (.tmp 4) rfl (w.heap.size + 1) rfl F2.out Tryd.underlying29 evSize ?_)
    | (refine load_ev_on (by rfl) 29 (.tmp 5) rfl (w.heap.size + 2) rfl G2.out Tryd.underlying29 evSize ?_)
    | (go_at_call 15; refine (C2.out _).mono ?_; rintro x1 w3 ⟨rfl, hb⟩; have E3 := Lib.hid (evAt_kept E2.out hb); have F3 := Lib.hid (evAt_kept F2.out hb); have G3 := Lib.hid (evAt_kept G2.out hb); have B3 := Lib.hid (below_next B2.out hb); clear hb))
  go_upto_region 5 with (first
    | (refine load_ev_on (by rfl) 29 (.tmp 3) rfl w.heap.size rfl E3.out Tryd.underlying29 evSize ?_)
    | (refine load_ev_on (by rfl) 29 (.tmp 5) rfl (w.heap.size + 2) rfl G3.out Tryd.underlying29 evSize ?_)
    | (go_at_call 15; refine (C3.out _).mono ?_; rintro x1 w4 ⟨rfl, hb⟩; have E4 := Lib.hid (evAt_kept E3.out hb); have F4 := Lib.hid (evAt_kept F3.out hb); have G4 := Lib.hid (evAt_kept G3.out hb); have B4 := Lib.hid (below_next B3.out hb); clear hb))
  rcases K1.out with hx | hx | hx
  · subst hx
    have q5 : ¬ (e.path = f.path ∧ e.r = f.r ∧ e.q = f.q) := fun h => by have := K5.out.2 h; omega
    by_cases hp : e.path = f.path
    · have hk : ∀ w, (binOp .eql 23 (.agg #[.int .i64 e.r, .int .i64 e.q]) (.agg #[.int .i64 f.r, .int .i64 f.q])).run Tryd.prog w = .ok (.bool false) w := fun w => by go_simp; by_cases h1 : e.r = f.r <;> by_cases h2 : e.q = f.q <;> simp_all
      clear q5
      rcases K2.out with hy | hy | hy
      · subst hy
        have hz : z = -1 := by have := K4.out.2 (by omega) (by omega); have := K3.out; omega
        subst hz
        go_wp2_with (first
          | (refine load_ev_on (by rfl) 29 (.tmp 4) rfl (w.heap.size + 1) rfl F4.out Tryd.underlying29 evSize ?_)
          | (refine load_ev_on (by rfl) 29 (.tmp 3) rfl w.heap.size rfl E4.out Tryd.underlying29 evSize ?_)
          | (go_at_call 15; refine (C4.out _).mono ?_; rintro x1 w5 ⟨rfl, hb⟩; have E5 := Lib.hid (evAt_kept E4.out hb); have F5 := Lib.hid (evAt_kept F4.out hb); have G5 := Lib.hid (evAt_kept G4.out hb); have B5 := Lib.hid (below_next B4.out hb); clear hb; obtain ⟨-, -, -, -, d4, -⟩ := evAt_cells E5.out; obtain ⟨-, -, -, -, k4, -⟩ := evAt_cells F5.out)
          | (refine load_dot10 (by rfl) 23 (.tmp 39) rfl ⟨w.heap.size, 0, none⟩ rfl e.r e.q Tryd.underlying23 (by kernel_rfl) (evAt_dot E5.out) ?_)
          | (refine load_dot10 (by rfl) 23 (.tmp 41) rfl ⟨w.heap.size + 1, 0, none⟩ rfl f.r f.q Tryd.underlying23 (by kernel_rfl) (evAt_dot F5.out) ?_))
        all_goals
          go_ret
          exact ⟨by first | rfl | simp, B5.out⟩
      · subst hy
        rcases K3.out with hz | hz | hz
        · subst hz
          go_wp2_with (first
            | (refine load_ev_on (by rfl) 29 (.tmp 4) rfl (w.heap.size + 1) rfl F4.out Tryd.underlying29 evSize ?_)
            | (refine load_ev_on (by rfl) 29 (.tmp 3) rfl w.heap.size rfl E4.out Tryd.underlying29 evSize ?_)
            | (go_at_call 15; refine (C4.out _).mono ?_; rintro x1 w5 ⟨rfl, hb⟩; have E5 := Lib.hid (evAt_kept E4.out hb); have F5 := Lib.hid (evAt_kept F4.out hb); have G5 := Lib.hid (evAt_kept G4.out hb); have B5 := Lib.hid (below_next B4.out hb); clear hb; obtain ⟨-, -, -, -, d4, -⟩ := evAt_cells E5.out; obtain ⟨-, -, -, -, k4, -⟩ := evAt_cells F5.out)
            | (refine load_dot10 (by rfl) 23 (.tmp 39) rfl ⟨w.heap.size, 0, none⟩ rfl e.r e.q Tryd.underlying23 (by kernel_rfl) (evAt_dot E5.out) ?_)
            | (refine load_dot10 (by rfl) 23 (.tmp 41) rfl ⟨w.heap.size + 1, 0, none⟩ rfl f.r f.q Tryd.underlying23 (by kernel_rfl) (evAt_dot F5.out) ?_))
          all_goals
            go_ret
            exact ⟨by first | rfl | simp, B5.out⟩
        · subst hz
          go_wp2_with (first
            | (refine load_ev_on (by rfl) 29 (.tmp 4) rfl (w.heap.size + 1) rfl F4.out Tryd.underlying29 evSize ?_)
            | (refine load_ev_on (by rfl) 29 (.tmp 3) rfl w.heap.size rfl E4.out Tryd.underlying29 evSize ?_)
            | (go_at_call 15; refine (C4.out _).mono ?_; rintro x1 w5 ⟨rfl, hb⟩; have E5 := Lib.hid (evAt_kept E4.out hb); have F5 := Lib.hid (evAt_kept F4.out hb); have G5 := Lib.hid (evAt_kept G4.out hb); have B5 := Lib.hid (below_next B4.out hb); clear hb; obtain ⟨-, -, -, -, d4, -⟩ := evAt_cells E5.out; obtain ⟨-, -, -, -, k4, -⟩ := evAt_cells F5.out)
            | (refine load_dot10 (by rfl) 23 (.tmp 39) rfl ⟨w.heap.size, 0, none⟩ rfl e.r e.q Tryd.underlying23 (by kernel_rfl) (evAt_dot E5.out) ?_)
            | (refine load_dot10 (by rfl) 23 (.tmp 41) rfl ⟨w.heap.size + 1, 0, none⟩ rfl f.r f.q Tryd.underlying23 (by kernel_rfl) (evAt_dot F5.out) ?_))
          all_goals
            go_ret
            exact ⟨by first | rfl | simp, B5.out⟩
        · exact absurd (K4.out.1 (by omega) (by omega)) (by omega)
      · subst hy
        go_wp2_with (first
          | (refine load_ev_on (by rfl) 29 (.tmp 4) rfl (w.heap.size + 1) rfl F4.out Tryd.underlying29 evSize ?_)
          | (refine load_ev_on (by rfl) 29 (.tmp 3) rfl w.heap.size rfl E4.out Tryd.underlying29 evSize ?_)
          | (go_at_call 15; refine (C4.out _).mono ?_; rintro x1 w5 ⟨rfl, hb⟩; have E5 := Lib.hid (evAt_kept E4.out hb); have F5 := Lib.hid (evAt_kept F4.out hb); have G5 := Lib.hid (evAt_kept G4.out hb); have B5 := Lib.hid (below_next B4.out hb); clear hb; obtain ⟨-, -, -, -, d4, -⟩ := evAt_cells E5.out; obtain ⟨-, -, -, -, k4, -⟩ := evAt_cells F5.out)
          | (refine load_dot10 (by rfl) 23 (.tmp 39) rfl ⟨w.heap.size, 0, none⟩ rfl e.r e.q Tryd.underlying23 (by kernel_rfl) (evAt_dot E5.out) ?_)
          | (refine load_dot10 (by rfl) 23 (.tmp 41) rfl ⟨w.heap.size + 1, 0, none⟩ rfl f.r f.q Tryd.underlying23 (by kernel_rfl) (evAt_dot F5.out) ?_))
        all_goals
          go_ret
          exact ⟨by first | rfl | simp, B5.out⟩
    · have q6 : (e.path == f.path) = false := beq_eq_false_iff_ne.2 hp
      clear q5 hp
      rcases K2.out with hy | hy | hy
      · subst hy
        have hz : z = -1 := by have := K4.out.2 (by omega) (by omega); have := K3.out; omega
        subst hz
        go_wp2_with (first
          | (refine load_ev_on (by rfl) 29 (.tmp 4) rfl (w.heap.size + 1) rfl F4.out Tryd.underlying29 evSize ?_)
          | (refine load_ev_on (by rfl) 29 (.tmp 3) rfl w.heap.size rfl E4.out Tryd.underlying29 evSize ?_)
          | (go_at_call 15; refine (C4.out _).mono ?_; rintro x1 w5 ⟨rfl, hb⟩; have E5 := Lib.hid (evAt_kept E4.out hb); have F5 := Lib.hid (evAt_kept F4.out hb); have G5 := Lib.hid (evAt_kept G4.out hb); have B5 := Lib.hid (below_next B4.out hb); clear hb; obtain ⟨-, -, -, -, d4, -⟩ := evAt_cells E5.out; obtain ⟨-, -, -, -, k4, -⟩ := evAt_cells F5.out)
          | (refine load_dot10 (by rfl) 23 (.tmp 39) rfl ⟨w.heap.size, 0, none⟩ rfl e.r e.q Tryd.underlying23 (by kernel_rfl) (evAt_dot E5.out) ?_)
          | (refine load_dot10 (by rfl) 23 (.tmp 41) rfl ⟨w.heap.size + 1, 0, none⟩ rfl f.r f.q Tryd.underlying23 (by kernel_rfl) (evAt_dot F5.out) ?_))
        all_goals
          go_ret
          exact ⟨by first | rfl | simp, B5.out⟩
      · subst hy
        rcases K3.out with hz | hz | hz
        · subst hz
          go_wp2_with (first
            | (refine load_ev_on (by rfl) 29 (.tmp 4) rfl (w.heap.size + 1) rfl F4.out Tryd.underlying29 evSize ?_)
            | (refine load_ev_on (by rfl) 29 (.tmp 3) rfl w.heap.size rfl E4.out Tryd.underlying29 evSize ?_)
            | (go_at_call 15; refine (C4.out _).mono ?_; rintro x1 w5 ⟨rfl, hb⟩; have E5 := Lib.hid (evAt_kept E4.out hb); have F5 := Lib.hid (evAt_kept F4.out hb); have G5 := Lib.hid (evAt_kept G4.out hb); have B5 := Lib.hid (below_next B4.out hb); clear hb; obtain ⟨-, -, -, -, d4, -⟩ := evAt_cells E5.out; obtain ⟨-, -, -, -, k4, -⟩ := evAt_cells F5.out)
            | (refine load_dot10 (by rfl) 23 (.tmp 39) rfl ⟨w.heap.size, 0, none⟩ rfl e.r e.q Tryd.underlying23 (by kernel_rfl) (evAt_dot E5.out) ?_)
            | (refine load_dot10 (by rfl) 23 (.tmp 41) rfl ⟨w.heap.size + 1, 0, none⟩ rfl f.r f.q Tryd.underlying23 (by kernel_rfl) (evAt_dot F5.out) ?_))
          all_goals
            go_ret
            exact ⟨by first | rfl | simp, B5.out⟩
        · subst hz
          go_wp2_with (first
            | (refine load_ev_on (by rfl) 29 (.tmp 4) rfl (w.heap.size + 1) rfl F4.out Tryd.underlying29 evSize ?_)
            | (refine load_ev_on (by rfl) 29 (.tmp 3) rfl w.heap.size rfl E4.out Tryd.underlying29 evSize ?_)
            | (go_at_call 15; refine (C4.out _).mono ?_; rintro x1 w5 ⟨rfl, hb⟩; have E5 := Lib.hid (evAt_kept E4.out hb); have F5 := Lib.hid (evAt_kept F4.out hb); have G5 := Lib.hid (evAt_kept G4.out hb); have B5 := Lib.hid (below_next B4.out hb); clear hb; obtain ⟨-, -, -, -, d4, -⟩ := evAt_cells E5.out; obtain ⟨-, -, -, -, k4, -⟩ := evAt_cells F5.out)
            | (refine load_dot10 (by rfl) 23 (.tmp 39) rfl ⟨w.heap.size, 0, none⟩ rfl e.r e.q Tryd.underlying23 (by kernel_rfl) (evAt_dot E5.out) ?_)
            | (refine load_dot10 (by rfl) 23 (.tmp 41) rfl ⟨w.heap.size + 1, 0, none⟩ rfl f.r f.q Tryd.underlying23 (by kernel_rfl) (evAt_dot F5.out) ?_))
          all_goals
            go_ret
            exact ⟨by first | rfl | simp, B5.out⟩
        · exact absurd (K4.out.1 (by omega) (by omega)) (by omega)
      · subst hy
        go_wp2_with (first
          | (refine load_ev_on (by rfl) 29 (.tmp 4) rfl (w.heap.size + 1) rfl F4.out Tryd.underlying29 evSize ?_)
          | (refine load_ev_on (by rfl) 29 (.tmp 3) rfl w.heap.size rfl E4.out Tryd.underlying29 evSize ?_)
          | (go_at_call 15; refine (C4.out _).mono ?_; rintro x1 w5 ⟨rfl, hb⟩; have E5 := Lib.hid (evAt_kept E4.out hb); have F5 := Lib.hid (evAt_kept F4.out hb); have G5 := Lib.hid (evAt_kept G4.out hb); have B5 := Lib.hid (below_next B4.out hb); clear hb; obtain ⟨-, -, -, -, d4, -⟩ := evAt_cells E5.out; obtain ⟨-, -, -, -, k4, -⟩ := evAt_cells F5.out)
          | (refine load_dot10 (by rfl) 23 (.tmp 39) rfl ⟨w.heap.size, 0, none⟩ rfl e.r e.q Tryd.underlying23 (by kernel_rfl) (evAt_dot E5.out) ?_)
          | (refine load_dot10 (by rfl) 23 (.tmp 41) rfl ⟨w.heap.size + 1, 0, none⟩ rfl f.r f.q Tryd.underlying23 (by kernel_rfl) (evAt_dot F5.out) ?_))
        all_goals
          go_ret
          exact ⟨by first | rfl | simp, B5.out⟩
  · subst hx
    obtain ⟨hp, hr, hq⟩ := K5.out.1 rfl
    have q7 := K6.out (by omega)
    have q6 : (e.path == f.path) = true := by rw [hp]; simp
    have hk : ∀ w, (binOp .eql 23 (.agg #[.int .i64 e.r, .int .i64 e.q]) (.agg #[.int .i64 f.r, .int .i64 f.q])).run Tryd.prog w = .ok (.bool true) w := fun w => by rw [hr, hq]; go_simp
    clear hp hr hq
    rcases K2.out with hy | hy | hy
    · subst hy
      rcases K3.out with hz | hz | hz
      · subst hz
        go_wp2_with (first
          | (refine load_ev_on (by rfl) 29 (.tmp 4) rfl (w.heap.size + 1) rfl F4.out Tryd.underlying29 evSize ?_)
          | (refine load_ev_on (by rfl) 29 (.tmp 3) rfl w.heap.size rfl E4.out Tryd.underlying29 evSize ?_)
          | (go_at_call 15; refine (C4.out _).mono ?_; rintro x1 w5 ⟨rfl, hb⟩; have E5 := Lib.hid (evAt_kept E4.out hb); have F5 := Lib.hid (evAt_kept F4.out hb); have G5 := Lib.hid (evAt_kept G4.out hb); have B5 := Lib.hid (below_next B4.out hb); clear hb; obtain ⟨-, -, -, -, d4, -⟩ := evAt_cells E5.out; obtain ⟨-, -, -, -, k4, -⟩ := evAt_cells F5.out)
          | (refine load_dot10 (by rfl) 23 (.tmp 39) rfl ⟨w.heap.size, 0, none⟩ rfl e.r e.q Tryd.underlying23 (by kernel_rfl) (evAt_dot E5.out) ?_)
          | (refine load_dot10 (by rfl) 23 (.tmp 41) rfl ⟨w.heap.size + 1, 0, none⟩ rfl f.r f.q Tryd.underlying23 (by kernel_rfl) (evAt_dot F5.out) ?_))
        all_goals
          go_ret
          exact ⟨by first | rfl | simp, B5.out⟩
      · subst hz
        go_wp2_with (first
          | (refine load_ev_on (by rfl) 29 (.tmp 4) rfl (w.heap.size + 1) rfl F4.out Tryd.underlying29 evSize ?_)
          | (refine load_ev_on (by rfl) 29 (.tmp 3) rfl w.heap.size rfl E4.out Tryd.underlying29 evSize ?_)
          | (go_at_call 15; refine (C4.out _).mono ?_; rintro x1 w5 ⟨rfl, hb⟩; have E5 := Lib.hid (evAt_kept E4.out hb); have F5 := Lib.hid (evAt_kept F4.out hb); have G5 := Lib.hid (evAt_kept G4.out hb); have B5 := Lib.hid (below_next B4.out hb); clear hb; obtain ⟨-, -, -, -, d4, -⟩ := evAt_cells E5.out; obtain ⟨-, -, -, -, k4, -⟩ := evAt_cells F5.out)
          | (refine load_dot10 (by rfl) 23 (.tmp 39) rfl ⟨w.heap.size, 0, none⟩ rfl e.r e.q Tryd.underlying23 (by kernel_rfl) (evAt_dot E5.out) ?_)
          | (refine load_dot10 (by rfl) 23 (.tmp 41) rfl ⟨w.heap.size + 1, 0, none⟩ rfl f.r f.q Tryd.underlying23 (by kernel_rfl) (evAt_dot F5.out) ?_))
        all_goals
          go_ret
          exact ⟨by first | rfl | simp, B5.out⟩
      · exact absurd (K4.out.1 (by omega) (by omega)) (by omega)
    · subst hy
      rcases K3.out with hz | hz | hz
      · subst hz
        go_wp2_with (first
          | (refine load_ev_on (by rfl) 29 (.tmp 4) rfl (w.heap.size + 1) rfl F4.out Tryd.underlying29 evSize ?_)
          | (refine load_ev_on (by rfl) 29 (.tmp 3) rfl w.heap.size rfl E4.out Tryd.underlying29 evSize ?_)
          | (go_at_call 15; refine (C4.out _).mono ?_; rintro x1 w5 ⟨rfl, hb⟩; have E5 := Lib.hid (evAt_kept E4.out hb); have F5 := Lib.hid (evAt_kept F4.out hb); have G5 := Lib.hid (evAt_kept G4.out hb); have B5 := Lib.hid (below_next B4.out hb); clear hb; obtain ⟨-, -, -, -, d4, -⟩ := evAt_cells E5.out; obtain ⟨-, -, -, -, k4, -⟩ := evAt_cells F5.out)
          | (refine load_dot10 (by rfl) 23 (.tmp 39) rfl ⟨w.heap.size, 0, none⟩ rfl e.r e.q Tryd.underlying23 (by kernel_rfl) (evAt_dot E5.out) ?_)
          | (refine load_dot10 (by rfl) 23 (.tmp 41) rfl ⟨w.heap.size + 1, 0, none⟩ rfl f.r f.q Tryd.underlying23 (by kernel_rfl) (evAt_dot F5.out) ?_))
        all_goals
          go_ret
          exact ⟨by first | rfl | simp, B5.out⟩
      · subst hz
        go_wp2_with (first
          | (refine load_ev_on (by rfl) 29 (.tmp 4) rfl (w.heap.size + 1) rfl F4.out Tryd.underlying29 evSize ?_)
          | (refine load_ev_on (by rfl) 29 (.tmp 3) rfl w.heap.size rfl E4.out Tryd.underlying29 evSize ?_)
          | (go_at_call 15; refine (C4.out _).mono ?_; rintro x1 w5 ⟨rfl, hb⟩; have E5 := Lib.hid (evAt_kept E4.out hb); have F5 := Lib.hid (evAt_kept F4.out hb); have G5 := Lib.hid (evAt_kept G4.out hb); have B5 := Lib.hid (below_next B4.out hb); clear hb; obtain ⟨-, -, -, -, d4, -⟩ := evAt_cells E5.out; obtain ⟨-, -, -, -, k4, -⟩ := evAt_cells F5.out)
          | (refine load_dot10 (by rfl) 23 (.tmp 39) rfl ⟨w.heap.size, 0, none⟩ rfl e.r e.q Tryd.underlying23 (by kernel_rfl) (evAt_dot E5.out) ?_)
          | (refine load_dot10 (by rfl) 23 (.tmp 41) rfl ⟨w.heap.size + 1, 0, none⟩ rfl f.r f.q Tryd.underlying23 (by kernel_rfl) (evAt_dot F5.out) ?_))
        all_goals
          go_ret
          exact ⟨by first | rfl | simp, B5.out⟩
      · exact absurd (K4.out.1 (by omega) (by omega)) (by omega)
    · subst hy
      go_wp2_with (first
        | (refine load_ev_on (by rfl) 29 (.tmp 4) rfl (w.heap.size + 1) rfl F4.out Tryd.underlying29 evSize ?_)
        | (refine load_ev_on (by rfl) 29 (.tmp 3) rfl w.heap.size rfl E4.out Tryd.underlying29 evSize ?_)
        | (go_at_call 15; refine (C4.out _).mono ?_; rintro x1 w5 ⟨rfl, hb⟩; have E5 := Lib.hid (evAt_kept E4.out hb); have F5 := Lib.hid (evAt_kept F4.out hb); have G5 := Lib.hid (evAt_kept G4.out hb); have B5 := Lib.hid (below_next B4.out hb); clear hb; obtain ⟨-, -, -, -, d4, -⟩ := evAt_cells E5.out; obtain ⟨-, -, -, -, k4, -⟩ := evAt_cells F5.out)
        | (refine load_dot10 (by rfl) 23 (.tmp 39) rfl ⟨w.heap.size, 0, none⟩ rfl e.r e.q Tryd.underlying23 (by kernel_rfl) (evAt_dot E5.out) ?_)
        | (refine load_dot10 (by rfl) 23 (.tmp 41) rfl ⟨w.heap.size + 1, 0, none⟩ rfl f.r f.q Tryd.underlying23 (by kernel_rfl) (evAt_dot F5.out) ?_))
      all_goals
        go_ret
        exact ⟨by first | rfl | simp, B5.out⟩
  · subst hx
    have q7 := K6.out (by omega)
    have q5 : ¬ (e.path = f.path ∧ e.r = f.r ∧ e.q = f.q) := fun h => by have := K5.out.2 h; omega
    by_cases hp : e.path = f.path
    · have hk : ∀ w, (binOp .eql 23 (.agg #[.int .i64 e.r, .int .i64 e.q]) (.agg #[.int .i64 f.r, .int .i64 f.q])).run Tryd.prog w = .ok (.bool false) w := fun w => by go_simp; by_cases h1 : e.r = f.r <;> by_cases h2 : e.q = f.q <;> simp_all
      have q6 : (e.path == f.path) = true := by rw [hp]; simp
      clear q5 hp
      go_wp2_with (first
        | (refine load_ev_on (by rfl) 29 (.tmp 4) rfl (w.heap.size + 1) rfl F4.out Tryd.underlying29 evSize ?_)
        | (refine load_ev_on (by rfl) 29 (.tmp 3) rfl w.heap.size rfl E4.out Tryd.underlying29 evSize ?_)
        | (go_at_call 15; refine (C4.out _).mono ?_; rintro x1 w5 ⟨rfl, hb⟩; have E5 := Lib.hid (evAt_kept E4.out hb); have F5 := Lib.hid (evAt_kept F4.out hb); have G5 := Lib.hid (evAt_kept G4.out hb); have B5 := Lib.hid (below_next B4.out hb); clear hb; obtain ⟨-, -, -, -, d4, -⟩ := evAt_cells E5.out; obtain ⟨-, -, -, -, k4, -⟩ := evAt_cells F5.out)
        | (refine load_dot10 (by rfl) 23 (.tmp 39) rfl ⟨w.heap.size, 0, none⟩ rfl e.r e.q Tryd.underlying23 (by kernel_rfl) (evAt_dot E5.out) ?_)
        | (refine load_dot10 (by rfl) 23 (.tmp 41) rfl ⟨w.heap.size + 1, 0, none⟩ rfl f.r f.q Tryd.underlying23 (by kernel_rfl) (evAt_dot F5.out) ?_))
      all_goals
        go_ret
        exact ⟨by first | rfl | simp, B5.out⟩
    · have q6 : (e.path == f.path) = false := beq_eq_false_iff_ne.2 hp
      clear q5 hp
      go_wp2_with (first
        | (refine load_ev_on (by rfl) 29 (.tmp 4) rfl (w.heap.size + 1) rfl F4.out Tryd.underlying29 evSize ?_)
        | (refine load_ev_on (by rfl) 29 (.tmp 3) rfl w.heap.size rfl E4.out Tryd.underlying29 evSize ?_)
        | (go_at_call 15; refine (C4.out _).mono ?_; rintro x1 w5 ⟨rfl, hb⟩; have E5 := Lib.hid (evAt_kept E4.out hb); have F5 := Lib.hid (evAt_kept F4.out hb); have G5 := Lib.hid (evAt_kept G4.out hb); have B5 := Lib.hid (below_next B4.out hb); clear hb; obtain ⟨-, -, -, -, d4, -⟩ := evAt_cells E5.out; obtain ⟨-, -, -, -, k4, -⟩ := evAt_cells F5.out)
        | (refine load_dot10 (by rfl) 23 (.tmp 39) rfl ⟨w.heap.size, 0, none⟩ rfl e.r e.q Tryd.underlying23 (by kernel_rfl) (evAt_dot E5.out) ?_)
        | (refine load_dot10 (by rfl) 23 (.tmp 41) rfl ⟨w.heap.size + 1, 0, none⟩ rfl f.r f.q Tryd.underlying23 (by kernel_rfl) (evAt_dot F5.out) ?_))
      all_goals
        go_ret
        exact ⟨by first | rfl | simp, B5.out⟩
end Go.Proofs.YteooklnejiipkaaDoor
