/-
Is a text parts, with / between? Walked over the landed code.
-/
import Derived.Test.YtbjekhhefepnlaaDoorPathPart
namespace Go.Proofs.YtbjekhhefepnlaaDoor
open Go.RowKit Go.Shelf
attribute [local go_sem] Oper.semAt_some
theorem cell_new (W : World) (v : Value) (t : TypeId) : (W.alloc (.cells #[v] t)).cell? ⟨W.heap.size, 0, none⟩ = some v ∧ (W.alloc (.cells #[v] t)).frozen? ⟨W.heap.size, 0, none⟩ = false := by
  have h := heap_last W (.cells #[v] t)
  constructor <;> simp only [World.cell?, World.frozen?, h] <;> rfl
/-- One cell, and that it may be written. -/
def Cell1 (g : Nat) (W : World) (x : Value) : Prop := W.cell? ⟨g, 0, none⟩ = some x ∧ W.frozen? ⟨g, 0, none⟩ = false
theorem cell1_own {g : Nat} {A B : World} {x : Value} {row : Option Nat} (hs : Cell1 g A x) (hg : A.grownBy B row) (hr : ∀ r, row = some r → ∃ o : Obj, A.heap[r]? = some o ∧ o.isCells = false) : Cell1 g B x := ⟨cell_kept hs.1 hg hr, (frozen_kept hs.1 hg hr).trans hs.2⟩
theorem cell1_alloc {g : Nat} {A : World} {x : Value} (hs : Cell1 g A x) (o : Obj) : Cell1 g (A.alloc o) x := cell1_own hs (World.grownBy_alloc A o none) (fun r e => by cases e)
theorem cell1_set {g : Nat} {A : World} {x : Value} (hs : Cell1 g A x) (y : Value) : Cell1 g (A.setCell ⟨g, 0, none⟩ y) y := ⟨World.cell?_setCell_same' A ⟨g, 0, none⟩ y (by rw [hs.1]; rfl), by rw [World.frozen?_setCell]; exact hs.2⟩
theorem parts_all {s : List UInt8} {ys : List (Pm s)} (h : ys.map (·.1) = marks s) (hall : ∀ x ∈ ys, isPart x.1.2 = true) : isParts s = true := by
  rw [isParts, List.all_eq_true, ← marks_snd, ← h]
  intro p hp
  obtain ⟨y, hy, rfl⟩ := List.mem_map.1 hp
  obtain ⟨x, hx, rfl⟩ := List.mem_map.1 hy
  exact hall x hx
theorem parts_not {s : List UInt8} {pre : List (Pm s)} (h : pre.map (·.1) <+: marks s) (hex : ∃ x ∈ pre, isPart x.1.2 = false) : isParts s = false := by
  obtain ⟨x, hx, hp⟩ := hex
  rw [isParts, Bool.eq_false_iff, ne_eq, List.all_eq_true]
  intro hall
  have := hall x.1.2 (by
    rw [← marks_snd]
    exact List.mem_map.2 ⟨x.1, h.subset (List.mem_map.2 ⟨x, hx, rfl⟩), rfl⟩)
  rw [hp] at this; cases this
set_option maxRecDepth 100000 in
set_option maxHeartbeats 4000000 in
theorem areParts_any (s : List UInt8) (hs : s.length < 4611686018427387904) (w : World) : Calls Tryd.prog 40 #[.string (str s)] w fun e w' => e = .returned (.bool (isParts s)) ∧ Below w.heap.size w w' := by
  have HS := Lib.hid hs
  clear hs
  refine (callsIn_wide (n := 6)).1 ?_
  refine callsIn_of_wp_marks Tryd.func40 rfl trivial ?_ rfl
  simp only [Tryd.ntmps40, List.size_toArray, List.length_cons, List.length_nil, Nat.reduceAdd, Nat.reduceSub, Array.replicate_succ, Array.replicate_zero, List.push_toArray, List.append_toArray, List.nil_append, List.cons_append]
  refine wpIn_wide.2 ?_
  have HP0 := Lib.hid (parts_any s)
  go_wp2_with (first | (go_at_call 41; have A0 := Lib.hid (cell_new w (.bool false) 4); have B0 := Lib.hid ((Below.refl w.heap.size w).alloc (Nat.le_refl _) (.cells #[.bool false] 4)); have Z0 := Lib.hid (show (w.alloc (.cells #[.bool false] 4)).heap.size = w.heap.size + 1 by simp); generalize w.alloc (.cells #[.bool false] 4) = W0 at *; refine (HP0.out _).mono ?_; rintro e w1 ⟨rfl, rfl⟩))
  have hc := cell_new W0 (.string (str s)) 9
  have C0 := Lib.hid (cell1_alloc (show Cell1 w.heap.size W0 (.bool false) from A0.out) (.cells #[.string (str s)] 9))
  have B1 := Lib.hid (B0.out.alloc B0.out.size (.cells #[.string (str s)] 9))
  refine (wpIn_wide (n := 6)).1 ?_
  refine wpIn_rangeFunc_ownF (F := Fence.wide) rfl (by decide) (gf := 51) (lb := #[.pointer (some ⟨W0.heap.size, 0, none⟩)]) rfl trivial (enters_of Tryd.func51 (by kernel_rfl) rfl)
    (seq_stops 5 (by decide) W0.heap.size s HS.out _ (by simp) hc.1) keepBox_t (keepBox_b (by simp)) (Below.refl _ _) (fun _ => rfl)
    (fun pre W => (Cell1 w.heap.size W (.bool false) ∧ ∀ x ∈ pre, isPart x.1.2 = true) ∧ Below w.heap.size w W)
    (fun c pre W => (Cell1 w.heap.size W (.bool false) ∧ c = .ret ∧ ∃ x ∈ pre, isPart x.1.2 = false) ∧ Below w.heap.size w W)
    (OwnFrom.and (OwnFrom.and (Own.from (fun s A B row hs hg hr => cell1_own hs hg hr) _) (ownFrom_pure _ _)) (ownFrom_below (Nat.le_refl _) (by have := Z0.out; simp; omega)))
    (fun c => OwnFrom.and (OwnFrom.and (Own.from (fun s A B row hs hg hr => cell1_own hs hg hr) _) (ownFrom_pure _ _)) (ownFrom_below (Nat.le_refl _) (by have := Z0.out; simp; omega)))
    ⟨⟨C0.out, fun x hx => by cases hx⟩, B1.out⟩
    (fun x => { tmps := #[.string (str s), undef, .pointer (some ⟨w.heap.size, 0, none⟩), undef, .string (str x.1.2), .string (str s), .func (.func 51) #[] #[.pointer (some ⟨W0.heap.size, 0, none⟩)], .int .i64 (x.1.1 : Int), .string (str x.1.2), undef, undef, undef], defers := [] }) ?assign ?body ?done ?stop
  case assign =>
    intro l x W K hK
    gi_wp2
    exact hK
  case body =>
    rintro l pre x W ⟨⟨hC, hall⟩, hB⟩ _
    have HC := Lib.hid hC
    have HA := Lib.hid (And.intro hall hB)
    clear hall hB
    obtain ⟨c0, f0⟩ := hC
    cases hip : isPart x.1.2 with
    | true =>
      have HI := Lib.hid hip
      have PI := Lib.hid (show ∀ w, Calls Tryd.prog 50 #[.string (str x.1.2)] w fun e w' => e = .returned (.bool true) ∧ w = w' from fun w => by have h := isPart_any x.1.2 (Nat.lt_of_le_of_lt x.2.2.2 HS.out) w; rwa [hip] at h)
      clear hip
      gi_wp2_with (refine ⟨trivial, ?_⟩; gi_at_call 50; refine (CallsIn.inRound l (callsIn_wide.2 (PI.out _))).mono ?_; rintro e w' ⟨rfl, rfl⟩)
      exact ⟨KeepsOthers.refl _, rfl, ⟨HC.out, fun y hy => (List.mem_append.1 hy).elim (HA.out.1 y) (fun e => by rw [List.mem_singleton] at e; subst e; exact HI.out)⟩, HA.out.2⟩
    | false =>
      have HI := Lib.hid hip
      have PI := Lib.hid (show ∀ w, Calls Tryd.prog 50 #[.string (str x.1.2)] w fun e w' => e = .returned (.bool false) ∧ w = w' from fun w => by have h := isPart_any x.1.2 (Nat.lt_of_le_of_lt x.2.2.2 HS.out) w; rwa [hip] at h)
      clear hip
      gi_wp2_with (refine ⟨trivial, ?_⟩; gi_at_call 50; refine (CallsIn.inRound l (callsIn_wide.2 (PI.out _))).mono ?_; rintro e w' ⟨rfl, rfl⟩)
      exact ⟨KeepsOthers.setCell W _ _, ⟨cell1_set HC.out _, rfl, x, List.mem_append.2 (.inr (List.mem_singleton.2 rfl)), HI.out⟩, HA.out.2.setCell (p := ⟨w.heap.size, 0, none⟩) (Nat.le_refl _) _⟩
  case done =>
    rintro D ys W hD hys ⟨⟨hC, hall⟩, hB⟩ hK
    have HC := Lib.hid hC
    have HB := Lib.hid hB
    have HP := Lib.hid (parts_all hys hall)
    have HD := Lib.hid (show W0.heap.size + 1 ≤ D by simpa using hD)
    clear hD hB hall hys
    obtain ⟨c0, f0⟩ := hC
    have HK := Lib.hid hK
    clear hK
    go_wp2
    have hK' := (KeepsOthers.setCell W ⟨w.heap.size, 0, none⟩ (.bool true)).same D _ HK.out rfl
    have hC' := cell1_own (cell1_set HC.out (.bool true)) (grownBy_putObj' _ D (.deferred none)) (fun r e => by cases e; exact ⟨_, hK', rfl⟩)
    refine ⟨by simp, .inl ⟨_, _, rfl, run_takeDeferred hK', ?_⟩⟩
    obtain ⟨r0, -⟩ := hC'
    refine ⟨.bool true, by simp [results, Tryd.f40, go_sem, r0], by rw [HP.out], ?_⟩
    exact (HB.out.setCell (p := ⟨w.heap.size, 0, none⟩) (Nat.le_refl _) _).trans (belowK_b (w := w) (Nat.le_refl _) _ D _ _ (by have := Z0.out; have := HD.out; omega) hK' rfl rfl)
  case stop =>
    rintro D c pre W hD hpre ⟨⟨hC, rfl, hex⟩, hB⟩ hK
    have HC := Lib.hid hC
    have HB := Lib.hid hB
    have HP := Lib.hid (parts_not hpre hex)
    have HD := Lib.hid (show W0.heap.size + 1 ≤ D by simpa using hD)
    clear hD hB hex hpre
    obtain ⟨c0, f0⟩ := hC
    have HK := Lib.hid hK
    clear hK
    gi_wp2
    have hC' := cell1_own HC.out (grownBy_putObj' _ D (.deferred none)) (fun r e => by cases e; exact ⟨_, HK.out, rfl⟩)
    refine ⟨by simp, .inl ⟨_, _, rfl, run_takeDeferred HK.out, ?_⟩⟩
    obtain ⟨r0, -⟩ := hC'
    refine ⟨.bool false, by simp [results, Tryd.f40, go_sem, r0], by rw [HP.out], ?_⟩
    exact HB.out.trans (belowK_b (w := w) (Nat.le_refl _) _ D _ _ (by have := Z0.out; have := HD.out; omega) HK.out rfl rfl)
end Go.Proofs.YtbjekhhefepnlaaDoor
