/-
Texts that all claims of this seat share, part 9: PathPart, PathAll, PathSplit, PathJoin, PathCode, Law12Awake.
-/
import Derived.Maps.AppendAt
import Derived.Test.YtcdjkjadbhejpaaGreatDoorPk8
namespace Go.Proofs.YtcdjkjadbhejpaaGreatDoor
open Go.RowKit
theorem mark_at : ∀ x : Fin 256, decide (Lib.indexByte [45, 46, 95, 43, 126] (UInt8.ofNat x.1) ≥ 0) = (decide (x.1 = 45) || (decide (x.1 = 46) || (decide (x.1 = 95) || (decide (x.1 = 43) || decide (x.1 = 126))))) := by decide +kernel
theorem mark_ix (x : Nat) (hx : x < 256) : ∃ z, Lib.indexByte (ByteArray.mk #[45, 46, 95, 43, 126]).data.toList ((x : Int).toNat.toUInt8) = z ∧ decide (z ≥ 0) = (decide (x = 45) || (decide (x = 46) || (decide (x = 95) || (decide (x = 43) || decide (x = 126))))) := ⟨_, rfl, by
  have h := mark_at ⟨x, hx⟩
  rw [Int.toNat_natCast]; exact h⟩
set_option maxHeartbeats 4000000 in
theorem mayStand_any (c : UInt8) (w : World) : Calls Tryz.prog 200 #[.int .u8 (c.toNat : Int)] w fun e w' => e = .returned (.bool (isLet c)) ∧ w = w' := by
  obtain ⟨x, hx⟩ : ∃ x : Nat, x = c.toNat := ⟨_, rfl⟩
  have HX := Lib.hid (isLet_of c x hx)
  obtain ⟨z, hz, hzc⟩ := mark_ix x (by rw [hx]; exact UInt8.toNat_lt c)
  rw [← hx]
  have I1 := Lib.hid (show ∀ w, Calls Tryz.prog 190 #[.string ⟨#[45, 46, 95, 43, 126]⟩, .int .u8 (x : Int)] w fun e w' => e = .returned (.int .i64 z) ∧ w = w' from fun w => by
    refine (Tryz.strings_IndexByte ⟨#[45, 46, 95, 43, 126]⟩ (x : Int) w).mono fun e w' h => ?_
    rw [hz] at h; exact ⟨h.1, h.2.symm⟩)
  obtain ⟨q, hq⟩ : ∃ q, q = (decide (x = 45) || (decide (x = 46) || (decide (x = 95) || (decide (x = 43) || decide (x = 126))))) := ⟨_, rfl⟩
  rw [← hq] at hzc
  have HQ := Lib.hid hq
  clear hz hx hq
  go_enter Tryz.func200, Tryz.ntmps200
  go_wp2_with (first | (go_at_call 190; refine (I1.out _).mono ?_; rintro e w' ⟨rfl, rfl⟩))
  all_goals
    go_ret
    refine ⟨congrArg Ending.returned (show Value.bool _ = Value.bool _ from congrArg Value.bool ?_), rfl⟩
    rw [HX.out]
    try rw [HQ.out]
    rw [Bool.eq_iff_iff]
    simp
    try omega
set_option maxHeartbeats 4000000 in
theorem isPart_any (s : List UInt8) (hs : s.length < 4611686018427387904) (w : World) : Calls Tryz.prog 188 #[.string (str s)] w fun e w' => e = .returned (.bool (isPart s)) ∧ w = w' := by
  obtain ⟨n, hn⟩ : ∃ n, n = s.length := ⟨_, rfl⟩
  have HN := Lib.hid hn
  have hsz : (str s).size = n := by rw [str_size, hn]
  have hl : (str s).toList = s := str_toList s
  rw [← hn] at hs
  clear hn
  by_cases h0 : s = []
  · subst h0
    go_enter Tryz.func188, Tryz.ntmps188
    go_wp2
    go_ret
    exact ⟨rfl, rfl⟩
  by_cases h100 : 100 < n
  · have q0 : (n : Int) > 100 := by omega
    have HP := Lib.hid (show isPart s = false by
      cases h : isPart s with
      | false => rfl
      | true => have := isPart_len h; have := HN.out; omega)
    go_enter Tryz.func188, Tryz.ntmps188
    go_wp2
    go_ret
    exact ⟨by rw [HP.out]; rfl, rfl⟩
  by_cases h1 : s = [46]
  · subst h1
    obtain rfl : n = 1 := HN.out
    go_enter Tryz.func188, Tryz.ntmps188
    go_wp2
    go_ret
    exact ⟨rfl, rfl⟩
  by_cases h2 : s = [46, 46]
  · subst h2
    obtain rfl : n = 2 := HN.out
    go_enter Tryz.func188, Tryz.ntmps188
    go_wp2
    go_ret
    exact ⟨rfl, rfl⟩
  have q0 : ¬ (n : Int) > 100 := by omega
  have e0 : s.isEmpty = false := by cases s with | nil => exact absurd rfl h0 | cons c t => rfl
  have HH := Lib.hid (And.intro h0 (And.intro h100 (And.intro h1 h2)))
  have e1 : (s == [46]) = false := beq_eq_false_iff_ne.2 h1
  have e2 : (s == [46, 46]) = false := beq_eq_false_iff_ne.2 h2
  clear h100 h0 h1 h2
  go_enter Tryz.func188, Tryz.ntmps188
  go_wp2
  go_loopw [21] (fun i wr => wr = w ∧ ∃ k : Nat, k ≤ n ∧ i = .int .i64 k ∧ ∀ j, j < k → ∀ c, s[j]? = some c → isLet c = true) (fun i _ => n - (intOf i).toNat)
  case atStart => exact ⟨rfl, 0, by omega, rfl, fun j hj => by omega⟩
  case round =>
    obtain ⟨rfl, k, hk, rfl, hall⟩ := hrel
    have HA := Lib.hid hall
    clear hall
    by_cases hlt : k < n
    · obtain ⟨c, hc⟩ : ∃ c, s[k]? = some c := ⟨s[k]'(by have := HN.out; omega), List.getElem?_eq_getElem _⟩
      have i1 := fun w => index_str (P := Tryz.prog) w s .i64 k c hc Tryz.underlying9
      have HC := Lib.hid hc
      have q0 : (k : Int) < (n : Int) := by omega
      clear hc
      cases hlet : isLet c with
      | true =>
        have HL := Lib.hid hlet
        have HW := Lib.hid (show ∀ w, Calls Tryz.prog 200 #[.int .u8 (c.toNat : Int)] w fun e w' => e = .returned (.bool true) ∧ w = w' from fun w => by have := mayStand_any c w; rwa [hlet] at this)
        clear hlet
        go_wp2_with (first | (go_at_call 200; refine (HW.out _).mono ?_; rintro e w' ⟨rfl, rfl⟩))
        go_roundw
        case rel => exact ⟨trivial, k + 1, by omega, by go_num, fun j hj c' hc' => by
          rcases Nat.lt_or_ge j k with h | h
          · exact HA.out j h c' hc'
          · obtain rfl : j = k := by omega
            rw [HC.out] at hc'; cases hc'; exact HL.out⟩
        case measure => simp [intOf]; omega
      | false =>
        have HP := Lib.hid (show isPart s = false by
          rw [isPart, Bool.and_eq_false_iff]; left
          rw [Bool.eq_false_iff, ne_eq, List.all_eq_true]
          intro h; have := h c (List.mem_of_getElem? HC.out); rw [hlet] at this; cases this)
        have HW := Lib.hid (show ∀ w, Calls Tryz.prog 200 #[.int .u8 (c.toNat : Int)] w fun e w' => e = .returned (.bool false) ∧ w = w' from fun w => by have := mayStand_any c w; rwa [hlet] at this)
        clear hlet
        go_wp2_with (first | (go_at_call 200; refine (HW.out _).mono ?_; rintro e w' ⟨rfl, rfl⟩))
        go_ret
        exact ⟨by rw [HP.out]; rfl, rfl⟩
    · obtain rfl : k = n := by omega
      have HP := Lib.hid (show isPart s = true by
        have hl : 1 ≤ k := by
          rcases Nat.eq_zero_or_pos k with h | h
          · exact absurd (List.eq_nil_of_length_eq_zero (by rw [← HN.out]; exact h)) HH.out.1
          · exact h
        rw [isPart, ← HN.out, show s.all isLet = true from List.all_eq_true.2 fun c hc => by
          obtain ⟨j, hj, rfl⟩ := List.mem_iff_getElem.1 hc
          exact HA.out j (by rw [HN.out]; exact hj) _ (List.getElem?_eq_getElem hj), decide_eq_true hl, decide_eq_true (show k ≤ 100 by have := HH.out.2.1; omega), bne_iff_ne.2 HH.out.2.2.1, bne_iff_ne.2 HH.out.2.2.2]
        rfl)
      go_wp2
      go_ret
      exact ⟨by rw [HP.out]; rfl, rfl⟩
end Go.Proofs.YtcdjkjadbhejpaaGreatDoor
namespace Go.Proofs.YtcdjkjadbhejpaaGreatDoor
open Go.RowKit Go.Shelf
attribute [local go_sem] Oper.semAt_some
theorem cell_new (W : World) (v : Value) (t : TypeId) : (W.alloc (.cells #[v] t)).cell? ⟨W.heap.size, 0, none⟩ = some v ∧ (W.alloc (.cells #[v] t)).frozen? ⟨W.heap.size, 0, none⟩ = false := by
  have h := heap_last W (.cells #[v] t)
  constructor <;> simp only [World.cell?, World.frozen?, h] <;> rfl
/-- One cell, and that it may be written. -/
def Cell1 (g : Nat) (W : World) (x : Value) : Prop := W.cell? ⟨g, 0, none⟩ = some x ∧ W.frozen? ⟨g, 0, none⟩ = false
theorem cell1_own {g : Nat} {A B : World} {x : Value} {row : Option Nat} (hs : Cell1 g A x) (hg : A.grownBy B row) (hr : ∀ r, row = some r → ∃ o : Obj, A.heap[r]? = some o ∧ o.isCells = false) : Cell1 g B x := ⟨cell_kept hs.1 hg hr, (frozen_kept hs.1 hg hr).trans hs.2⟩
theorem cell1_alloc {g : Nat} {A : World} {x : Value} (hs : Cell1 g A x) (o : Obj) : Cell1 g (A.alloc o) x := cell1_own hs (World.grownBy_alloc A o none) (fun r e => by cases e)
theorem cell1_set {g : Nat} {A : World} {x : Value} (hs : Cell1 g A x) (y : Value) : Cell1 g (A.setCell ⟨g, 0, none⟩ y) y := ⟨World.cell?_setCell_same' A ⟨g, 0, none⟩ y (by rw [hs.1]; rfl), by rw [World.frozen?_setCell]; exact hs.2⟩
theorem parts_all {s : List UInt8} {ys : List (Pm s)} (h : ys.map (·.1) = marks s) (hall : ∀ x ∈ ys, isPart x.1.2 = true) : isParts s = true := by
  rw [isParts, List.all_eq_true, ← marks_snd, ← h]
  intro p hp
  obtain ⟨y, hy, rfl⟩ := List.mem_map.1 hp
  obtain ⟨x, hx, rfl⟩ := List.mem_map.1 hy
  exact hall x hx
theorem parts_not {s : List UInt8} {pre : List (Pm s)} (h : pre.map (·.1) <+: marks s) (hex : ∃ x ∈ pre, isPart x.1.2 = false) : isParts s = false := by
  obtain ⟨x, hx, hp⟩ := hex
  rw [isParts, Bool.eq_false_iff, ne_eq, List.all_eq_true]
  intro hall
  have := hall x.1.2 (by
    rw [← marks_snd]
    exact List.mem_map.2 ⟨x.1, h.subset (List.mem_map.2 ⟨x, hx, rfl⟩), rfl⟩)
  rw [hp] at this; cases this
set_option maxRecDepth 100000 in
set_option maxHeartbeats 4000000 in
theorem areParts_any (s : List UInt8) (hs : s.length < 4611686018427387904) (w : World) : Calls Tryz.prog 162 #[.string (str s)] w fun e w' => e = .returned (.bool (isParts s)) ∧ Below w.heap.size w w' := by
  have HS := Lib.hid hs
  clear hs
  refine (callsIn_wide (n := 6)).1 ?_
  refine callsIn_of_wp_marks Tryz.func162 rfl trivial ?_ rfl
  simp only [Tryz.ntmps162, List.size_toArray, List.length_cons, List.length_nil, Nat.reduceAdd, Nat.reduceSub, Array.replicate_succ, Array.replicate_zero, List.push_toArray, List.append_toArray, List.nil_append, List.cons_append]
  refine wpIn_wide.2 ?_
  have HP0 := Lib.hid (parts_any s)
  go_wp2_with (first | (go_at_call 163; have A0 := Lib.hid (cell_new w (.bool false) 4); have B0 := Lib.hid ((Below.refl w.heap.size w).alloc (Nat.le_refl _) (.cells #[.bool false] 4)); have Z0 := Lib.hid (show (w.alloc (.cells #[.bool false] 4)).heap.size = w.heap.size + 1 by simp); generalize w.alloc (.cells #[.bool false] 4) = W0 at *; refine (HP0.out _).mono ?_; rintro e w1 ⟨rfl, rfl⟩))
  have hc := cell_new W0 (.string (str s)) 9
  have C0 := Lib.hid (cell1_alloc (show Cell1 w.heap.size W0 (.bool false) from A0.out) (.cells #[.string (str s)] 9))
  have B1 := Lib.hid (B0.out.alloc B0.out.size (.cells #[.string (str s)] 9))
  refine (wpIn_wide (n := 6)).1 ?_
  refine wpIn_rangeFunc_ownF (F := Fence.wide) rfl (by decide) (gf := 189) (lb := #[.pointer (some ⟨W0.heap.size, 0, none⟩)]) rfl trivial (enters_of Tryz.func189 (by kernel_rfl) rfl)
    (seq_stops 5 (by decide) W0.heap.size s HS.out _ (by simp) hc.1) keepBox_t (keepBox_b (by simp)) (Below.refl _ _) (fun _ => rfl)
    (fun pre W => (Cell1 w.heap.size W (.bool false) ∧ ∀ x ∈ pre, isPart x.1.2 = true) ∧ Below w.heap.size w W)
    (fun c pre W => (Cell1 w.heap.size W (.bool false) ∧ c = .ret ∧ ∃ x ∈ pre, isPart x.1.2 = false) ∧ Below w.heap.size w W)
    (OwnFrom.and (OwnFrom.and (Own.from (fun s A B row hs hg hr => cell1_own hs hg hr) _) (ownFrom_pure _ _)) (ownFrom_below (Nat.le_refl _) (by have := Z0.out; simp; omega)))
    (fun c => OwnFrom.and (OwnFrom.and (Own.from (fun s A B row hs hg hr => cell1_own hs hg hr) _) (ownFrom_pure _ _)) (ownFrom_below (Nat.le_refl _) (by have := Z0.out; simp; omega)))
    ⟨⟨C0.out, fun x hx => by cases hx⟩, B1.out⟩
    (fun x => { tmps := #[.string (str s), undef, .pointer (some ⟨w.heap.size, 0, none⟩), undef, .string (str x.1.2), .string (str s), .func (.func 189) #[] #[.pointer (some ⟨W0.heap.size, 0, none⟩)], .int .i64 (x.1.1 : Int), .string (str x.1.2), undef, undef, undef], defers := [] }) ?assign ?body ?done ?stop
  case assign =>
    intro l x W K hK
    gi_wp2
    exact hK
  case body =>
    rintro l pre x W ⟨⟨hC, hall⟩, hB⟩ _
    have HC := Lib.hid hC
    have HA := Lib.hid (And.intro hall hB)
    clear hall hB
    obtain ⟨c0, f0⟩ := hC
    cases hip : isPart x.1.2 with
    | true =>
      have HI := Lib.hid hip
      have PI := Lib.hid (show ∀ w, Calls Tryz.prog 188 #[.string (str x.1.2)] w fun e w' => e = .returned (.bool true) ∧ w = w' from fun w => by have h := isPart_any x.1.2 (Nat.lt_of_le_of_lt x.2.2.2 HS.out) w; rwa [hip] at h)
      clear hip
      gi_wp2_with (refine ⟨trivial, ?_⟩; gi_at_call 188; refine (CallsIn.inRound l (callsIn_wide.2 (PI.out _))).mono ?_; rintro e w' ⟨rfl, rfl⟩)
      exact ⟨KeepsOthers.refl _, rfl, ⟨HC.out, fun y hy => (List.mem_append.1 hy).elim (HA.out.1 y) (fun e => by rw [List.mem_singleton] at e; subst e; exact HI.out)⟩, HA.out.2⟩
    | false =>
      have HI := Lib.hid hip
      have PI := Lib.hid (show ∀ w, Calls Tryz.prog 188 #[.string (str x.1.2)] w fun e w' => e = .returned (.bool false) ∧ w = w' from fun w => by have h := isPart_any x.1.2 (Nat.lt_of_le_of_lt x.2.2.2 HS.out) w; rwa [hip] at h)
      clear hip
      gi_wp2_with (refine ⟨trivial, ?_⟩; gi_at_call 188; refine (CallsIn.inRound l (callsIn_wide.2 (PI.out _))).mono ?_; rintro e w' ⟨rfl, rfl⟩)
      exact ⟨KeepsOthers.setCell W _ _, ⟨cell1_set HC.out _, rfl, x, List.mem_append.2 (.inr (List.mem_singleton.2 rfl)), HI.out⟩, HA.out.2.setCell (p := ⟨w.heap.size, 0, none⟩) (Nat.le_refl _) _⟩
  case done =>
    rintro D ys W hD hys ⟨⟨hC, hall⟩, hB⟩ hK
    have HC := Lib.hid hC
    have HB := Lib.hid hB
    have HP := Lib.hid (parts_all hys hall)
    have HD := Lib.hid (show W0.heap.size + 1 ≤ D by simpa using hD)
    clear hD hB hall hys
    obtain ⟨c0, f0⟩ := hC
    have HK := Lib.hid hK
    clear hK
    go_wp2
    have hK' := (KeepsOthers.setCell W ⟨w.heap.size, 0, none⟩ (.bool true)).same D _ HK.out rfl
    have hC' := cell1_own (cell1_set HC.out (.bool true)) (grownBy_putObj' _ D (.deferred none)) (fun r e => by cases e; exact ⟨_, hK', rfl⟩)
    refine ⟨by simp, .inl ⟨_, _, rfl, run_takeDeferred hK', ?_⟩⟩
    obtain ⟨r0, -⟩ := hC'
    refine ⟨.bool true, by simp [results, Tryz.f162, go_sem, r0], by rw [HP.out], ?_⟩
    exact (HB.out.setCell (p := ⟨w.heap.size, 0, none⟩) (Nat.le_refl _) _).trans (belowK_b (w := w) (Nat.le_refl _) _ D _ _ (by have := Z0.out; have := HD.out; omega) hK' rfl rfl)
  case stop =>
    rintro D c pre W hD hpre ⟨⟨hC, rfl, hex⟩, hB⟩ hK
    have HC := Lib.hid hC
    have HB := Lib.hid hB
    have HP := Lib.hid (parts_not hpre hex)
    have HD := Lib.hid (show W0.heap.size + 1 ≤ D by simpa using hD)
    clear hD hB hex hpre
    obtain ⟨c0, f0⟩ := hC
    have HK := Lib.hid hK
    clear hK
    gi_wp2
    have hC' := cell1_own HC.out (grownBy_putObj' _ D (.deferred none)) (fun r e => by cases e; exact ⟨_, HK.out, rfl⟩)
    refine ⟨by simp, .inl ⟨_, _, rfl, run_takeDeferred HK.out, ?_⟩⟩
    obtain ⟨r0, -⟩ := hC'
    refine ⟨.bool false, by simp [results, Tryz.f162, go_sem, r0], by rw [HP.out], ?_⟩
    exact HB.out.trans (belowK_b (w := w) (Nat.le_refl _) _ D _ _ (by have := Z0.out; have := HD.out; omega) HK.out rfl rfl)
end Go.Proofs.YtcdjkjadbhejpaaGreatDoor
namespace Go.Proofs.YtcdjkjadbhejpaaGreatDoor
open Go.RowKit Go.Shelf
attribute [local go_sem] Oper.semAt_some
/-- Three cells of three blocks, one behind the other. -/
def Cells3 (g : Nat) (W : World) (x y z : Value) : Prop := Cell1 g W x ∧ Cell1 (g + 1) W y ∧ Cell1 (g + 1 + 1) W z
theorem cells3_own {g : Nat} {A B : World} {x y z : Value} {row : Option Nat} (hs : Cells3 g A x y z) (hg : A.grownBy B row) (hr : ∀ r, row = some r → ∃ o : Obj, A.heap[r]? = some o ∧ o.isCells = false) : Cells3 g B x y z := ⟨cell1_own hs.1 hg hr, cell1_own hs.2.1 hg hr, cell1_own hs.2.2 hg hr⟩
theorem cells3_alloc {g : Nat} {A : World} {x y z : Value} (hs : Cells3 g A x y z) (o : Obj) : Cells3 g (A.alloc o) x y z := cells3_own hs (World.grownBy_alloc A o none) (fun r e => by cases e)
theorem cell1_far {g h : Nat} {A : World} {x : Value} (hs : Cell1 g A x) (hn : g ≠ h) (y : Value) : Cell1 g (A.setCell ⟨h, 0, none⟩ y) x := ⟨(World.cell?_setCell_far _ _ _ _ (by simp; omega)).trans hs.1, by rw [World.frozen?_setCell]; exact hs.2⟩
theorem cells3_set {g : Nat} {A : World} {x y z : Value} (hs : Cells3 g A x y z) (x' y' z' : Value) : Cells3 g (((A.setCell ⟨g, 0, none⟩ x').setCell ⟨g + 1, 0, none⟩ y').setCell ⟨g + 1 + 1, 0, none⟩ z') x' y' z' :=
  ⟨cell1_far (cell1_far (cell1_set hs.1 x') (by omega) _) (by omega) _, cell1_far (cell1_set (cell1_far hs.2.1 (by omega) _) y') (by omega) _, cell1_set (cell1_far (cell1_far hs.2.2 (by omega) _) (by omega) _) z'⟩
theorem cell1_below {g n : Nat} {A B : World} {x : Value} (hs : Cell1 g A x) (hb : Below n A B) (hg : g < n) : Cell1 g B x := ⟨(hb.cell (p := ⟨g, 0, none⟩) hg).trans hs.1, (hb.frozen (p := ⟨g, 0, none⟩) hg).trans hs.2⟩
theorem far3_set {k g : Nat} {A : World} {x : Value} (hs : Cell1 k A x) (hk : k < g) (x' y' z' : Value) : Cell1 k (((A.setCell ⟨g, 0, none⟩ x').setCell ⟨g + 1, 0, none⟩ y').setCell ⟨g + 1 + 1, 0, none⟩ z') x :=
  cell1_far (cell1_far (cell1_far hs (by omega) _) (by omega) _) (by omega) _
/-- What Split lays ahead: its text, and three cells for its results. -/
theorem laid4 (w : World) (v x y z : Value) (t t1 t2 t3 : TypeId) : Cell1 w.heap.size ((((w.alloc (.cells #[v] t)).alloc (.cells #[x] t1)).alloc (.cells #[y] t2)).alloc (.cells #[z] t3)) v ∧ Cells3 (w.heap.size + 1) ((((w.alloc (.cells #[v] t)).alloc (.cells #[x] t1)).alloc (.cells #[y] t2)).alloc (.cells #[z] t3)) x y z ∧
    Below w.heap.size w ((((w.alloc (.cells #[v] t)).alloc (.cells #[x] t1)).alloc (.cells #[y] t2)).alloc (.cells #[z] t3)) ∧ ((((w.alloc (.cells #[v] t)).alloc (.cells #[x] t1)).alloc (.cells #[y] t2)).alloc (.cells #[z] t3)).heap.size = w.heap.size + 1 + 1 + 1 + 1 := by
  have h0 : Cell1 w.heap.size (w.alloc (.cells #[v] t)) v := cell_new w v t
  have h1 : Cell1 (w.heap.size + 1) ((w.alloc (.cells #[v] t)).alloc (.cells #[x] t1)) x := by have := cell_new (w.alloc (.cells #[v] t)) x t1; rwa [World.size_alloc] at this
  have h2 : Cell1 (w.heap.size + 1 + 1) (((w.alloc (.cells #[v] t)).alloc (.cells #[x] t1)).alloc (.cells #[y] t2)) y := by have := cell_new ((w.alloc (.cells #[v] t)).alloc (.cells #[x] t1)) y t2; rwa [World.size_alloc, World.size_alloc] at this
  have h3 : Cell1 (w.heap.size + 1 + 1 + 1) ((((w.alloc (.cells #[v] t)).alloc (.cells #[x] t1)).alloc (.cells #[y] t2)).alloc (.cells #[z] t3)) z := by have := cell_new (((w.alloc (.cells #[v] t)).alloc (.cells #[x] t1)).alloc (.cells #[y] t2)) z t3; rwa [World.size_alloc, World.size_alloc, World.size_alloc] at this
  refine ⟨cell1_alloc (cell1_alloc (cell1_alloc h0 _) _) _, ⟨cell1_alloc (cell1_alloc h1 _) _, cell1_alloc h2 _, h3⟩, ?_, by simp⟩
  exact (((((Below.refl w.heap.size w).alloc (Nat.le_refl _) _).alloc (by simp) _).alloc (by simp; omega) _).alloc (by simp; omega) _)
theorem set3_below {n : Nat} {A B : World} (h : Below n A B) (x y z : Value) : Below n A (((B.setCell ⟨n + 1, 0, none⟩ x).setCell ⟨n + 1 + 1, 0, none⟩ y).setCell ⟨n + 1 + 1 + 1, 0, none⟩ z) :=
  ((h.setCell (p := ⟨n + 1, 0, none⟩) (by simp) _).setCell (p := ⟨n + 1 + 1, 0, none⟩) (by simp; omega) _).setCell (p := ⟨n + 1 + 1 + 1, 0, none⟩) (by simp; omega) _
theorem split_no {s : List UInt8} (h : isParts s = false ∨ 254 < s.length) : splitA s = [] ∧ splitB s = [] ∧ splitErr s = 9 := by
  have e : splitR s = none := by rw [splitR, if_pos h]
  simp [splitA, splitB, splitErr, e]
theorem split_short {s : List UInt8} (h : isParts s = true) (h2 : s.length ≤ 100) : splitA s = [] ∧ splitB s = s ∧ splitErr s = 0 := by
  have e : splitR s = some ([], s) := by rw [splitR, if_neg (by rw [h]; simp; omega), if_pos h2]
  simp [splitA, splitB, splitErr, e]
theorem split_none {s : List UInt8} (h : isParts s = true) (h2 : ¬ s.length ≤ 100) (h4 : s.length ≤ 254) (h3 : cutI s = none ∨ ∃ i, cutI s = some i ∧ 155 < i) : splitA s = [] ∧ splitB s = [] ∧ splitErr s = 9 := by
  have e : splitR s = none := by
    rw [splitR, if_neg (by rw [h]; simp; omega), if_neg h2]
    rcases h3 with h3 | ⟨i, h3, h5⟩
    · rw [h3]
    · rw [h3]; simp only; rw [if_pos h5]
  simp [splitA, splitB, splitErr, e]
theorem split_at {s : List UInt8} (h : isParts s = true) (h2 : ¬ s.length ≤ 100) (h4 : s.length ≤ 254) {i : Nat} (h3 : cutI s = some i) (h5 : ¬ 155 < i) : splitA s = s.take i ∧ splitB s = s.drop (i + 1) ∧ splitErr s = 0 := by
  have e : splitR s = some (s.take i, s.drop (i + 1)) := by rw [splitR, if_neg (by rw [h]; simp; omega), if_neg h2, h3]; simp only; rw [if_neg h5]
  simp [splitA, splitB, splitErr, e]
theorem place_wraps (b m : Nat) (hb : b ≤ m) (hm : m < 4611686018427387904) : ∃ d : Nat, d = m - b ∧ wrap64 ((m : Int) - (b : Int)) = (d : Int) := ⟨m - b, rfl, by rw [wrap64]; omega⟩
theorem ahead_wraps (b m : Nat) (hb : b ≤ m) (h1 : 0 < b) (hm : m < 4611686018427387904) : ∃ a : Nat, a = b - 1 ∧ wrap64 ((b : Int) - 1) = (a : Int) := ⟨b - 1, rfl, by rw [wrap64]; omega⟩
/-- How a round leaves Split's loop: with the two fields, or for the prefix is too long. -/
def SplitOut (g : Nat) (s : List UInt8) (br c : Code) (pre : List (Pm s)) (W : World) : Prop :=
  Cell1 g W (.string (str s)) ∧ ∃ pre' x, pre = pre' ++ [x] ∧ (∀ y ∈ pre', 100 < s.length - y.1.1) ∧ s.length - x.1.1 ≤ 100 ∧
    ((c = .ret ∧ ¬ 155 < x.1.1 - 1 ∧ Cells3 (g + 1) W (.string (str (s.take (x.1.1 - 1)))) (.string (str (s.drop x.1.1))) (.int .i64 0)) ∨
     (c = br ∧ 155 < x.1.1 - 1 ∧ Cells3 (g + 1) W (.string ⟨#[]⟩) (.string ⟨#[]⟩) (.int .i64 0)))
theorem splitOut_own {g : Nat} {s : List UInt8} {br c : Code} {pre : List (Pm s)} {A B : World} {row : Option Nat} (h : SplitOut g s br c pre A) (hg : A.grownBy B row) (hr : ∀ r, row = some r → ∃ o : Obj, A.heap[r]? = some o ∧ o.isCells = false) : SplitOut g s br c pre B := by
  obtain ⟨h0, pre', x, h1, h2, h3, h4⟩ := h
  refine ⟨cell1_own h0 hg hr, pre', x, h1, h2, h3, ?_⟩
  rcases h4 with ⟨a, b, c⟩ | ⟨a, b, c⟩
  · exact .inl ⟨a, b, cells3_own c hg hr⟩
  · exact .inr ⟨a, b, cells3_own c hg hr⟩
theorem cell1_drew {g : Nat} {A : World} {x : Value} (h : Cell1 g A x) : Cell1 g A.drew x := ⟨by rw [cell_drew_own]; exact h.1, by rw [frozen_drew_own]; exact h.2⟩
theorem splitOut_ret {g : Nat} {s : List UInt8} {br : Code} {pre : List (Pm s)} {x : Pm s} {W : World} {a b d m : Nat} (hC : Cell1 g W (.string (str s)) ∧ Cells3 (g + 1) W (.string ⟨#[]⟩) (.string ⟨#[]⟩) (.int .i64 0)) (hall : ∀ y ∈ pre, 100 < s.length - y.1.1) (hx : a = b - 1 ∧ ¬ 100 < d) (h1 : ¬ 155 < a) (hb : b = x.1.1 ∧ b ≤ m) (hd : d = m - b) (hm : m = s.length) :
    SplitOut g s br .ret (pre ++ [x]) ((((W.setCell ⟨g + 1, 0, none⟩ (.string (str (s.take a)))).setCell ⟨g + 1 + 1, 0, none⟩ (.string (str (s.drop b)))).setCell ⟨g + 1 + 1 + 1, 0, none⟩ (.int .i64 0)).drew) := by
  obtain ⟨rfl, h2⟩ := hx
  obtain ⟨rfl, h3⟩ := hb
  have hc := cells3_set hC.2 (.string (str (s.take (x.1.1 - 1)))) (.string (str (s.drop x.1.1))) (.int .i64 0)
  exact ⟨cell1_drew (far3_set hC.1 (by omega) _ _ _), pre, x, rfl, hall, by omega, .inl ⟨rfl, h1, cell1_drew hc.1, cell1_drew hc.2.1, cell1_drew hc.2.2⟩⟩
theorem splitOut_cut {s : List UInt8} {pre pre' : List (Pm s)} {x : Pm s} (hp : pre.map (·.1) <+: marks s) (e : pre = pre' ++ [x]) (hall : ∀ y ∈ pre', 100 < s.length - y.1.1) (hx : s.length - x.1.1 ≤ 100) (hl : 100 < s.length) : cutI s = some (x.1.1 - 1) ∧ 0 < x.1.1 := by
  have h0 : 0 < x.1.1 := by omega
  subst e
  obtain ⟨rest, hr⟩ := hp
  refine ⟨cut_at (pre := pre'.map fun y => y.1.1) (rest := rest.map (·.1)) ?_ h0 x.2.1 (x.2.2.1 h0) (fun y hy => ?_) hx, h0⟩
  · rw [← hr]; simp
  · obtain ⟨z, hz, rfl⟩ := List.mem_map.1 hy
    exact hall z hz
theorem all_far {s : List UInt8} {ys : List (Pm s)} (h : ys.map (·.1) = marks s) (hall : ∀ y ∈ ys, 100 < s.length - y.1.1) : cutI s = none := cut_nowhere fun y hy => by
  rw [← h] at hy
  simp only [List.map_map, List.mem_map] at hy
  obtain ⟨z, hz, rfl⟩ := hy
  exact hall z hz
/-- A region that draws its order, in a round: as outside of it, for nothing in it is deferred. -/
theorem wpAnyIn_inRound {F : Fence} {n : Nat} {P : Program} {md : Region.Mode} {ops : Array Oper} {Q : Exit → Act → World → Prop} (l : Nat) (hro : F.round = none) (hnd : ∀ (i : Nat) o, ops[i]? = some o → ∀ c, o.op ≠ .defer c) :
    ∀ fuel listed a w, wpAnyIn F n P md ops Q fuel listed a w → wpAnyIn (F.inRound l) n P md ops Q fuel listed a w := by
  intro fuel
  induction fuel with
  | zero => exact fun _ _ _ h => h
  | succ fuel ih =>
    intro listed a w h
    refine ⟨h.1, fun i hi => ?_⟩
    have h1 := wpOpIn_mono (fun a w => ih (listed.setIfInBounds i true) a w) (h.2 i hi)
    unfold wpOpIn at h1 ⊢
    cases ho : ops[i]? with
    | none => simpa only [ho] using h1
    | some o =>
      simp only [ho] at h1 ⊢
      by_cases hw : Region.wanted o (yielded ops a.tmps) = true
      · rw [if_pos hw] at h1 ⊢
        refine ⟨h1.1, ?_⟩
        have h2 := h1.2
        rw [hro, Oper.semAt_none] at h2
        rw [show (F.inRound l).round = some l from rfl, Oper.semAt_some l _ _ (hnd i o ho)]
        exact h2
      · rw [if_neg hw] at h1 ⊢
        exact h1
theorem wrap_i64 (x : Int) : IntKind.i64.wrap x = wrap64 x := by rw [IntKind.wrap_i64, wrap64]
theorem region_nodefer (ops : Array Oper) (h : ops.all (fun o => match o.op with | .defer _ => false | _ => true) = true) : ∀ (i : Nat) o, ops[i]? = some o → ∀ c, o.op ≠ .defer c := fun i o ho c e => by
  have := Array.all_eq_true_iff_forall_mem.1 h o (Array.mem_of_getElem? ho)
  rw [e] at this; cases this
theorem region_inRound {F : Fence} {n : Nat} {P : Program} {id : Nat} {ops : Array Oper} {Q : Exit → Act → World → Prop} {l : Nat} {a : Act} {w : World} (hm : P.follows .mixedOrders = true) (hro : F.round = none) (hnd : ∀ (i : Nat) o, ops[i]? = some o → ∀ c, o.op ≠ .defer c)
    (h : wpAnyIn F n P .any ops Q ops.size (Array.replicate ops.size false) a w.drew) : (Code.region id ops true).wpIn (F.inRound l) n P Q a w :=
  wpIn_region_any hm (wpAnyIn_inRound l hro hnd _ _ _ _ h)
set_option maxRecDepth 100000 in
set_option maxHeartbeats 4000000 in
theorem split_any (s : List UInt8) (hs : s.length < 4611686018427387904) (w : World) :
    Calls Tryz.prog 135 #[.string (str s)] w fun e w' => e = .returned (.tuple #[.string (str (splitA s)), .string (str (splitB s)), .int .i64 (splitErr s)]) ∧ Below w.heap.size w w' := by
  obtain ⟨m, hm⟩ : ∃ m, m = s.length := ⟨_, rfl⟩
  have HM := Lib.hid hm
  have hsz : (str s).size = m := by rw [str_size, hm]
  have HS := Lib.hid hs
  clear hm hs
  have L4 := Lib.hid (laid4 w (.string (str s)) (.string ⟨#[]⟩) (.string ⟨#[]⟩) (.int .i64 0) 9 9 9 61)
  by_cases hlong : 254 < m
  · have q0 : (m : Int) > 254 := by omega
    have HP := Lib.hid (split_no (s := s) (.inr (by rw [← HM.out]; exact hlong)))
    have L9 := Lib.hid (laid4 w (.string (str s)) (.string ⟨#[]⟩) (.string ⟨#[]⟩) (.int .i64 9) 9 9 9 61)
    clear hlong
    go_enter Tryz.func135, Tryz.ntmps135
    go_wp2
    have ⟨_, ⟨⟨r0, _⟩, ⟨r1, _⟩, ⟨r2, _⟩⟩, hb, _⟩ := L9.out
    refine bodyPost_ret (v := .tuple #[.string ⟨#[]⟩, .string ⟨#[]⟩, .int .i64 9]) (by simp [results, Tryz.f135, go_sem, r0, r1, r2]) rfl ?_
    exact ⟨by rw [HP.out.1, HP.out.2.1, HP.out.2.2]; rfl, hb⟩
  have q0 : ¬ (m : Int) > 254 := by omega
  cases hpa : isParts s with
  | false =>
    have HP := Lib.hid (split_no (s := s) (.inl hpa))
    have HA := Lib.hid (show ∀ w, Calls Tryz.prog 162 #[.string (str s)] w fun e w' => e = .returned (.bool false) ∧ Below w.heap.size w w' from fun w => by have h := areParts_any s HS.out w; rwa [hpa] at h)
    clear hpa hlong
    go_enter Tryz.func135, Tryz.ntmps135
    go_wp2_with (first | (go_at_call 162; generalize (((w.alloc (.cells #[.string (str s)] 9)).alloc (.cells #[.string ⟨#[]⟩] 9)).alloc (.cells #[.string ⟨#[]⟩] 9)).alloc (.cells #[.int .i64 0] 61) = W0 at *; refine (HA.out _).mono ?_; rintro e w1 ⟨rfl, hb⟩; have HB := Lib.hid hb; clear hb; have C0 := Lib.hid (cell1_below L4.out.1 HB.out (by rw [L4.out.2.2.2]; omega)); have C1 := Lib.hid (cell1_below L4.out.2.1.1 HB.out (by rw [L4.out.2.2.2]; omega)); have C2 := Lib.hid (cell1_below L4.out.2.1.2.1 HB.out (by rw [L4.out.2.2.2]; omega)); have C3 := Lib.hid (cell1_below L4.out.2.1.2.2 HB.out (by rw [L4.out.2.2.2]; omega)); have ⟨c0, f0⟩ := C0.out; have ⟨c1, f1⟩ := C1.out; have ⟨c2, f2⟩ := C2.out; have ⟨c3, f3⟩ := C3.out))
    have CC := cells3_set (show Cells3 (w.heap.size + 1) w1 _ _ _ from ⟨C1.out, C2.out, C3.out⟩) (.string ⟨#[]⟩) (.string ⟨#[]⟩) (.int .i64 9)
    have ⟨⟨r0, _⟩, ⟨r1, _⟩, ⟨r2, _⟩⟩ := CC
    refine bodyPost_ret (v := .tuple #[.string ⟨#[]⟩, .string ⟨#[]⟩, .int .i64 9]) (by simp [results, Tryz.f135, go_sem, r0, r1, r2]) rfl ?_
    exact ⟨by rw [HP.out.1, HP.out.2.1, HP.out.2.2]; rfl, set3_below (L4.out.2.2.1.trans (HB.out.mono (by rw [L4.out.2.2.2]; omega))) _ _ _⟩
  | true =>
    have HA := Lib.hid (show ∀ w, Calls Tryz.prog 162 #[.string (str s)] w fun e w' => e = .returned (.bool true) ∧ Below w.heap.size w w' from fun w => by have h := areParts_any s HS.out w; rwa [hpa] at h)
    by_cases h100 : m ≤ 100
    · have HP := Lib.hid (split_short hpa (by rw [← HM.out]; exact h100))
      have q1 : (m : Int) ≤ 100 := by omega
      clear hpa hlong h100
      go_enter Tryz.func135, Tryz.ntmps135
      go_wp2_with (first | (go_at_call 162; generalize (((w.alloc (.cells #[.string (str s)] 9)).alloc (.cells #[.string ⟨#[]⟩] 9)).alloc (.cells #[.string ⟨#[]⟩] 9)).alloc (.cells #[.int .i64 0] 61) = W0 at *; refine (HA.out _).mono ?_; rintro e w1 ⟨rfl, hb⟩; have HB := Lib.hid hb; clear hb; have C0 := Lib.hid (cell1_below L4.out.1 HB.out (by rw [L4.out.2.2.2]; omega)); have C1 := Lib.hid (cell1_below L4.out.2.1.1 HB.out (by rw [L4.out.2.2.2]; omega)); have C2 := Lib.hid (cell1_below L4.out.2.1.2.1 HB.out (by rw [L4.out.2.2.2]; omega)); have C3 := Lib.hid (cell1_below L4.out.2.1.2.2 HB.out (by rw [L4.out.2.2.2]; omega)); have ⟨c0, f0⟩ := C0.out; have ⟨c1, f1⟩ := C1.out; have ⟨c2, f2⟩ := C2.out; have ⟨c3, f3⟩ := C3.out))
      go_region
      go_wp2
      have CC := cells3_set (show Cells3 (w.heap.size + 1) w1 _ _ _ from ⟨C1.out, C2.out, C3.out⟩) (.string ⟨#[]⟩) (.string (str s)) (.int .i64 0)
      have ⟨⟨r0, _⟩, ⟨r1, _⟩, ⟨r2, _⟩⟩ := CC
      refine bodyPost_ret (v := .tuple #[.string ⟨#[]⟩, .string (str s), .int .i64 0]) (by simp [results, Tryz.f135, go_sem, r0, r1, r2]) rfl ?_
      exact ⟨by rw [HP.out.1, HP.out.2.1, HP.out.2.2]; rfl, (set3_below (L4.out.2.2.1.trans (HB.out.mono (by rw [L4.out.2.2.2]; omega))) _ _ _).drew⟩
    have q1 : decide ((m : Int) ≤ 100) = false := decide_eq_false (by omega)
    have HH := Lib.hid (And.intro hpa (And.intro h100 hlong))
    clear hpa hlong h100
    have HP0 := Lib.hid (parts_any s)
    refine (callsIn_wide (n := 6)).1 ?_
    refine callsIn_of_wp_marks Tryz.func135 rfl trivial ?_ rfl
    simp only [Tryz.ntmps135, List.size_toArray, List.length_cons, List.length_nil, Nat.reduceAdd, Nat.reduceSub, Array.replicate_succ, Array.replicate_zero, List.push_toArray, List.append_toArray, List.nil_append, List.cons_append]
    refine wpIn_wide.2 ?_
    go_wp2_with (first | (go_at_call 162; generalize (((w.alloc (.cells #[.string (str s)] 9)).alloc (.cells #[.string ⟨#[]⟩] 9)).alloc (.cells #[.string ⟨#[]⟩] 9)).alloc (.cells #[.int .i64 0] 61) = W0 at *; refine (HA.out _).mono ?_; rintro e w1 ⟨rfl, hb⟩; have HB := Lib.hid hb; clear hb; have C0 := Lib.hid (cell1_below L4.out.1 HB.out (by rw [L4.out.2.2.2]; omega)); have C1 := Lib.hid (cell1_below L4.out.2.1.1 HB.out (by rw [L4.out.2.2.2]; omega)); have C2 := Lib.hid (cell1_below L4.out.2.1.2.1 HB.out (by rw [L4.out.2.2.2]; omega)); have C3 := Lib.hid (cell1_below L4.out.2.1.2.2 HB.out (by rw [L4.out.2.2.2]; omega)); have ⟨c0, f0⟩ := C0.out; have ⟨c1, f1⟩ := C1.out; have ⟨c2, f2⟩ := C2.out; have ⟨c3, f3⟩ := C3.out) | (go_at_call 163; refine (HP0.out _).mono ?_; rintro e w2 ⟨rfl, rfl⟩))
    have hc := cell_new w1 (.string (str s)) 9
    have D0 := Lib.hid (And.intro (cell1_alloc C0.out (.cells #[.string (str s)] 9)) (cells3_alloc (show Cells3 (w.heap.size + 1) w1 _ _ _ from ⟨C1.out, C2.out, C3.out⟩) (.cells #[.string (str s)] 9)))
    have B0 := Lib.hid (L4.out.2.2.1.trans (HB.out.mono (by rw [L4.out.2.2.2]; omega)))
    have B1 := Lib.hid (B0.out.alloc B0.out.size (.cells #[.string (str s)] 9))
    have Z0 := Lib.hid (show w.heap.size + 1 + 1 + 1 + 1 ≤ w1.heap.size by have h1 := HB.out.size; have h2 := L4.out.2.2.2; omega)
    clear c0 f0 c1 f1 c2 f2 c3 f3
    refine (wpIn_wide (n := 6)).1 ?_
    refine wpIn_rangeFunc_ownF (F := Fence.wide) rfl (by decide) (gf := 189) (lb := #[.pointer (some ⟨w1.heap.size, 0, none⟩)]) rfl trivial (enters_of Tryz.func189 (by kernel_rfl) rfl)
      (seq_stops 5 (by decide) w1.heap.size s HS.out _ (by simp) hc.1) keepBox_t (keepBox_b (by simp)) (Below.refl _ _) (fun _ => rfl)
      (fun pre W => ((Cell1 w.heap.size W (.string (str s)) ∧ Cells3 (w.heap.size + 1) W (.string ⟨#[]⟩) (.string ⟨#[]⟩) (.int .i64 0)) ∧ ∀ y ∈ pre, 100 < s.length - y.1.1) ∧ Below w.heap.size w W)
      (fun c pre W => SplitOut w.heap.size s (.exit 0) c pre W ∧ Below w.heap.size w W)
      (OwnFrom.and (OwnFrom.and (Own.from (fun s A B row hs hg hr => ⟨cell1_own hs.1 hg hr, cells3_own hs.2 hg hr⟩) _) (ownFrom_pure _ _)) (ownFrom_below (Nat.le_refl _) (by have := Z0.out; simp; omega)))
      (fun c => OwnFrom.and (Own.from (I := SplitOut w.heap.size s (.exit 0) c) (fun _ A B row hs hg hr => splitOut_own hs hg hr) _) (ownFrom_below (Nat.le_refl _) (by have := Z0.out; simp; omega)))
      ⟨⟨D0.out, fun x hx => by cases hx⟩, B1.out⟩
      (fun x => { tmps := #[.string (str s), .pointer (some ⟨w.heap.size, 0, none⟩), .pointer (some ⟨w.heap.size + 1, 0, none⟩), .pointer (some ⟨w.heap.size + 1 + 1, 0, none⟩), .pointer (some ⟨w.heap.size + 1 + 1 + 1, 0, none⟩), .int .i64 (x.1.1 : Int), .string (str s), .int .i64 (m : Int), .bool false, .bool false, .string (str s), .bool true, .bool false, .bool false, .string (str s), .int .i64 (m : Int), .bool false, undef, .string (str s), .func (.func 189) #[] #[.pointer (some ⟨w1.heap.size, 0, none⟩)], .int .i64 (x.1.1 : Int), .string (str x.1.2), undef, undef, undef, undef, undef, undef, undef, undef, undef, undef, undef, undef, undef, undef, undef], defers := [] }) ?assign ?body ?done ?stop
    case assign =>
      intro l x W K hK
      gi_wp2
      exact hK
    case body =>
      rintro l pre x W ⟨⟨⟨hC, hC3⟩, hall⟩, hB⟩ _
      have HC := Lib.hid (And.intro hC hC3)
      have HA := Lib.hid (And.intro hall hB)
      clear hall hB
      obtain ⟨c0, f0⟩ := hC
      obtain ⟨⟨c1, f1⟩, ⟨c2, f2⟩, ⟨c3, f3⟩⟩ := hC3
      obtain ⟨b, hb⟩ : ∃ b, b = x.1.1 := ⟨_, rfl⟩
      have HBB := Lib.hid (And.intro hb (show b ≤ m by rw [hb, HM.out]; exact x.2.1))
      obtain ⟨d, hd, wd⟩ := place_wraps b m HBB.out.2 (by rw [HM.out]; exact HS.out)
      have HD := Lib.hid hd
      rw [← hb]
      clear hd hb
      by_cases hd100 : 100 < d
      · have t1 : decide ((d : Int) > 100) = true := decide_eq_true (by clear wd; omega)
        have HDD := Lib.hid hd100
        clear hd100
        gi_wp2
        exact ⟨KeepsOthers.refl _, rfl, ⟨HC.out, fun y hy => (List.mem_append.1 hy).elim (HA.out.1 y) (fun e => by rw [List.mem_singleton] at e; subst e; have := HDD.out; rw [HD.out, HBB.out.1, HM.out] at this; exact this)⟩, HA.out.2⟩
      · have t1 : decide ((d : Int) > 100) = false := decide_eq_false (by clear wd; omega)
        have h0 : 0 < b := by have := HH.out.2.1; have := HD.out; have := HBB.out.2; clear wd; omega
        obtain ⟨a, ha, wa⟩ := ahead_wraps b m HBB.out.2 h0 (by rw [HM.out]; exact HS.out)
        have HX := Lib.hid (And.intro ha hd100)
        by_cases h155 : 155 < a
        · have t2 : decide ((a : Int) > 155) = true := decide_eq_true (by clear wd wa; omega)
          have H1 := Lib.hid h155
          clear h155 ha h0 hd100
          gi_wp2
          refine ⟨KeepsOthers.refl _, ⟨HC.out.1, pre, x, rfl, HA.out.1, ?_, .inr ⟨rfl, ?_, HC.out.2⟩⟩, HA.out.2⟩
          · clear wd wa t1 t2; have := HX.out; have := HD.out; have := HM.out; have := HBB.out; omega
          · clear wd wa t1 t2; have := HX.out; have := H1.out; have := HBB.out; omega
        · have t2 : decide ((a : Int) > 155) = false := decide_eq_false (by clear wd wa; omega)
          have H1 := Lib.hid h155
          have sa : ∀ w, (Instr.slice 9 (.string (str s)) none (some (.int .i64 (a : Int))) none).run Tryz.prog w = .ok (.string (str (s.take a))) w := fun w => slice_to w 9 s a (by clear wd wa; have := HBB.out.2; have := HM.out; omega) Tryz.underlying9
          have sb : ∀ w, (Instr.slice 9 (.string (str s)) (some (.int .i64 (b : Int))) none none).run Tryz.prog w = .ok (.string (str (s.drop b))) w := fun w => slice_from w 9 s b (by clear wd wa; have := HBB.out.2; have := HM.out; omega) Tryz.underlying9
          clear h155 ha h0 hd100
          gi_wp2
          refine region_inRound (by kernel_rfl) rfl (region_nodefer _ (by kernel_rfl)) ?_
          refine wpAnyIn_take (i := 1) (v := .int .i64 (b : Int)) rfl rfl (by kernel_rfl) (by kernel_rfl) (by kernel_rfl) (fun _ _ _ h => h) ⟨Or.inl ⟨by rfl, fun w => by go_simp⟩, fun _ => rfl⟩ ?_
          try simp only [List.setIfInBounds_toArray, List.set_cons_zero, List.set_cons_succ]
          refine wpAnyIn_take (i := 2) (v := .int .i64 (a : Int)) rfl rfl (by kernel_rfl) (by kernel_rfl) (by kernel_rfl) (fun _ _ _ h => h) ⟨Or.inl ⟨by rfl, fun w => by go_simp; exact (wrap_i64 _).trans wa⟩, fun _ => rfl⟩ ?_
          try simp only [List.setIfInBounds_toArray, List.set_cons_zero, List.set_cons_succ]
          refine wpAnyIn_take (i := 5) (v := .int .i64 (b : Int)) rfl rfl (by kernel_rfl) (by kernel_rfl) (by kernel_rfl) (fun _ _ _ h => h) ⟨Or.inl ⟨by rfl, fun w => by go_simp⟩, fun _ => rfl⟩ ?_
          try simp only [List.setIfInBounds_toArray, List.set_cons_zero, List.set_cons_succ]
          refine wpAnyIn_ready (rs := [0, 4]) (by kernel_rfl) (by simp) ?_
          refine AllReadyIn.cons rfl (fun K hK => ?_) (AllReadyIn.cons rfl (fun K hK => ?_) AllReadyIn.nil)
          · skip
            go_simp
            refine hK _ _ ?_
            clear hK K
            try simp only [List.setIfInBounds_toArray, List.set_cons_zero, List.set_cons_succ]
            refine wpAnyIn_take (i := 3) (v := .string (str (s.take a))) rfl rfl (by kernel_rfl) (by kernel_rfl) (by kernel_rfl) (fun _ _ _ h => h) ⟨Or.inl ⟨by rfl, fun w => by go_simp⟩, fun _ => rfl⟩ ?_
            try simp only [List.setIfInBounds_toArray, List.set_cons_zero, List.set_cons_succ]
            refine wpAnyIn_ready (rs := [4, 7]) (by kernel_rfl) (by simp) ?_
            refine AllReadyIn.cons rfl (fun K hK => ?_) (AllReadyIn.cons rfl (fun K hK => ?_) AllReadyIn.nil)
            · skip
              go_simp
              refine hK _ _ ?_
              clear hK K
              try simp only [List.setIfInBounds_toArray, List.set_cons_zero, List.set_cons_succ]
              refine wpAnyIn_take (i := 6) (v := .string (str (s.drop b))) rfl rfl (by kernel_rfl) (by kernel_rfl) (by kernel_rfl) (fun _ _ _ h => h) ⟨Or.inl ⟨by rfl, fun w => by go_simp⟩, fun _ => rfl⟩ ?_
              try simp only [List.setIfInBounds_toArray, List.set_cons_zero, List.set_cons_succ]
              refine wpAnyIn_ready (rs := [7]) (by kernel_rfl) (by simp) ?_
              refine AllReadyIn.cons rfl (fun K hK => ?_) AllReadyIn.nil
              go_simp
              refine hK _ _ ?_
              clear hK K
              try simp only [List.setIfInBounds_toArray, List.set_cons_zero, List.set_cons_succ]
              refine wpAnyIn_ready (rs := [8]) (by kernel_rfl) (by simp) ?_
              refine AllReadyIn.cons rfl (fun K hK => ?_) AllReadyIn.nil
              go_simp
              refine hK _ _ ?_
              clear hK K
              try simp only [List.setIfInBounds_toArray, List.set_cons_zero, List.set_cons_succ]
              refine wpAnyIn_ready (rs := [9]) (by kernel_rfl) (by simp) ?_
              refine AllReadyIn.cons rfl (fun K hK => ?_) AllReadyIn.nil
              go_simp
              refine hK _ _ ?_
              clear hK K
              try simp only [List.setIfInBounds_toArray, List.set_cons_zero, List.set_cons_succ]
              refine wpAnyIn_done (by kernel_rfl) ?_ _
              gi_wp2
              refine ⟨((KeepsOthers.setCell W _ _).trans (KeepsOthers.setCell _ _ _)).trans ((KeepsOthers.setCell _ _ _).trans (KeepsOthers.drew _)), splitOut_ret HC.out HA.out.1 HX.out H1.out HBB.out HD.out HM.out, (set3_below HA.out.2 _ _ _).drew⟩
            · skip
              go_simp
              refine hK _ _ ?_
              clear hK K
              try simp only [List.setIfInBounds_toArray, List.set_cons_zero, List.set_cons_succ]
              refine wpAnyIn_ready (rs := [4]) (by kernel_rfl) (by simp) ?_
              refine AllReadyIn.cons rfl (fun K hK => ?_) AllReadyIn.nil
              go_simp
              refine hK _ _ ?_
              clear hK K
              try simp only [List.setIfInBounds_toArray, List.set_cons_zero, List.set_cons_succ]
              refine wpAnyIn_take (i := 6) (v := .string (str (s.drop b))) rfl rfl (by kernel_rfl) (by kernel_rfl) (by kernel_rfl) (fun _ _ _ h => h) ⟨Or.inl ⟨by rfl, fun w => by go_simp⟩, fun _ => rfl⟩ ?_
              try simp only [List.setIfInBounds_toArray, List.set_cons_zero, List.set_cons_succ]
              refine wpAnyIn_ready (rs := [8]) (by kernel_rfl) (by simp) ?_
              refine AllReadyIn.cons rfl (fun K hK => ?_) AllReadyIn.nil
              go_simp
              refine hK _ _ ?_
              clear hK K
              try simp only [List.setIfInBounds_toArray, List.set_cons_zero, List.set_cons_succ]
              refine wpAnyIn_ready (rs := [9]) (by kernel_rfl) (by simp) ?_
              refine AllReadyIn.cons rfl (fun K hK => ?_) AllReadyIn.nil
              go_simp
              refine hK _ _ ?_
              clear hK K
              try simp only [List.setIfInBounds_toArray, List.set_cons_zero, List.set_cons_succ]
              refine wpAnyIn_done (by kernel_rfl) ?_ _
              gi_wp2
              refine ⟨((KeepsOthers.setCell W _ _).trans (KeepsOthers.setCell _ _ _)).trans ((KeepsOthers.setCell _ _ _).trans (KeepsOthers.drew _)), splitOut_ret HC.out HA.out.1 HX.out H1.out HBB.out HD.out HM.out, (set3_below HA.out.2 _ _ _).drew⟩
          · skip
            go_simp
            refine hK _ _ ?_
            clear hK K
            try simp only [List.setIfInBounds_toArray, List.set_cons_zero, List.set_cons_succ]
            refine wpAnyIn_take (i := 6) (v := .string (str (s.drop b))) rfl rfl (by kernel_rfl) (by kernel_rfl) (by kernel_rfl) (fun _ _ _ h => h) ⟨Or.inl ⟨by rfl, fun w => by go_simp⟩, fun _ => rfl⟩ ?_
            try simp only [List.setIfInBounds_toArray, List.set_cons_zero, List.set_cons_succ]
            refine wpAnyIn_ready (rs := [0]) (by kernel_rfl) (by simp) ?_
            refine AllReadyIn.cons rfl (fun K hK => ?_) AllReadyIn.nil
            go_simp
            refine hK _ _ ?_
            clear hK K
            try simp only [List.setIfInBounds_toArray, List.set_cons_zero, List.set_cons_succ]
            refine wpAnyIn_take (i := 3) (v := .string (str (s.take a))) rfl rfl (by kernel_rfl) (by kernel_rfl) (by kernel_rfl) (fun _ _ _ h => h) ⟨Or.inl ⟨by rfl, fun w => by go_simp⟩, fun _ => rfl⟩ ?_
            try simp only [List.setIfInBounds_toArray, List.set_cons_zero, List.set_cons_succ]
            refine wpAnyIn_ready (rs := [7]) (by kernel_rfl) (by simp) ?_
            refine AllReadyIn.cons rfl (fun K hK => ?_) AllReadyIn.nil
            go_simp
            refine hK _ _ ?_
            clear hK K
            try simp only [List.setIfInBounds_toArray, List.set_cons_zero, List.set_cons_succ]
            refine wpAnyIn_ready (rs := [8]) (by kernel_rfl) (by simp) ?_
            refine AllReadyIn.cons rfl (fun K hK => ?_) AllReadyIn.nil
            go_simp
            refine hK _ _ ?_
            clear hK K
            try simp only [List.setIfInBounds_toArray, List.set_cons_zero, List.set_cons_succ]
            refine wpAnyIn_ready (rs := [9]) (by kernel_rfl) (by simp) ?_
            refine AllReadyIn.cons rfl (fun K hK => ?_) AllReadyIn.nil
            go_simp
            refine hK _ _ ?_
            clear hK K
            try simp only [List.setIfInBounds_toArray, List.set_cons_zero, List.set_cons_succ]
            refine wpAnyIn_done (by kernel_rfl) ?_ _
            gi_wp2
            refine ⟨((KeepsOthers.setCell W _ _).trans (KeepsOthers.setCell _ _ _)).trans ((KeepsOthers.setCell _ _ _).trans (KeepsOthers.drew _)), splitOut_ret HC.out HA.out.1 HX.out H1.out HBB.out HD.out HM.out, (set3_below HA.out.2 _ _ _).drew⟩
    case done =>
      rintro D ys W hD hys ⟨⟨⟨hC, hC3⟩, hall⟩, hB⟩ hK
      have HC := Lib.hid (And.intro hC hC3)
      have HB := Lib.hid hB
      have HP := Lib.hid (split_none HH.out.1 (by rw [← HM.out]; exact HH.out.2.1) (by rw [← HM.out]; have := HH.out.2.2; omega) (.inl (all_far hys hall)))
      have HD := Lib.hid (show w1.heap.size + 1 ≤ D by simpa using hD)
      have HK := Lib.hid hK
      clear hD hB hall hys hK
      obtain ⟨c0, f0⟩ := hC
      obtain ⟨⟨c1, f1⟩, ⟨c2, f2⟩, ⟨c3, f3⟩⟩ := hC3
      go_wp2
      have hK' := (((KeepsOthers.setCell W ⟨w.heap.size + 1, 0, none⟩ (.string ⟨#[]⟩)).trans (KeepsOthers.setCell _ ⟨w.heap.size + 1 + 1, 0, none⟩ (.string ⟨#[]⟩))).trans (KeepsOthers.setCell _ ⟨w.heap.size + 1 + 1 + 1, 0, none⟩ (.int .i64 9))).same D _ HK.out rfl
      have hC' := cells3_own (cells3_set HC.out.2 (.string ⟨#[]⟩) (.string ⟨#[]⟩) (.int .i64 9)) (grownBy_putObj' _ D (.deferred none)) (fun r e => by cases e; exact ⟨_, hK', rfl⟩)
      refine ⟨by simp, .inl ⟨_, _, rfl, run_takeDeferred hK', ?_⟩⟩
      obtain ⟨⟨r0, -⟩, ⟨r1, -⟩, ⟨r2, -⟩⟩ := hC'
      refine ⟨.tuple #[.string ⟨#[]⟩, .string ⟨#[]⟩, .int .i64 9], by simp [results, Tryz.f135, go_sem, r0, r1, r2], by rw [HP.out.1, HP.out.2.1, HP.out.2.2]; rfl, ?_⟩
      exact (set3_below HB.out _ _ _).trans (belowK_b (w := w) (Nat.le_refl _) _ D _ _ (by have := Z0.out; have := HD.out; omega) hK' rfl rfl)
    case stop =>
      rintro D c pre W hD hpre ⟨⟨hC, pre', x, he, hall, hx, hout⟩, hB⟩ hK
      obtain ⟨hcut, h0⟩ := splitOut_cut hpre he hall hx (by rw [← HM.out]; have := HH.out.2.1; omega)
      have HB := Lib.hid hB
      have HD := Lib.hid (show w1.heap.size + 1 ≤ D by simpa using hD)
      have HK := Lib.hid hK
      clear hD hB hall hpre hK he hx
      obtain ⟨c0, f0⟩ := hC
      rcases hout with ⟨rfl, h155, hC3⟩ | ⟨rfl, h155, hC3⟩
      · have HP := Lib.hid (split_at HH.out.1 (by rw [← HM.out]; exact HH.out.2.1) (by rw [← HM.out]; have := HH.out.2.2; omega) hcut h155)
        have HX := Lib.hid (show x.1.1 - 1 + 1 = x.1.1 by omega)
        have HC := Lib.hid hC3
        clear hcut h0 h155 hC3
        gi_wp2
        have hC' := cells3_own HC.out (grownBy_putObj' _ D (.deferred none)) (fun r e => by cases e; exact ⟨_, HK.out, rfl⟩)
        refine ⟨by simp, .inl ⟨_, _, rfl, run_takeDeferred HK.out, ?_⟩⟩
        obtain ⟨⟨r0, -⟩, ⟨r1, -⟩, ⟨r2, -⟩⟩ := hC'
        refine ⟨.tuple #[.string (str (s.take (x.1.1 - 1))), .string (str (s.drop x.1.1)), .int .i64 0], by simp [results, Tryz.f135, go_sem, r0, r1, r2], by rw [HP.out.1, HP.out.2.1, HP.out.2.2, HX.out], ?_⟩
        exact HB.out.trans (belowK_b (w := w) (Nat.le_refl _) _ D _ _ (by have := Z0.out; have := HD.out; omega) HK.out rfl rfl)
      · have HP := Lib.hid (split_none HH.out.1 (by rw [← HM.out]; exact HH.out.2.1) (by rw [← HM.out]; have := HH.out.2.2; omega) (.inr ⟨_, hcut, h155⟩))
        have HC := Lib.hid hC3
        obtain ⟨⟨c1, f1⟩, ⟨c2, f2⟩, ⟨c3, f3⟩⟩ := hC3
        clear hcut h0 h155
        gi_wp2
        go_wp2
        have HK := HK.out
        have hK' := (((KeepsOthers.setCell W ⟨w.heap.size + 1, 0, none⟩ (.string ⟨#[]⟩)).trans (KeepsOthers.setCell _ ⟨w.heap.size + 1 + 1, 0, none⟩ (.string ⟨#[]⟩))).trans (KeepsOthers.setCell _ ⟨w.heap.size + 1 + 1 + 1, 0, none⟩ (.int .i64 9))).same D _ HK rfl
        have hC' := cells3_own (cells3_set HC.out (.string ⟨#[]⟩) (.string ⟨#[]⟩) (.int .i64 9)) (grownBy_putObj' _ D (.deferred none)) (fun r e => by cases e; exact ⟨_, hK', rfl⟩)
        refine ⟨by simp, .inl ⟨_, _, rfl, run_takeDeferred hK', ?_⟩⟩
        obtain ⟨⟨r0, -⟩, ⟨r1, -⟩, ⟨r2, -⟩⟩ := hC'
        refine ⟨.tuple #[.string ⟨#[]⟩, .string ⟨#[]⟩, .int .i64 9], by simp [results, Tryz.f135, go_sem, r0, r1, r2], by rw [HP.out.1, HP.out.2.1, HP.out.2.2]; rfl, ?_⟩
        exact (set3_below HB.out _ _ _).trans (belowK_b (w := w) (Nat.le_refl _) _ D _ _ (by have := Z0.out; have := HD.out; omega) hK' rfl rfl)
end Go.Proofs.YtcdjkjadbhejpaaGreatDoor
namespace Go.Proofs.YtcdjkjadbhejpaaGreatDoor
open Go.RowKit
theorem may_any (s : List UInt8) (hs : s.length < 4611686018427387904) (w : World) : Calls Tryz.prog 109 #[.string (str s)] w fun e w' => e = .returned (.bool (mayP s)) ∧ Below w.heap.size w w' := by
  have HP := Lib.hid (fun w => split_any s hs w)
  have HZ := Lib.hid (splitErr_zero s)
  obtain ⟨z, hz⟩ : ∃ z, z = splitErr s := ⟨_, rfl⟩
  rw [← hz] at HP HZ
  clear hz hs
  go_enter Tryz.func109, Tryz.ntmps109
  go_wp2_with (first | (go_at_call 135; refine (HP.out _).mono ?_; rintro e w1 ⟨rfl, hb⟩; have HB := Lib.hid hb; clear hb))
  go_ret
  exact ⟨by rw [← HZ.out]; rfl, HB.out⟩
end Go.Proofs.YtcdjkjadbhejpaaGreatDoor
namespace Go.Proofs.YtcdjkjadbhejpaaGreatDoor
open Go.RowKit
set_option maxHeartbeats 4000000 in
theorem copy_any (s : List UInt8) (r q : Int) (hs : s.length < 1152921504606846976) (hr : -9223372036854775808 ≤ r ∧ r < 9223372036854775808) (hq : -9223372036854775808 ≤ q ∧ q < 9223372036854775808) (w : World) (hT : PowTab w) :
    Calls Tryz.prog 60 #[.string (str s), .agg #[.int .i64 r, .int .i64 q]] w fun e w' => e = .returned (.string (str (copyL s r q))) ∧ Below w.heap.size w w' := by
  have HT := Lib.hid hT
  have N1 := Lib.hid (fun w => number_any w r hr.1 hr.2)
  have N2 := Lib.hid (fun w => number_any w q hq.1 hq.2)
  have HL := Lib.hid (And.intro hs (And.intro (numL_length r hr.1 hr.2) (numL_length q hq.1 hq.2)))
  obtain ⟨R, hR⟩ : ∃ R, numL r = R := ⟨_, rfl⟩
  obtain ⟨Q, hQ⟩ : ∃ Q, numL q = Q := ⟨_, rfl⟩
  obtain ⟨A1, hA1⟩ : ∃ A1, s ++ [126] = A1 := ⟨_, rfl⟩
  obtain ⟨A2, hA2⟩ : ∃ A2, A1 ++ R = A2 := ⟨_, rfl⟩
  obtain ⟨A3, hA3⟩ : ∃ A3, A2 ++ [45] = A3 := ⟨_, rfl⟩
  obtain ⟨A4, hA4⟩ : ∃ A4, A3 ++ Q = A4 := ⟨_, rfl⟩
  have HE := Lib.hid (show A4 = copyL s r q by rw [← hA4, ← hA3, ← hA2, ← hA1, ← hR, ← hQ]; simp [copyL])
  have hA := Lib.hid (And.intro hA1 (And.intro hA2 (And.intro hA3 hA4)))
  rw [hR] at N1 HL
  rw [hQ] at N2 HL
  have c0 : (w.alloc (.cells #[.int .i64 r, .int .i64 q] 24 (0, 0))).cell? ⟨w.heap.size, 0, none⟩ = some (.int .i64 r) := by rw [cell_of_row _ _ 0 _ _ _ (heap_last w _)]; rfl
  have c1 : (w.alloc (.cells #[.int .i64 r, .int .i64 q] 24 (0, 0))).cell? ⟨w.heap.size, 1, none⟩ = some (.int .i64 q) := by rw [cell_of_row _ _ 1 _ _ _ (heap_last w _)]; rfl
  have B0 := Lib.hid ((Below.refl w.heap.size w).alloc (Nat.le_refl _) (.cells #[.int .i64 r, .int .i64 q] 24 (0, 0)))
  clear hT hs hr hq hR hQ hA1 hA2 hA3 hA4
  go_enter Tryz.func60, Tryz.ntmps60
  go_wp2
  refine wp_region_held_drew (S := fun w' => Below (w.alloc (.cells #[.int .i64 r, .int .i64 q] 24 (0, 0))).heap.size (w.alloc (.cells #[.int .i64 r, .int .i64 q] 24 (0, 0))) w') (by kernel_rfl) (below_draws (Below.refl _ _) 1) (fun hHeld => ?_)
  generalize (w.alloc (.cells #[.int .i64 r, .int .i64 q] 24 (0, 0))).drew = wd at hHeld ⊢
  refine take_at (i := 0) 5 rfl rfl (by kernel_rfl) (by kernel_rfl) (by kernel_rfl) (fun _ _ _ h => h) (sure_yes (by rfl) (fun w => by go_simp; try with_reducible rfl)) hHeld ?_
  simp only [List.setIfInBounds_toArray, List.set_cons_zero, List.set_cons_succ]
  refine take_at (i := 1) 6 rfl rfl (by kernel_rfl) (by kernel_rfl) (by kernel_rfl) (fun _ _ _ h => h) (sure_yes (by rfl) (add_as (l := s) (m := [126]) rfl rfl rfl (by have h1 := HL.out.1; have h2 := HL.out.2.1; have h3 := HL.out.2.2; have e1 := congrArg List.length hA.out.1; have e2 := congrArg List.length hA.out.2.1; have e3 := congrArg List.length hA.out.2.2.1; simp at e1 e2 e3 ⊢; omega) hA.out.1)) hHeld ?_
  simp only [List.setIfInBounds_toArray, List.set_cons_zero, List.set_cons_succ]
  refine take_at (i := 2) 7 rfl rfl (by kernel_rfl) (by kernel_rfl) (by kernel_rfl) (fun _ _ _ h => h) (sure_yes (by rfl) (fun w => by go_simp; try with_reducible rfl)) hHeld ?_
  simp only [List.setIfInBounds_toArray, List.set_cons_zero, List.set_cons_succ]
  refine take_at (i := 7) 12 rfl rfl (by kernel_rfl) (by kernel_rfl) (by kernel_rfl) (fun _ _ _ h => h) (sure_yes (by rfl) (fun w => by go_simp; try with_reducible rfl)) hHeld ?_
  simp only [List.setIfInBounds_toArray, List.set_cons_zero, List.set_cons_succ]
  refine take_at (i := 3) 8 rfl rfl (by kernel_rfl) (by kernel_rfl) (by kernel_rfl) (fun _ _ _ h => h) (cell_yields (by rfl) 3 (.tmp 7) rfl w.heap.size 0 rfl .i64 r Tryz.underlying3 (fun w' h => (cell_same (h.block w.heap.size (by simp)) 0).trans c0)) hHeld ?_
  simp only [List.setIfInBounds_toArray, List.set_cons_zero, List.set_cons_succ]
  refine take_at (i := 8) 13 rfl rfl (by kernel_rfl) (by kernel_rfl) (by kernel_rfl) (fun _ _ _ h => h) (cell_yields (by rfl) 2 (.tmp 12) rfl w.heap.size 1 rfl .i64 q Tryz.underlying2 (fun w' h => (cell_same (h.block w.heap.size (by simp)) 1).trans c1)) hHeld ?_
  simp only [List.setIfInBounds_toArray, List.set_cons_zero, List.set_cons_succ]
  refine wpAnyH_ready (rs := [4]) (by kernel_rfl) (by simp) ?_
  refine AllReadyH.cons rfl (fun K hK => ?_) AllReadyH.nil
  go_simp
  go_at_call 100
  refine (N1.out _ (powTab_below HT.out (below_next B0.out hHeld))).mono ?_
  rintro e w2 ⟨rfl, hb⟩
  dsimp only
  refine hK.out _ _ (below_next hHeld hb) (fun hHeld => ?_)
  clear hK K hb
  refine take_at (i := 5) 10 rfl rfl (by kernel_rfl) (by kernel_rfl) (by kernel_rfl) (fun _ _ _ h => h) (sure_yes (by rfl) (add_as (l := A1) (m := R) rfl rfl rfl (by have h1 := HL.out.1; have h2 := HL.out.2.1; have h3 := HL.out.2.2; have e1 := congrArg List.length hA.out.1; have e2 := congrArg List.length hA.out.2.1; have e3 := congrArg List.length hA.out.2.2.1; simp at e1 e2 e3 ⊢; omega) hA.out.2.1)) hHeld ?_
  simp only [List.setIfInBounds_toArray, List.set_cons_zero, List.set_cons_succ]
  refine take_at (i := 6) 11 rfl rfl (by kernel_rfl) (by kernel_rfl) (by kernel_rfl) (fun _ _ _ h => h) (sure_yes (by rfl) (add_as (l := A2) (m := [45]) rfl rfl rfl (by have h1 := HL.out.1; have h2 := HL.out.2.1; have h3 := HL.out.2.2; have e1 := congrArg List.length hA.out.1; have e2 := congrArg List.length hA.out.2.1; have e3 := congrArg List.length hA.out.2.2.1; simp at e1 e2 e3 ⊢; omega) hA.out.2.2.1)) hHeld ?_
  simp only [List.setIfInBounds_toArray, List.set_cons_zero, List.set_cons_succ]
  refine wpAnyH_ready (rs := [9]) (by kernel_rfl) (by simp) ?_
  refine AllReadyH.cons rfl (fun K hK => ?_) AllReadyH.nil
  go_simp
  go_at_call 100
  refine (N2.out _ (powTab_below HT.out (below_next B0.out hHeld))).mono ?_
  rintro e w2 ⟨rfl, hb⟩
  dsimp only
  refine hK.out _ _ (below_next hHeld hb) (fun hHeld => ?_)
  clear hK K hb
  refine take_at (i := 10) 15 rfl rfl (by kernel_rfl) (by kernel_rfl) (by kernel_rfl) (fun _ _ _ h => h) (sure_yes (by rfl) (add_as (l := A3) (m := Q) rfl rfl rfl (by have h1 := HL.out.1; have h2 := HL.out.2.1; have h3 := HL.out.2.2; have e1 := congrArg List.length hA.out.1; have e2 := congrArg List.length hA.out.2.1; have e3 := congrArg List.length hA.out.2.2.1; simp at e1 e2 e3 ⊢; omega) hA.out.2.2.2)) hHeld ?_
  simp only [List.setIfInBounds_toArray, List.set_cons_zero, List.set_cons_succ]
  refine take_at (i := 11) 4 rfl rfl (by kernel_rfl) (by kernel_rfl) (by kernel_rfl) (fun _ _ _ h => h) (sure_yes (by rfl) (fun w => by go_simp; try with_reducible rfl)) hHeld ?_
  simp only [List.setIfInBounds_toArray, List.set_cons_zero, List.set_cons_succ]
  refine wpAnyH_done (by kernel_rfl) ?_ _
  go_wp2
  go_ret
  exact ⟨by rw [← HE.out]; rfl, below_next B0.out hHeld⟩
theorem row_below {g : Nat} {A B : World} {o : Obj} (h : A.heap[g]? = some o) (hb : Below A.heap.size A B) : B.heap[g]? = some o := (hb.block g (Array.getElem?_eq_some_iff.1 h).1).trans h
theorem built_own : Tryz.prog.built 24 [(0, .int .i64 31), (1, .int .i64 1099511627776)] = some #[.int .i64 31, .int .i64 1099511627776] := by kernel_rfl
theorem copy_longest (s : List UInt8) : copyL s 31 1099511627776 = s ++ tail31 := by
  rw [copyL, show (126 : UInt8) :: (numL 31 ++ 45 :: numL 1099511627776) = tail31 by decide +kernel]
theorem has_tilde (s : List UInt8) : decide (0 ≤ Lib.indexByte (str s).data.toList 126) = s.contains 126 := by
  rw [show (str s).data.toList = s from by simp [str]]
  have hge := Lib.indexByte_ge s 126
  rw [Bool.eq_iff_iff, decide_eq_true_eq, List.contains_iff_mem]
  constructor
  · intro h
    obtain ⟨o, ho⟩ : ∃ o : Nat, Lib.indexByte s 126 = (o : Int) := ⟨(Lib.indexByte s 126).toNat, by omega⟩
    exact List.mem_of_getElem? (Lib.indexByte_some ho).1
  · intro hm
    rcases Int.lt_or_le (Lib.indexByte s 126) 0 with h | h
    · obtain ⟨k, hk, e⟩ := List.mem_iff_getElem.1 hm
      exact absurd (by rw [List.getElem?_eq_getElem hk, e]) (Lib.indexByte_none (show Lib.indexByte s 126 = -1 by omega) k)
    · exact h
set_option maxHeartbeats 4000000 in
theorem own_any (s : List UInt8) (hs : s.length < 1152921504606846976) (w : World) (hT : PowTab w) : Calls Tryz.prog 70 #[.string (str s)] w fun e w' => e = .returned (.bool (ownP s)) ∧ Below w.heap.size w w' := by
  have HT := Lib.hid hT
  obtain ⟨n, hn⟩ : ∃ n, n = s.length := ⟨_, rfl⟩
  have HN := Lib.hid hn
  have hsz : (str s).size = n := by rw [str_size, hn]
  have M1 := Lib.hid (fun w => may_any s (Nat.lt_trans hs (by decide)) w)
  have HC := Lib.hid (fun w hT => copy_any s 31 1099511627776 hs (by decide) (by decide) w hT)
  have M2 := Lib.hid (fun w => may_any (s ++ tail31) (by rw [List.length_append, show tail31.length = 17 from rfl]; omega) w)
  have HP := Lib.hid (show ownP s = (!s.contains 126 && (mayP s && (decide (n ≤ 200) && mayP (s ++ tail31)))) by rw [ownP, hn])
  have HL := Lib.hid (copy_longest s)
  have HK := Lib.hid (show ∀ w, Calls Tryz.prog 108 #[.string (str s), .string ⟨#[126]⟩] w fun e w' => e = .returned (.bool (s.contains 126)) ∧ w = w' from fun w => by
    refine (Tryz.strings_Contains_one (str s) 126 w).mono fun e w' h => ?_
    rw [has_tilde] at h; exact ⟨h.1, h.2.symm⟩)
  generalize s.contains 126 = k at HP HK
  generalize mayP s = m at HP M1
  generalize s ++ tail31 = u at HP M2 HL
  generalize mayP u = z at HP M2
  have B0 := Lib.hid ((Below.refl w.heap.size w).alloc (Nat.le_refl _) (.cells #[.int .i64 31, .int .i64 1099511627776] 24 (0, 0)))
  have HW := Lib.hid (heap_last w (.cells #[.int .i64 31, .int .i64 1099511627776] 24 (0, 0)))
  rw [HL.out] at HC
  have q : decide ((n : Int) ≤ 200) = decide (n ≤ 200) := by rw [Bool.eq_iff_iff, decide_eq_true_eq, decide_eq_true_eq]; omega
  clear hn hs hT HL HN
  generalize decide (n ≤ 200) = b at HP q
  cases b with
  | false =>
    replace HP := Lib.hid (show ownP s = false by rw [HP.out]; cases k <;> cases m <;> rfl)
    go_enter Tryz.func70, Tryz.ntmps70
    go_wp2_with (first
      | (refine build_on (by rfl) 24 #[(0, .const (.int .i64 31)), (1, .const (.int .i64 1099511627776))] rfl _ _ built_own (by simp [Act.eval]) ?_))
    go_ret
    exact ⟨by rw [HP.out]; try rfl, B0.out⟩
  | true =>
    cases k with
    | true =>
      replace HP := Lib.hid (show ownP s = false by rw [HP.out]; rfl)
      go_enter Tryz.func70, Tryz.ntmps70
      go_wp2_with (first
        | (refine build_on (by rfl) 24 #[(0, .const (.int .i64 31)), (1, .const (.int .i64 1099511627776))] rfl _ _ built_own (by simp [Act.eval]) ?_)
        | (go_at_call 108; refine (HK.out _).mono ?_; rintro e w' ⟨rfl, rfl⟩))
      go_ret
      exact ⟨by rw [HP.out]; try rfl, B0.out⟩
    | false =>
      cases m with
      | false =>
        replace HP := Lib.hid (show ownP s = false by rw [HP.out]; rfl)
        go_enter Tryz.func70, Tryz.ntmps70
        go_wp2_with (first
          | (refine build_on (by rfl) 24 #[(0, .const (.int .i64 31)), (1, .const (.int .i64 1099511627776))] rfl _ _ built_own (by simp [Act.eval]) ?_)
          | (go_at_call 108; refine (HK.out _).mono ?_; rintro e w' ⟨rfl, rfl⟩)
          | (go_at_call 109; with_reducible refine (M1.out (w.alloc (.cells #[.int .i64 31, .int .i64 1099511627776] 24 (0, 0)))).mono ?_; rintro e w1 ⟨rfl, hb⟩; have H1 := Lib.hid hb; have G1 := Lib.hid (row_below HW.out hb); clear hb))
        go_ret
        exact ⟨by rw [HP.out]; try rfl, below_next B0.out H1.out⟩
      | true =>
        replace HP := Lib.hid (show ownP s = z by rw [HP.out]; rfl)
        go_enter Tryz.func70, Tryz.ntmps70
        go_wp2_with (first
          | (refine build_on (by rfl) 24 #[(0, .const (.int .i64 31)), (1, .const (.int .i64 1099511627776))] rfl _ _ built_own (by simp [Act.eval]) ?_)
          | (go_at_call 108; refine (HK.out _).mono ?_; rintro e w' ⟨rfl, rfl⟩)
          | (go_at_call 109; with_reducible refine (M1.out (w.alloc (.cells #[.int .i64 31, .int .i64 1099511627776] 24 (0, 0)))).mono ?_; rintro e w1 ⟨rfl, hb⟩; have H1 := Lib.hid hb; have G1 := Lib.hid (row_below HW.out hb); clear hb)
          | (refine load_row_on (by rfl) 24 (.tmp 3) rfl w.heap.size rfl 24 _ (0, 0) _ G1.out Tryz.underlying24 rfl (by kernel_rfl) ?_)
          | (go_at_call 60; refine (HC.out w1 (powTab_below HT.out (below_next B0.out H1.out))).mono ?_; rintro e w2 ⟨rfl, hb⟩; have H2 := Lib.hid (below_next H1.out hb); clear hb)
          | (go_at_call 109; with_reducible refine (M2.out w2).mono ?_; rintro e w3 ⟨rfl, hb⟩; have H3 := Lib.hid (below_next H2.out hb); clear hb))
        go_ret
        exact ⟨by rw [HP.out]; try rfl, below_next B0.out H3.out⟩
end Go.Proofs.YtcdjkjadbhejpaaGreatDoor
namespace Go.Proofs.YtcdjkjadbhejpaaGreatDoor
open Go.RowKit
theorem ownSays : OwnSays := fun w s hs hT => own_any s hs w hT
end Go.Proofs.YtcdjkjadbhejpaaGreatDoor
