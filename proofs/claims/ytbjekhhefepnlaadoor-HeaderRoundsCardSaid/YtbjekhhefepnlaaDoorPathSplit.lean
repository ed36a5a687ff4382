/-
A path's two fields, walked over the landed code.
-/
import Derived.Test.YtbjekhhefepnlaaDoorPathAll
namespace Go.Proofs.YtbjekhhefepnlaaDoor
open Go.RowKit Go.Shelf
attribute [local go_sem] Oper.semAt_some
/-- Three cells of three blocks, one behind the other. -/
def Cells3 (g : Nat) (W : World) (x y z : Value) : Prop := Cell1 g W x ∧ Cell1 (g + 1) W y ∧ Cell1 (g + 1 + 1) W z
theorem cells3_own {g : Nat} {A B : World} {x y z : Value} {row : Option Nat} (hs : Cells3 g A x y z) (hg : A.grownBy B row) (hr : ∀ r, row = some r → ∃ o : Obj, A.heap[r]? = some o ∧ o.isCells = false) : Cells3 g B x y z := ⟨cell1_own hs.1 hg hr, cell1_own hs.2.1 hg hr, cell1_own hs.2.2 hg hr⟩
theorem cells3_alloc {g : Nat} {A : World} {x y z : Value} (hs : Cells3 g A x y z) (o : Obj) : Cells3 g (A.alloc o) x y z := cells3_own hs (World.grownBy_alloc A o none) (fun r e => by cases e)
theorem cell1_far {g h : Nat} {A : World} {x : Value} (hs : Cell1 g A x) (hn : g ≠ h) (y : Value) : Cell1 g (A.setCell ⟨h, 0, none⟩ y) x := ⟨(World.cell?_setCell_far _ _ _ _ (by simp; omega)).trans hs.1, by rw [World.frozen?_setCell]; exact hs.2⟩
theorem cells3_set {g : Nat} {A : World} {x y z : Value} (hs : Cells3 g A x y z) (x' y' z' : Value) : Cells3 g (((A.setCell ⟨g, 0, none⟩ x').setCell ⟨g + 1, 0, none⟩ y').setCell ⟨g + 1 + 1, 0, none⟩ z') x' y' z' :=
  ⟨cell1_far (cell1_far (cell1_set hs.1 x') (by omega) _) (by omega) _, cell1_far (cell1_set (cell1_far hs.2.1 (by omega) _) y') (by omega) _, cell1_set (cell1_far (cell1_far hs.2.2 (by omega) _) (by omega) _) z'⟩
theorem cell1_below {g n : Nat} {A B : World} {x : Value} (hs : Cell1 g A x) (hb : Below n A B) (hg : g < n) : Cell1 g B x := ⟨(hb.cell (p := ⟨g, 0, none⟩) hg).trans hs.1, (hb.frozen (p := ⟨g, 0, none⟩) hg).trans hs.2⟩
theorem far3_set {k g : Nat} {A : World} {x : Value} (hs : Cell1 k A x) (hk : k < g) (x' y' z' : Value) : Cell1 k (((A.setCell ⟨g, 0, none⟩ x').setCell ⟨g + 1, 0, none⟩ y').setCell ⟨g + 1 + 1, 0, none⟩ z') x :=
  cell1_far (cell1_far (cell1_far hs (by omega) _) (by omega) _) (by omega) _
/-- What Split lays ahead: its text, and three cells for its results. -/
theorem laid4 (w : World) (v x y z : Value) (t t1 t2 t3 : TypeId) : Cell1 w.heap.size ((((w.alloc (.cells #[v] t)).alloc (.cells #[x] t1)).alloc (.cells #[y] t2)).alloc (.cells #[z] t3)) v ∧ Cells3 (w.heap.size + 1) ((((w.alloc (.cells #[v] t)).alloc (.cells #[x] t1)).alloc (.cells #[y] t2)).alloc (.cells #[z] t3)) x y z ∧
    Below w.heap.size w ((((w.alloc (.cells #[v] t)).alloc (.cells #[x] t1)).alloc (.cells #[y] t2)).alloc (.cells #[z] t3)) ∧ ((((w.alloc (.cells #[v] t)).alloc (.cells #[x] t1)).alloc (.cells #[y] t2)).alloc (.cells #[z] t3)).heap.size = w.heap.size + 1 + 1 + 1 + 1 := by
  have h0 : Cell1 w.heap.size (w.alloc (.cells #[v] t)) v := cell_new w v t
  have h1 : Cell1 (w.heap.size + 1) ((w.alloc (.cells #[v] t)).alloc (.cells #[x] t1)) x := by have := cell_new (w.alloc (.cells #[v] t)) x t1; rwa [World.size_alloc] at this
  have h2 : Cell1 (w.heap.size + 1 + 1) (((w.alloc (.cells #[v] t)).alloc (.cells #[x] t1)).alloc (.cells #[y] t2)) y := by have := cell_new ((w.alloc (.cells #[v] t)).alloc (.cells #[x] t1)) y t2; rwa [World.size_alloc, World.size_alloc] at this
  have h3 : Cell1 (w.heap.size + 1 + 1 + 1) ((((w.alloc (.cells #[v] t)).alloc (.cells #[x] t1)).alloc (.cells #[y] t2)).alloc (.cells #[z] t3)) z := by have := cell_new (((w.alloc (.cells #[v] t)).alloc (.cells #[x] t1)).alloc (.cells #[y] t2)) z t3; rwa [World.size_alloc, World.size_alloc, World.size_alloc] at this
  refine ⟨cell1_alloc (cell1_alloc (cell1_alloc h0 _) _) _, ⟨cell1_alloc (cell1_alloc h1 _) _, cell1_alloc h2 _, h3⟩, ?_, by simp⟩
  exact (((((Below.refl w.heap.size w).alloc (Nat.le_refl _) _).alloc (by simp) _).alloc (by simp; omega) _).alloc (by simp; omega) _)
theorem set3_below {n : Nat} {A B : World} (h : Below n A B) (x y z : Value) : Below n A (((B.setCell ⟨n + 1, 0, none⟩ x).setCell ⟨n + 1 + 1, 0, none⟩ y).setCell ⟨n + 1 + 1 + 1, 0, none⟩ z) :=
  ((h.setCell (p := ⟨n + 1, 0, none⟩) (by simp) _).setCell (p := ⟨n + 1 + 1, 0, none⟩) (by simp; omega) _).setCell (p := ⟨n + 1 + 1 + 1, 0, none⟩) (by simp; omega) _
theorem split_no {s : List UInt8} (h : isParts s = false ∨ 254 < s.length) : splitA s = [] ∧ splitB s = [] ∧ splitErr s = 9 := by
  have e : splitR s = none := by rw [splitR, if_pos h]
  simp [splitA, splitB, splitErr, e]
theorem split_short {s : List UInt8} (h : isParts s = true) (h2 : s.length ≤ 100) : splitA s = [] ∧ splitB s = s ∧ splitErr s = 0 := by
  have e : splitR s = some ([], s) := by rw [splitR, if_neg (by rw [h]; simp; omega), if_pos h2]
  simp [splitA, splitB, splitErr, e]
theorem split_none {s : List UInt8} (h : isParts s = true) (h2 : ¬ s.length ≤ 100) (h4 : s.length ≤ 254) (h3 : cutI s = none ∨ ∃ i, cutI s = some i ∧ 155 < i) : splitA s = [] ∧ splitB s = [] ∧ splitErr s = 9 := by
  have e : splitR s = none := by
    rw [splitR, if_neg (by rw [h]; simp; omega), if_neg h2]
    rcases h3 with h3 | ⟨i, h3, h5⟩
    · rw [h3]
    · rw [h3]; simp only; rw [if_pos h5]
  simp [splitA, splitB, splitErr, e]
theorem split_at {s : List UInt8} (h : isParts s = true) (h2 : ¬ s.length ≤ 100) (h4 : s.length ≤ 254) {i : Nat} (h3 : cutI s = some i) (h5 : ¬ 155 < i) : splitA s = s.take i ∧ splitB s = s.drop (i + 1) ∧ splitErr s = 0 := by
  have e : splitR s = some (s.take i, s.drop (i + 1)) := by rw [splitR, if_neg (by rw [h]; simp; omega), if_neg h2, h3]; simp only; rw [if_neg h5]
  simp [splitA, splitB, splitErr, e]
theorem place_wraps (b m : Nat) (hb : b ≤ m) (hm : m < 4611686018427387904) : ∃ d : Nat, d = m - b ∧ wrap64 ((m : Int) - (b : Int)) = (d : Int) := ⟨m - b, rfl, by rw [wrap64]; omega⟩
theorem ahead_wraps (b m : Nat) (hb : b ≤ m) (h1 : 0 < b) (hm : m < 4611686018427387904) : ∃ a : Nat, a = b - 1 ∧ wrap64 ((b : Int) - 1) = (a : Int) := ⟨b - 1, rfl, by rw [wrap64]; omega⟩
/-- How a round leaves Split's loop: with the two fields, or for the prefix is too long. -/
def SplitOut (g : Nat) (s : List UInt8) (br c : Code) (pre : List (Pm s)) (W : World) : Prop :=
  Cell1 g W (.string (str s)) ∧ ∃ pre' x, pre = pre' ++ [x] ∧ (∀ y ∈ pre', 100 < s.length - y.1.1) ∧ s.length - x.1.1 ≤ 100 ∧
    ((c = .ret ∧ ¬ 155 < x.1.1 - 1 ∧ Cells3 (g + 1) W (.string (str (s.take (x.1.1 - 1)))) (.string (str (s.drop x.1.1))) (.int .i64 0)) ∨
     (c = br ∧ 155 < x.1.1 - 1 ∧ Cells3 (g + 1) W (.string ⟨#[]⟩) (.string ⟨#[]⟩) (.int .i64 0)))
theorem splitOut_own {g : Nat} {s : List UInt8} {br c : Code} {pre : List (Pm s)} {A B : World} {row : Option Nat} (h : SplitOut g s br c pre A) (hg : A.grownBy B row) (hr : ∀ r, row = some r → ∃ o : Obj, A.heap[r]? = some o ∧ o.isCells = false) : SplitOut g s br c pre B := by
  obtain ⟨h0, pre', x, h1, h2, h3, h4⟩ := h
  refine ⟨cell1_own h0 hg hr, pre', x, h1, h2, h3, ?_⟩
  rcases h4 with ⟨a, b, c⟩ | ⟨a, b, c⟩
  · exact .inl ⟨a, b, cells3_own c hg hr⟩
  · exact .inr ⟨a, b, cells3_own c hg hr⟩
theorem cell1_drew {g : Nat} {A : World} {x : Value} (h : Cell1 g A x) : Cell1 g A.drew x := ⟨by rw [cell_drew_own]; exact h.1, by rw [frozen_drew_own]; exact h.2⟩
theorem splitOut_ret {g : Nat} {s : List UInt8} {br : Code} {pre : List (Pm s)} {x : Pm s} {W : World} {a b d m : Nat} (hC : Cell1 g W (.string (str s)) ∧ Cells3 (g + 1) W (.string ⟨#[]⟩) (.string ⟨#[]⟩) (.int .i64 0)) (hall : ∀ y ∈ pre, 100 < s.length - y.1.1) (hx : a = b - 1 ∧ ¬ 100 < d) (h1 : ¬ 155 < a) (hb : b = x.1.1 ∧ b ≤ m) (hd : d = m - b) (hm : m = s.length) :
    SplitOut g s br .ret (pre ++ [x]) ((((W.setCell ⟨g + 1, 0, none⟩ (.string (str (s.take a)))).setCell ⟨g + 1 + 1, 0, none⟩ (.string (str (s.drop b)))).setCell ⟨g + 1 + 1 + 1, 0, none⟩ (.int .i64 0)).drew) := by
  obtain ⟨rfl, h2⟩ := hx
  obtain ⟨rfl, h3⟩ := hb
  have hc := cells3_set hC.2 (.string (str (s.take (x.1.1 - 1)))) (.string (str (s.drop x.1.1))) (.int .i64 0)
  exact ⟨cell1_drew (far3_set hC.1 (by omega) _ _ _), pre, x, rfl, hall, by omega, .inl ⟨rfl, h1, cell1_drew hc.1, cell1_drew hc.2.1, cell1_drew hc.2.2⟩⟩
theorem splitOut_cut {s : List UInt8} {pre pre' : List (Pm s)} {x : Pm s} (hp : pre.map (·.1) <+: marks s) (e : pre = pre' ++ [x]) (hall : ∀ y ∈ pre', 100 < s.length - y.1.1) (hx : s.length - x.1.1 ≤ 100) (hl : 100 < s.length) : cutI s = some (x.1.1 - 1) ∧ 0 < x.1.1 := by
  have h0 : 0 < x.1.1 := by omega
  subst e
  obtain ⟨rest, hr⟩ := hp
  refine ⟨cut_at (pre := pre'.map fun y => y.1.1) (rest := rest.map (·.1)) ?_ h0 x.2.1 (x.2.2.1 h0) (fun y hy => ?_) hx, h0⟩
  · rw [← hr]; simp
  · obtain ⟨z, hz, rfl⟩ := List.mem_map.1 hy
    exact hall z hz
theorem all_far {s : List UInt8} {ys : List (Pm s)} (h : ys.map (·.1) = marks s) (hall : ∀ y ∈ ys, 100 < s.length - y.1.1) : cutI s = none := cut_nowhere fun y hy => by
  rw [← h] at hy
  simp only [List.map_map, List.mem_map] at hy
  obtain ⟨z, hz, rfl⟩ := hy
  exact hall z hz
/-- A region that draws its order, in a round: as outside of it, for nothing in it is deferred. -/
theorem wpAnyIn_inRound {F : Fence} {n : Nat} {P : Program} {md : Region.Mode} {ops : Array Oper} {Q : Exit → Act → World → Prop} (l : Nat) (hro : F.round = none) (hnd : ∀ (i : Nat) o, ops[i]? = some o → ∀ c, o.op ≠ .defer c) :
    ∀ fuel listed a w, wpAnyIn F n P md ops Q fuel listed a w → wpAnyIn (F.inRound l) n P md ops Q fuel listed a w := by
  intro fuel
  induction fuel with
  | zero => exact fun _ _ _ h => h
  | succ fuel ih =>
    intro listed a w h
    refine ⟨h.1, fun i hi => ?_⟩
    have h1 := wpOpIn_mono (fun a w => ih (listed.setIfInBounds i true) a w) (h.2 i hi)
    unfold wpOpIn at h1 ⊢
    cases ho : ops[i]? with
    | none => simpa only [ho] using h1
    | some o =>
      simp only [ho] at h1 ⊢
      by_cases hw : Region.wanted o (yielded ops a.tmps) = true
      · rw [if_pos hw] at h1 ⊢
        refine ⟨h1.1, ?_⟩
        have h2 := h1.2
        rw [hro, Oper.semAt_none] at h2
        rw [show (F.inRound l).round = some l from rfl, Oper.semAt_some l _ _ (hnd i o ho)]
        exact h2
      · rw [if_neg hw] at h1 ⊢
        exact h1
theorem wrap_i64 (x : Int) : IntKind.i64.wrap x = wrap64 x := by rw [IntKind.wrap_i64, wrap64]
theorem region_nodefer (ops : Array Oper) (h : ops.all (fun o => match o.op with | .defer _ => false | _ => true) = true) : ∀ (i : Nat) o, ops[i]? = some o → ∀ c, o.op ≠ .defer c := fun i o ho c e => by
  have := Array.all_eq_true_iff_forall_mem.1 h o (Array.mem_of_getElem? ho)
  rw [e] at this; cases this
theorem region_inRound {F : Fence} {n : Nat} {P : Program} {id : Nat} {ops : Array Oper} {Q : Exit → Act → World → Prop} {l : Nat} {a : Act} {w : World} (hm : P.follows .mixedOrders = true) (hro : F.round = none) (hnd : ∀ (i : Nat) o, ops[i]? = some o → ∀ c, o.op ≠ .defer c)
    (h : wpAnyIn F n P .any ops Q ops.size (Array.replicate ops.size false) a w.drew) : (Code.region id ops true).wpIn (F.inRound l) n P Q a w :=
  wpIn_region_any hm (wpAnyIn_inRound l hro hnd _ _ _ _ h)
set_option maxRecDepth 100000 in
set_option maxHeartbeats 4000000 in
theorem split_any (s : List UInt8) (hs : s.length < 4611686018427387904) (w : World) :
    Calls Tryd.prog 30 #[.string (str s)] w fun e w' => e = .returned (.tuple #[.string (str (splitA s)), .string (str (splitB s)), .int .i64 (splitErr s)]) ∧ Below w.heap.size w w' := by
  obtain ⟨m, hm⟩ : ∃ m, m = s.length := ⟨_, rfl⟩
  have HM := Lib.hid hm
  have hsz : (str s).size = m := by rw [str_size, hm]
  have HS := Lib.hid hs
  clear hm hs
  have L4 := Lib.hid (laid4 w (.string (str s)) (.string ⟨#[]⟩) (.string ⟨#[]⟩) (.int .i64 0) 9 9 9 24)
  by_cases hlong : 254 < m
  · have q0 : (m : Int) > 254 := by omega
    have HP := Lib.hid (split_no (s := s) (.inr (by rw [← HM.out]; exact hlong)))
    have L9 := Lib.hid (laid4 w (.string (str s)) (.string ⟨#[]⟩) (.string ⟨#[]⟩) (.int .i64 9) 9 9 9 24)
    clear hlong
    go_enter Tryd.func30, Tryd.ntmps30
    go_wp2
    have ⟨_, ⟨⟨r0, _⟩, ⟨r1, _⟩, ⟨r2, _⟩⟩, hb, _⟩ := L9.out
    refine bodyPost_ret (v := .tuple #[.string ⟨#[]⟩, .string ⟨#[]⟩, .int .i64 9]) (by simp [results, Tryd.f30, go_sem, r0, r1, r2]) rfl ?_
    exact ⟨by rw [HP.out.1, HP.out.2.1, HP.out.2.2]; rfl, hb⟩
  have q0 : ¬ (m : Int) > 254 := by omega
  cases hpa : isParts s with
  | false =>
    have HP := Lib.hid (split_no (s := s) (.inl hpa))
    have HA := Lib.hid (show ∀ w, Calls Tryd.prog 40 #[.string (str s)] w fun e w' => e = .returned (.bool false) ∧ Below w.heap.size w w' from fun w => by have h := areParts_any s HS.out w; rwa [hpa] at h)
    clear hpa hlong
    go_enter Tryd.func30, Tryd.ntmps30
    go_wp2_with (first | (go_at_call 40; generalize (((w.alloc (.cells #[.string (str s)] 9)).alloc (.cells #[.string ⟨#[]⟩] 9)).alloc (.cells #[.string ⟨#[]⟩] 9)).alloc (.cells #[.int .i64 0] 24) = W0 at *; refine (HA.out _).mono ?_; rintro e w1 ⟨rfl, hb⟩; have HB := Lib.hid hb; clear hb; have C0 := Lib.hid (cell1_below L4.out.1 HB.out (by rw [L4.out.2.2.2]; omega)); have C1 := Lib.hid (cell1_below L4.out.2.1.1 HB.out (by rw [L4.out.2.2.2]; omega)); have C2 := Lib.hid (cell1_below L4.out.2.1.2.1 HB.out (by rw [L4.out.2.2.2]; omega)); have C3 := Lib.hid (cell1_below L4.out.2.1.2.2 HB.out (by rw [L4.out.2.2.2]; omega)); have ⟨c0, f0⟩ := C0.out; have ⟨c1, f1⟩ := C1.out; have ⟨c2, f2⟩ := C2.out; have ⟨c3, f3⟩ := C3.out))
    have CC := cells3_set (show Cells3 (w.heap.size + 1) w1 _ _ _ from ⟨C1.out, C2.out, C3.out⟩) (.string ⟨#[]⟩) (.string ⟨#[]⟩) (.int .i64 9)
    have ⟨⟨r0, _⟩, ⟨r1, _⟩, ⟨r2, _⟩⟩ := CC
    refine bodyPost_ret (v := .tuple #[.string ⟨#[]⟩, .string ⟨#[]⟩, .int .i64 9]) (by simp [results, Tryd.f30, go_sem, r0, r1, r2]) rfl ?_
    exact ⟨by rw [HP.out.1, HP.out.2.1, HP.out.2.2]; rfl, set3_below (L4.out.2.2.1.trans (HB.out.mono (by rw [L4.out.2.2.2]; omega))) _ _ _⟩
  | true =>
    have HA := Lib.hid (show ∀ w, Calls Tryd.prog 40 #[.string (str s)] w fun e w' => e = .returned (.bool true) ∧ Below w.heap.size w w' from fun w => by have h := areParts_any s HS.out w; rwa [hpa] at h)
    by_cases h100 : m ≤ 100
    · have HP := Lib.hid (split_short hpa (by rw [← HM.out]; exact h100))
      have q1 : (m : Int) ≤ 100 := by omega
      clear hpa hlong h100
      go_enter Tryd.func30, Tryd.ntmps30
      go_wp2_with (first | (go_at_call 40; generalize (((w.alloc (.cells #[.string (str s)] 9)).alloc (.cells #[.string ⟨#[]⟩] 9)).alloc (.cells #[.string ⟨#[]⟩] 9)).alloc (.cells #[.int .i64 0] 24) = W0 at *; refine (HA.out _).mono ?_; rintro e w1 ⟨rfl, hb⟩; have HB := Lib.hid hb; clear hb; have C0 := Lib.hid (cell1_below L4.out.1 HB.out (by rw [L4.out.2.2.2]; omega)); have C1 := Lib.hid (cell1_below L4.out.2.1.1 HB.out (by rw [L4.out.2.2.2]; omega)); have C2 := Lib.hid (cell1_below L4.out.2.1.2.1 HB.out (by rw [L4.out.2.2.2]; omega)); have C3 := Lib.hid (cell1_below L4.out.2.1.2.2 HB.out (by rw [L4.out.2.2.2]; omega)); have ⟨c0, f0⟩ := C0.out; have ⟨c1, f1⟩ := C1.out; have ⟨c2, f2⟩ := C2.out; have ⟨c3, f3⟩ := C3.out))
      go_region
      go_wp2
      have CC := cells3_set (show Cells3 (w.heap.size + 1) w1 _ _ _ from ⟨C1.out, C2.out, C3.out⟩) (.string ⟨#[]⟩) (.string (str s)) (.int .i64 0)
      have ⟨⟨r0, _⟩, ⟨r1, _⟩, ⟨r2, _⟩⟩ := CC
      refine bodyPost_ret (v := .tuple #[.string ⟨#[]⟩, .string (str s), .int .i64 0]) (by simp [results, Tryd.f30, go_sem, r0, r1, r2]) rfl ?_
      exact ⟨by rw [HP.out.1, HP.out.2.1, HP.out.2.2]; rfl, (set3_below (L4.out.2.2.1.trans (HB.out.mono (by rw [L4.out.2.2.2]; omega))) _ _ _).drew⟩
    have q1 : decide ((m : Int) ≤ 100) = false := decide_eq_false (by omega)
    have HH := Lib.hid (And.intro hpa (And.intro h100 hlong))
    clear hpa hlong h100
    have HP0 := Lib.hid (parts_any s)
    refine (callsIn_wide (n := 6)).1 ?_
    refine callsIn_of_wp_marks Tryd.func30 rfl trivial ?_ rfl
    simp only [Tryd.ntmps30, List.size_toArray, List.length_cons, List.length_nil, Nat.reduceAdd, Nat.reduceSub, Array.replicate_succ, Array.replicate_zero, List.push_toArray, List.append_toArray, List.nil_append, List.cons_append]
    refine wpIn_wide.2 ?_
    go_wp2_with (first | (go_at_call 40; generalize (((w.alloc (.cells #[.string (str s)] 9)).alloc (.cells #[.string ⟨#[]⟩] 9)).alloc (.cells #[.string ⟨#[]⟩] 9)).alloc (.cells #[.int .i64 0] 24) = W0 at *; refine (HA.out _).mono ?_; rintro e w1 ⟨rfl, hb⟩; have HB := Lib.hid hb; clear hb; have C0 := Lib.hid (cell1_below L4.out.1 HB.out (by rw [L4.out.2.2.2]; omega)); have C1 := Lib.hid (cell1_below L4.out.2.1.1 HB.out (by rw [L4.out.2.2.2]; omega)); have C2 := Lib.hid (cell1_below L4.out.2.1.2.1 HB.out (by rw [L4.out.2.2.2]; omega)); have C3 := Lib.hid (cell1_below L4.out.2.1.2.2 HB.out (by rw [L4.out.2.2.2]; omega)); have ⟨c0, f0⟩ := C0.out; have ⟨c1, f1⟩ := C1.out; have ⟨c2, f2⟩ := C2.out; have ⟨c3, f3⟩ := C3.out) | (go_at_call 41; refine (HP0.out _).mono ?_; rintro e w2 ⟨rfl, rfl⟩))
    have hc := cell_new w1 (.string (str s)) 9
    have D0 := Lib.hid (And.intro (cell1_alloc C0.out (.cells #[.string (str s)] 9)) (cells3_alloc (show Cells3 (w.heap.size + 1) w1 _ _ _ from ⟨C1.out, C2.out, C3.out⟩) (.cells #[.string (str s)] 9)))
    have B0 := Lib.hid (L4.out.2.2.1.trans (HB.out.mono (by rw [L4.out.2.2.2]; omega)))
    have B1 := Lib.hid (B0.out.alloc B0.out.size (.cells #[.string (str s)] 9))
    have Z0 := Lib.hid (show w.heap.size + 1 + 1 + 1 + 1 ≤ w1.heap.size by have h1 := HB.out.size; have h2 := L4.out.2.2.2; omega)
    clear c0 f0 c1 f1 c2 f2 c3 f3
    refine (wpIn_wide (n := 6)).1 ?_
    refine wpIn_rangeFunc_ownF (F := Fence.wide) rfl (by decide) (gf := 51) (lb := #[.pointer (some ⟨w1.heap.size, 0, none⟩)]) rfl trivial (enters_of Tryd.func51 (by kernel_rfl) rfl)
      (seq_stops 5 (by decide) w1.heap.size s HS.out _ (by simp) hc.1) keepBox_t (keepBox_b (by simp)) (Below.refl _ _) (fun _ => rfl)
      (fun pre W => ((Cell1 w.heap.size W (.string (str s)) ∧ Cells3 (w.heap.size + 1) W (.string ⟨#[]⟩) (.string ⟨#[]⟩) (.int .i64 0)) ∧ ∀ y ∈ pre, 100 < s.length - y.1.1) ∧ Below w.heap.size w W)
      (fun c pre W => SplitOut w.heap.size s (.exit 0) c pre W ∧ Below w.heap.size w W)
      (OwnFrom.and (OwnFrom.and (Own.from (fun s A B row hs hg hr => ⟨cell1_own hs.1 hg hr, cells3_own hs.2 hg hr⟩) _) (ownFrom_pure _ _)) (ownFrom_below (Nat.le_refl _) (by have := Z0.out; simp; omega)))
      (fun c => OwnFrom.and (Own.from (I := SplitOut w.heap.size s (.exit 0) c) (fun _ A B row hs hg hr => splitOut_own hs hg hr) _) (ownFrom_below (Nat.le_refl _) (by have := Z0.out; simp; omega)))
      ⟨⟨D0.out, fun x hx => by cases hx⟩, B1.out⟩
      (fun x => { tmps := #[.string (str s), .pointer (some ⟨w.heap.size, 0, none⟩), .pointer (some ⟨w.heap.size + 1, 0, none⟩), .pointer (some ⟨w.heap.size + 1 + 1, 0, none⟩), .pointer (some ⟨w.heap.size + 1 + 1 + 1, 0, none⟩), .int .i64 (x.1.1 : Int), .string (str s), .int .i64 (m : Int), .bool false, .bool false, .string (str s), .bool true, .bool false, .bool false, .string (str s), .int .i64 (m : Int), .bool false, undef, .string (str s), .func (.func 51) #[] #[.pointer (some ⟨w1.heap.size, 0, none⟩)], .int .i64 (x.1.1 : Int), .string (str x.1.2), undef, undef, undef, undef, undef, undef, undef, undef, undef, undef, undef, undef, undef, undef, undef], defers := [] }) ?assign ?body ?done ?stop
    case assign =>
      intro l x W K hK
      gi_wp2
      exact hK
    case body =>
      rintro l pre x W ⟨⟨⟨hC, hC3⟩, hall⟩, hB⟩ _
      have HC := Lib.hid (And.intro hC hC3)
      have HA := Lib.hid (And.intro hall hB)
      clear hall hB
      obtain ⟨c0, f0⟩ := hC
      obtain ⟨⟨c1, f1⟩, ⟨c2, f2⟩, ⟨c3, f3⟩⟩ := hC3
      obtain ⟨b, hb⟩ : ∃ b, b = x.1.1 := ⟨_, rfl⟩
      have HBB := Lib.hid (And.intro hb (show b ≤ m by rw [hb, HM.out]; exact x.2.1))
      obtain ⟨d, hd, wd⟩ := place_wraps b m HBB.out.2 (by rw [HM.out]; exact HS.out)
      have HD := Lib.hid hd
      rw [← hb]
      clear hd hb
      by_cases hd100 : 100 < d
      · have t1 : decide ((d : Int) > 100) = true := decide_eq_true (by clear wd; omega)
        have HDD := Lib.hid hd100
        clear hd100
        gi_wp2
        exact ⟨KeepsOthers.refl _, rfl, ⟨HC.out, fun y hy => (List.mem_append.1 hy).elim (HA.out.1 y) (fun e => by rw [List.mem_singleton] at e; subst e; have := HDD.out; rw [HD.out, HBB.out.1, HM.out] at this; exact this)⟩, HA.out.2⟩
      · have t1 : decide ((d : Int) > 100) = false := decide_eq_false (by clear wd; omega)
        have h0 : 0 < b := by have := HH.out.2.1; have := HD.out; have := HBB.out.2; clear wd; omega
        obtain ⟨a, ha, wa⟩ := ahead_wraps b m HBB.out.2 h0 (by rw [HM.out]; exact HS.out)
        have HX := Lib.hid (And.intro ha hd100)
        by_cases h155 : 155 < a
        · have t2 : decide ((a : Int) > 155) = true := decide_eq_true (by clear wd wa; omega)
          have H1 := Lib.hid h155
          clear h155 ha h0 hd100
          gi_wp2
          refine ⟨KeepsOthers.refl _, ⟨HC.out.1, pre, x, rfl, HA.out.1, ?_, .inr ⟨rfl, ?_, HC.out.2⟩⟩, HA.out.2⟩
          · clear wd wa t1 t2; have := HX.out; have := HD.out; have := HM.out; have := HBB.out; omega
          · clear wd wa t1 t2; have := HX.out; have := H1.out; have := HBB.out; omega
        · have t2 : decide ((a : Int) > 155) = false := decide_eq_false (by clear wd wa; omega)
          have H1 := Lib.hid h155
          have sa : ∀ w, (Instr.slice 9 (.string (str s)) none (some (.int .i64 (a : Int))) none).run Tryd.prog w = .ok (.string (str (s.take a))) w := fun w => slice_to w 9 s a (by clear wd wa; have := HBB.out.2; have := HM.out; omega) Tryd.underlying9
          have sb : ∀ w, (Instr.slice 9 (.string (str s)) (some (.int .i64 (b : Int))) none none).run Tryd.prog w = .ok (.string (str (s.drop b))) w := fun w => slice_from w 9 s b (by clear wd wa; have := HBB.out.2; have := HM.out; omega) Tryd.underlying9
          clear h155 ha h0 hd100
          gi_wp2
          refine region_inRound (by kernel_rfl) rfl (region_nodefer _ (by kernel_rfl)) ?_
          refine wpAnyIn_take (i := 1) (v := .int .i64 (b : Int)) rfl rfl (by kernel_rfl) (by kernel_rfl) (by kernel_rfl) (fun _ _ _ h => h) ⟨Or.inl ⟨by rfl, fun w => by go_simp⟩, fun _ => rfl⟩ ?_
          try simp only [List.setIfInBounds_toArray, List.set_cons_zero, List.set_cons_succ]
          refine wpAnyIn_take (i := 2) (v := .int .i64 (a : Int)) rfl rfl (by kernel_rfl) (by kernel_rfl) (by kernel_rfl) (fun _ _ _ h => h) ⟨Or.inl ⟨by rfl, fun w => by go_simp; exact (wrap_i64 _).trans wa⟩, fun _ => rfl⟩ ?_
          try simp only [List.setIfInBounds_toArray, List.set_cons_zero, List.set_cons_succ]
          refine wpAnyIn_take (i := 5) (v := .int .i64 (b : Int)) rfl rfl (by kernel_rfl) (by kernel_rfl) (by kernel_rfl) (fun _ _ _ h => h) ⟨Or.inl ⟨by rfl, fun w => by go_simp⟩, fun _ => rfl⟩ ?_
          try simp only [List.setIfInBounds_toArray, List.set_cons_zero, List.set_cons_succ]
          refine wpAnyIn_ready (rs := [0, 4]) (by kernel_rfl) (by simp) ?_
          refine AllReadyIn.cons rfl (fun K hK => ?_) (AllReadyIn.cons rfl (fun K hK => ?_) AllReadyIn.nil)
          · skip
            go_simp
            refine hK _ _ ?_
            clear hK K
            try simp only [List.setIfInBounds_toArray, List.set_cons_zero, List.set_cons_succ]
            refine wpAnyIn_take (i := 3) (v := .string (str (s.take a))) rfl rfl (by kernel_rfl) (by kernel_rfl) (by kernel_rfl) (fun _ _ _ h => h) ⟨Or.inl ⟨by rfl, fun w => by go_simp⟩, fun _ => rfl⟩ ?_
            try simp only [List.setIfInBounds_toArray, List.set_cons_zero, List.set_cons_succ]
            refine wpAnyIn_ready (rs := [4, 7]) (by kernel_rfl) (by simp) ?_
            refine AllReadyIn.cons rfl (fun K hK => ?_) (AllReadyIn.cons rfl (fun K hK => ?_) AllReadyIn.nil)
            · skip
              go_simp
              refine hK _ _ ?_
              clear hK K
              try simp only [List.setIfInBounds_toArray, List.set_cons_zero, List.set_cons_succ]
              refine wpAnyIn_take (i := 6) (v := .string (str (s.drop b))) rfl rfl (by kernel_rfl) (by kernel_rfl) (by kernel_rfl) (fun _ _ _ h => h) ⟨Or.inl ⟨by rfl, fun w => by go_simp⟩, fun _ => rfl⟩ ?_
              try simp only [List.setIfInBounds_toArray, List.set_cons_zero, List.set_cons_succ]
              refine wpAnyIn_ready (rs := [7]) (by kernel_rfl) (by simp) ?_
              refine AllReadyIn.cons rfl (fun K hK => ?_) AllReadyIn.nil
              go_simp
              refine hK _ _ ?_
              clear hK K
              try simp only [List.setIfInBounds_toArray, List.set_cons_zero, List.set_cons_succ]
              refine wpAnyIn_ready (rs := [8]) (by kernel_rfl) (by simp) ?_
              refine AllReadyIn.cons rfl (fun K hK => ?_) AllReadyIn.nil
              go_simp
              refine hK _ _ ?_
              clear hK K
              try simp only [List.setIfInBounds_toArray, List.set_cons_zero, List.set_cons_succ]
              refine wpAnyIn_ready (rs := [9]) (by kernel_rfl) (by simp) ?_
              refine AllReadyIn.cons rfl (fun K hK => ?_) AllReadyIn.nil
              go_simp
              refine hK _ _ ?_
              clear hK K
              try simp only [List.setIfInBounds_toArray, List.set_cons_zero, List.set_cons_succ]
              refine wpAnyIn_done (by kernel_rfl) ?_ _
              gi_wp2
              refine ⟨((KeepsOthers.setCell W _ _).trans (KeepsOthers.setCell _ _ _)).trans ((KeepsOthers.setCell _ _ _).trans (KeepsOthers.drew _)), splitOut_ret HC.out HA.out.1 HX.out H1.out HBB.out HD.out HM.out, (set3_below HA.out.2 _ _ _).drew⟩
            · skip
              go_simp
              refine hK _ _ ?_
              clear hK K
              try simp only [List.setIfInBounds_toArray, List.set_cons_zero, List.set_cons_succ]
              refine wpAnyIn_ready (rs := [4]) (by kernel_rfl) (by simp) ?_
              refine AllReadyIn.cons rfl (fun K hK => ?_) AllReadyIn.nil
              go_simp
              refine hK _ _ ?_
              clear hK K
              try simp only [List.setIfInBounds_toArray, List.set_cons_zero, List.set_cons_succ]
              refine wpAnyIn_take (i := 6) (v := .string (str (s.drop b))) rfl rfl (by kernel_rfl) (by kernel_rfl) (by kernel_rfl) (fun _ _ _ h => h) ⟨Or.inl ⟨by rfl, fun w => by go_simp⟩, fun _ => rfl⟩ ?_
              try simp only [List.setIfInBounds_toArray, List.set_cons_zero, List.set_cons_succ]
              refine wpAnyIn_ready (rs := [8]) (by kernel_rfl) (by simp) ?_
              refine AllReadyIn.cons rfl (fun K hK => ?_) AllReadyIn.nil
              go_simp
              refine hK _ _ ?_
              clear hK K
              try simp only [List.setIfInBounds_toArray, List.set_cons_zero, List.set_cons_succ]
              refine wpAnyIn_ready (rs := [9]) (by kernel_rfl) (by simp) ?_
              refine AllReadyIn.cons rfl (fun K hK => ?_) AllReadyIn.nil
              go_simp
              refine hK _ _ ?_
              clear hK K
              try simp only [List.setIfInBounds_toArray, List.set_cons_zero, List.set_cons_succ]
              refine wpAnyIn_done (by kernel_rfl) ?_ _
              gi_wp2
              refine ⟨((KeepsOthers.setCell W _ _).trans (KeepsOthers.setCell _ _ _)).trans ((KeepsOthers.setCell _ _ _).trans (KeepsOthers.drew _)), splitOut_ret HC.out HA.out.1 HX.out H1.out HBB.out HD.out HM.out, (set3_below HA.out.2 _ _ _).drew⟩
          · skip
            go_simp
            refine hK _ _ ?_
            clear hK K
            try simp only [List.setIfInBounds_toArray, List.set_cons_zero, List.set_cons_succ]
            refine wpAnyIn_take (i := 6) (v := .string (str (s.drop b))) rfl rfl (by kernel_rfl) (by kernel_rfl) (by kernel_rfl) (fun _ _ _ h => h) ⟨Or.inl ⟨by rfl, fun w => by go_simp⟩, fun _ => rfl⟩ ?_
            try simp only [List.setIfInBounds_toArray, List.set_cons_zero, List.set_cons_succ]
            refine wpAnyIn_ready (rs := [0]) (by kernel_rfl) (by simp) ?_
            refine AllReadyIn.cons rfl (fun K hK => ?_) AllReadyIn.nil
            go_simp
            refine hK _ _ ?_
            clear hK K
            try simp only [List.setIfInBounds_toArray, List.set_cons_zero, List.set_cons_succ]
            refine wpAnyIn_take (i := 3) (v := .string (str (s.take a))) rfl rfl (by kernel_rfl) (by kernel_rfl) (by kernel_rfl) (fun _ _ _ h => h) ⟨Or.inl ⟨by rfl, fun w => by go_simp⟩, fun _ => rfl⟩ ?_
            try simp only [List.setIfInBounds_toArray, List.set_cons_zero, List.set_cons_succ]
            refine wpAnyIn_ready (rs := [7]) (by kernel_rfl) (by simp) ?_
            refine AllReadyIn.cons rfl (fun K hK => ?_) AllReadyIn.nil
            go_simp
            refine hK _ _ ?_
            clear hK K
            try simp only [List.setIfInBounds_toArray, List.set_cons_zero, List.set_cons_succ]
            refine wpAnyIn_ready (rs := [8]) (by kernel_rfl) (by simp) ?_
            refine AllReadyIn.cons rfl (fun K hK => ?_) AllReadyIn.nil
            go_simp
            refine hK _ _ ?_
            clear hK K
            try simp only [List.setIfInBounds_toArray, List.set_cons_zero, List.set_cons_succ]
            refine wpAnyIn_ready (rs := [9]) (by kernel_rfl) (by simp) ?_
            refine AllReadyIn.cons rfl (fun K hK => ?_) AllReadyIn.nil
            go_simp
            refine hK _ _ ?_
            clear hK K
            try simp only [List.setIfInBounds_toArray, List.set_cons_zero, List.set_cons_succ]
            refine wpAnyIn_done (by kernel_rfl) ?_ _
            gi_wp2
            refine ⟨((KeepsOthers.setCell W _ _).trans (KeepsOthers.setCell _ _ _)).trans ((KeepsOthers.setCell _ _ _).trans (KeepsOthers.drew _)), splitOut_ret HC.out HA.out.1 HX.out H1.out HBB.out HD.out HM.out, (set3_below HA.out.2 _ _ _).drew⟩
    case done =>
      rintro D ys W hD hys ⟨⟨⟨hC, hC3⟩, hall⟩, hB⟩ hK
      have HC := Lib.hid (And.intro hC hC3)
      have HB := Lib.hid hB
      have HP := Lib.hid (split_none HH.out.1 (by rw [← HM.out]; exact HH.out.2.1) (by rw [← HM.out]; have := HH.out.2.2; omega) (.inl (all_far hys hall)))
      have HD := Lib.hid (show w1.heap.size + 1 ≤ D by simpa using hD)
      have HK := Lib.hid hK
      clear hD hB hall hys hK
      obtain ⟨c0, f0⟩ := hC
      obtain ⟨⟨c1, f1⟩, ⟨c2, f2⟩, ⟨c3, f3⟩⟩ := hC3
      go_wp2
      have hK' := (((KeepsOthers.setCell W ⟨w.heap.size + 1, 0, none⟩ (.string ⟨#[]⟩)).trans (KeepsOthers.setCell _ ⟨w.heap.size + 1 + 1, 0, none⟩ (.string ⟨#[]⟩))).trans (KeepsOthers.setCell _ ⟨w.heap.size + 1 + 1 + 1, 0, none⟩ (.int .i64 9))).same D _ HK.out rfl
      have hC' := cells3_own (cells3_set HC.out.2 (.string ⟨#[]⟩) (.string ⟨#[]⟩) (.int .i64 9)) (grownBy_putObj' _ D (.deferred none)) (fun r e => by cases e; exact ⟨_, hK', rfl⟩)
      refine ⟨by simp, .inl ⟨_, _, rfl, run_takeDeferred hK', ?_⟩⟩
      obtain ⟨⟨r0, -⟩, ⟨r1, -⟩, ⟨r2, -⟩⟩ := hC'
      refine ⟨.tuple #[.string ⟨#[]⟩, .string ⟨#[]⟩, .int .i64 9], by simp [results, Tryd.f30, go_sem, r0, r1, r2], by rw [HP.out.1, HP.out.2.1, HP.out.2.2]; rfl, ?_⟩
      exact (set3_below HB.out _ _ _).trans (belowK_b (w := w) (Nat.le_refl _) _ D _ _ (by have := Z0.out; have := HD.out; omega) hK' rfl rfl)
    case stop =>
      rintro D c pre W hD hpre ⟨⟨hC, pre', x, he, hall, hx, hout⟩, hB⟩ hK
      obtain ⟨hcut, h0⟩ := splitOut_cut hpre he hall hx (by rw [← HM.out]; have := HH.out.2.1; omega)
      have HB := Lib.hid hB
      have HD := Lib.hid (show w1.heap.size + 1 ≤ D by simpa using hD)
      have HK := Lib.hid hK
      clear hD hB hall hpre hK he hx
      obtain ⟨c0, f0⟩ := hC
      rcases hout with ⟨rfl, h155, hC3⟩ | ⟨rfl, h155, hC3⟩
      · have HP := Lib.hid (split_at HH.out.1 (by rw [← HM.out]; exact HH.out.2.1) (by rw [← HM.out]; have := HH.out.2.2; omega) hcut h155)
        have HX := Lib.hid (show x.1.1 - 1 + 1 = x.1.1 by omega)
        have HC := Lib.hid hC3
        clear hcut h0 h155 hC3
        gi_wp2
        have hC' := cells3_own HC.out (grownBy_putObj' _ D (.deferred none)) (fun r e => by cases e; exact ⟨_, HK.out, rfl⟩)
        refine ⟨by simp, .inl ⟨_, _, rfl, run_takeDeferred HK.out, ?_⟩⟩
        obtain ⟨⟨r0, -⟩, ⟨r1, -⟩, ⟨r2, -⟩⟩ := hC'
        refine ⟨.tuple #[.string (str (s.take (x.1.1 - 1))), .string (str (s.drop x.1.1)), .int .i64 0], by simp [results, Tryd.f30, go_sem, r0, r1, r2], by rw [HP.out.1, HP.out.2.1, HP.out.2.2, HX.out], ?_⟩
        exact HB.out.trans (belowK_b (w := w) (Nat.le_refl _) _ D _ _ (by have := Z0.out; have := HD.out; omega) HK.out rfl rfl)
      · have HP := Lib.hid (split_none HH.out.1 (by rw [← HM.out]; exact HH.out.2.1) (by rw [← HM.out]; have := HH.out.2.2; omega) (.inr ⟨_, hcut, h155⟩))
        have HC := Lib.hid hC3
        obtain ⟨⟨c1, f1⟩, ⟨c2, f2⟩, ⟨c3, f3⟩⟩ := hC3
        clear hcut h0 h155
        gi_wp2
        go_wp2
        have HK := HK.out
        have hK' := (((KeepsOthers.setCell W ⟨w.heap.size + 1, 0, none⟩ (.string ⟨#[]⟩)).trans (KeepsOthers.setCell _ ⟨w.heap.size + 1 + 1, 0, none⟩ (.string ⟨#[]⟩))).trans (KeepsOthers.setCell _ ⟨w.heap.size + 1 + 1 + 1, 0, none⟩ (.int .i64 9))).same D _ HK rfl
        have hC' := cells3_own (cells3_set HC.out (.string ⟨#[]⟩) (.string ⟨#[]⟩) (.int .i64 9)) (grownBy_putObj' _ D (.deferred none)) (fun r e => by cases e; exact ⟨_, hK', rfl⟩)
        refine ⟨by simp, .inl ⟨_, _, rfl, run_takeDeferred hK', ?_⟩⟩
        obtain ⟨⟨r0, -⟩, ⟨r1, -⟩, ⟨r2, -⟩⟩ := hC'
        refine ⟨.tuple #[.string ⟨#[]⟩, .string ⟨#[]⟩, .int .i64 9], by simp [results, Tryd.f30, go_sem, r0, r1, r2], by rw [HP.out.1, HP.out.2.1, HP.out.2.2]; rfl, ?_⟩
        exact (set3_below HB.out _ _ _).trans (belowK_b (w := w) (Nat.le_refl _) _ D _ _ (by have := Z0.out; have := HD.out; omega) hK' rfl rfl)
end Go.Proofs.YtbjekhhefepnlaaDoor
