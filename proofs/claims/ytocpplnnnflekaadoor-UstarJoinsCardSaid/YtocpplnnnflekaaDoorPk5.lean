/-
Texts that all claims of this seat share, part 5: PathSplit, PathJoin, HeaderCode, UstarGot.
-/
import Derived.Test.YtocpplnnnflekaaDoorPk4
namespace Go.Proofs.YtocpplnnnflekaaDoor
open Go.RowKit Go.Shelf
attribute [local go_sem] Oper.semAt_some
/-- Three cells of three blocks, one behind the other. -/
def Cells3 (g : Nat) (W : World) (x y z : Value) : Prop := Cell1 g W x ∧ Cell1 (g + 1) W y ∧ Cell1 (g + 1 + 1) W z
theorem cells3_own {g : Nat} {A B : World} {x y z : Value} {row : Option Nat} (hs : Cells3 g A x y z) (hg : A.grownBy B row) (hr : ∀ r, row = some r → ∃ o : Obj, A.heap[r]? = some o ∧ o.isCells = false) : Cells3 g B x y z := ⟨cell1_own hs.1 hg hr, cell1_own hs.2.1 hg hr, cell1_own hs.2.2 hg hr⟩
theorem cells3_alloc {g : Nat} {A : World} {x y z : Value} (hs : Cells3 g A x y z) (o : Obj) : Cells3 g (A.alloc o) x y z := cells3_own hs (World.grownBy_alloc A o none) (fun r e => by cases e)
theorem cell1_far {g h : Nat} {A : World} {x : Value} (hs : Cell1 g A x) (hn : g ≠ h) (y : Value) : Cell1 g (A.setCell ⟨h, 0, none⟩ y) x := ⟨(World.cell?_setCell_far _ _ _ _ (by simp; omega)).trans hs.1, by rw [World.frozen?_setCell]; exact hs.2⟩
theorem cells3_set {g : Nat} {A : World} {x y z : Value} (hs : Cells3 g A x y z) (x' y' z' : Value) : Cells3 g (((A.setCell ⟨g, 0, none⟩ x').setCell ⟨g + 1, 0, none⟩ y').setCell ⟨g + 1 + 1, 0, none⟩ z') x' y' z' :=
  ⟨cell1_far (cell1_far (cell1_set hs.1 x') (by omega) _) (by omega) _, cell1_far (cell1_set (cell1_far hs.2.1 (by omega) _) y') (by omega) _, cell1_set (cell1_far (cell1_far hs.2.2 (by omega) _) (by omega) _) z'⟩
theorem cell1_below {g n : Nat} {A B : World} {x : Value} (hs : Cell1 g A x) (hb : Below n A B) (hg : g < n) : Cell1 g B x := ⟨(hb.cell (p := ⟨g, 0, none⟩) hg).trans hs.1, (hb.frozen (p := ⟨g, 0, none⟩) hg).trans hs.2⟩
theorem far3_set {k g : Nat} {A : World} {x : Value} (hs : Cell1 k A x) (hk : k < g) (x' y' z' : Value) : Cell1 k (((A.setCell ⟨g, 0, none⟩ x').setCell ⟨g + 1, 0, none⟩ y').setCell ⟨g + 1 + 1, 0, none⟩ z') x :=
  cell1_far (cell1_far (cell1_far hs (by omega) _) (by omega) _) (by omega) _
/-- What Split lays ahead: its text, and three cells for its results. -/
theorem laid4 (w : World) (v x y z : Value) (t t1 t2 t3 : TypeId) : Cell1 w.heap.size ((((w.alloc (.cells #[v] t)).alloc (.cells #[x] t1)).alloc (.cells #[y] t2)).alloc (.cells #[z] t3)) v ∧ Cells3 (w.heap.size + 1) ((((w.alloc (.cells #[v] t)).alloc (.cells #[x] t1)).alloc (.cells #[y] t2)).alloc (.cells #[z] t3)) x y z ∧
    Below w.heap.size w ((((w.alloc (.cells #[v] t)).alloc (.cells #[x] t1)).alloc (.cells #[y] t2)).alloc (.cells #[z] t3)) ∧ ((((w.alloc (.cells #[v] t)).alloc (.cells #[x] t1)).alloc (.cells #[y] t2)).alloc (.cells #[z] t3)).heap.size = w.heap.size + 1 + 1 + 1 + 1 := by
  have h0 : Cell1 w.heap.size (w.alloc (.cells #[v] t)) v := cell_new w v t
  have h1 : Cell1 (w.heap.size + 1) ((w.alloc (.cells #[v] t)).alloc (.cells #[x] t1)) x := by have := cell_new (w.alloc (.cells #[v] t)) x t1; rwa [World.size_alloc] at this
  have h2 : Cell1 (w.heap.size + 1 + 1) (((w.alloc (.cells #[v] t)).alloc (.cells #[x] t1)).alloc (.cells #[y] t2)) y := by have := cell_new ((w.alloc (.cells #[v] t)).alloc (.cells #[x] t1)) y t2; rwa [World.size_alloc, World.size_alloc] at this
  have h3 : Cell1 (w.heap.size + 1 + 1 + 1) ((((w.alloc (.cells #[v] t)).alloc (.cells #[x] t1)).alloc (.cells #[y] t2)).alloc (.cells #[z] t3)) z := by have := cell_new (((w.alloc (.cells #[v] t)).alloc (.cells #[x] t1)).alloc (.cells #[y] t2)) z t3; rwa [World.size_alloc, World.size_alloc, World.size_alloc] at this
  refine ⟨cell1_alloc (cell1_alloc (cell1_alloc h0 _) _) _, ⟨cell1_alloc (cell1_alloc h1 _) _, cell1_alloc h2 _, h3⟩, ?_, by simp⟩
  exact (((((Below.refl w.heap.size w).alloc (Nat.le_refl _) _).alloc (by simp) _).alloc (by simp; omega) _).alloc (by simp; omega) _)
theorem set3_below {n : Nat} {A B : World} (h : Below n A B) (x y z : Value) : Below n A (((B.setCell ⟨n + 1, 0, none⟩ x).setCell ⟨n + 1 + 1, 0, none⟩ y).setCell ⟨n + 1 + 1 + 1, 0, none⟩ z) :=
  ((h.setCell (p := ⟨n + 1, 0, none⟩) (by simp) _).setCell (p := ⟨n + 1 + 1, 0, none⟩) (by simp; omega) _).setCell (p := ⟨n + 1 + 1 + 1, 0, none⟩) (by simp; omega) _
theorem split_no {s : List UInt8} (h : isParts s = false ∨ 254 < s.length) : splitA s = [] ∧ splitB s = [] ∧ splitErr s = 9 := by
  have e : splitR s = none := by rw [splitR, if_pos h]
  simp [splitA, splitB, splitErr, e]
theorem split_short {s : List UInt8} (h : isParts s = true) (h2 : s.length ≤ 100) : splitA s = [] ∧ splitB s = s ∧ splitErr s = 0 := by
  have e : splitR s = some ([], s) := by rw [splitR, if_neg (by rw [h]; simp; omega), if_pos h2]
  simp [splitA, splitB, splitErr, e]
theorem split_none {s : List UInt8} (h : isParts s = true) (h2 : ¬ s.length ≤ 100) (h4 : s.length ≤ 254) (h3 : cutI s = none ∨ ∃ i, cutI s = some i ∧ 155 < i) : splitA s = [] ∧ splitB s = [] ∧ splitErr s = 9 := by
  have e : splitR s = none := by
    rw [splitR, if_neg (by rw [h]; simp; omega), if_neg h2]
    rcases h3 with h3 | ⟨i, h3, h5⟩
    · rw [h3]
    · rw [h3]; simp only; rw [if_pos h5]
  simp [splitA, splitB, splitErr, e]
theorem split_at {s : List UInt8} (h : isParts s = true) (h2 : ¬ s.length ≤ 100) (h4 : s.length ≤ 254) {i : Nat} (h3 : cutI s = some i) (h5 : ¬ 155 < i) : splitA s = s.take i ∧ splitB s = s.drop (i + 1) ∧ splitErr s = 0 := by
  have e : splitR s = some (s.take i, s.drop (i + 1)) := by rw [splitR, if_neg (by rw [h]; simp; omega), if_neg h2, h3]; simp only; rw [if_neg h5]
  simp [splitA, splitB, splitErr, e]
theorem place_wraps (b m : Nat) (hb : b ≤ m) (hm : m < 4611686018427387904) : ∃ d : Nat, d = m - b ∧ wrap64 ((m : Int) - (b : Int)) = (d : Int) := ⟨m - b, rfl, by rw [wrap64]; omega⟩
theorem ahead_wraps (b m : Nat) (hb : b ≤ m) (h1 : 0 < b) (hm : m < 4611686018427387904) : ∃ a : Nat, a = b - 1 ∧ wrap64 ((b : Int) - 1) = (a : Int) := ⟨b - 1, rfl, by rw [wrap64]; omega⟩
/-- How a round leaves Split's loop: with the two fields, or for the prefix is too long. -/
def SplitOut (g : Nat) (s : List UInt8) (br c : Code) (pre : List (Pm s)) (W : World) : Prop :=
  Cell1 g W (.string (str s)) ∧ ∃ pre' x, pre = pre' ++ [x] ∧ (∀ y ∈ pre', 100 < s.length - y.1.1) ∧ s.length - x.1.1 ≤ 100 ∧
    ((c = .ret ∧ ¬ 155 < x.1.1 - 1 ∧ Cells3 (g + 1) W (.string (str (s.take (x.1.1 - 1)))) (.string (str (s.drop x.1.1))) (.int .i64 0)) ∨
     (c = br ∧ 155 < x.1.1 - 1 ∧ Cells3 (g + 1) W (.string ⟨#[]⟩) (.string ⟨#[]⟩) (.int .i64 0)))
theorem splitOut_own {g : Nat} {s : List UInt8} {br c : Code} {pre : List (Pm s)} {A B : World} {row : Option Nat} (h : SplitOut g s br c pre A) (hg : A.grownBy B row) (hr : ∀ r, row = some r → ∃ o : Obj, A.heap[r]? = some o ∧ o.isCells = false) : SplitOut g s br c pre B := by
  obtain ⟨h0, pre', x, h1, h2, h3, h4⟩ := h
  refine ⟨cell1_own h0 hg hr, pre', x, h1, h2, h3, ?_⟩
  rcases h4 with ⟨a, b, c⟩ | ⟨a, b, c⟩
  · exact .inl ⟨a, b, cells3_own c hg hr⟩
  · exact .inr ⟨a, b, cells3_own c hg hr⟩
theorem cell1_drew {g : Nat} {A : World} {x : Value} (h : Cell1 g A x) : Cell1 g A.drew x := ⟨by rw [cell_drew_own]; exact h.1, by rw [frozen_drew_own]; exact h.2⟩
theorem splitOut_ret {g : Nat} {s : List UInt8} {br : Code} {pre : List (Pm s)} {x : Pm s} {W : World} {a b d m : Nat} (hC : Cell1 g W (.string (str s)) ∧ Cells3 (g + 1) W (.string ⟨#[]⟩) (.string ⟨#[]⟩) (.int .i64 0)) (hall : ∀ y ∈ pre, 100 < s.length - y.1.1) (hx : a = b - 1 ∧ ¬ 100 < d) (h1 : ¬ 155 < a) (hb : b = x.1.1 ∧ b ≤ m) (hd : d = m - b) (hm : m = s.length) :
    SplitOut g s br .ret (pre ++ [x]) ((((W.setCell ⟨g + 1, 0, none⟩ (.string (str (s.take a)))).setCell ⟨g + 1 + 1, 0, none⟩ (.string (str (s.drop b)))).setCell ⟨g + 1 + 1 + 1, 0, none⟩ (.int .i64 0)).drew) := by
  obtain ⟨rfl, h2⟩ := hx
  obtain ⟨rfl, h3⟩ := hb
  have hc := cells3_set hC.2 (.string (str (s.take (x.1.1 - 1)))) (.string (str (s.drop x.1.1))) (.int .i64 0)
  exact ⟨cell1_drew (far3_set hC.1 (by omega) _ _ _), pre, x, rfl, hall, by omega, .inl ⟨rfl, h1, cell1_drew hc.1, cell1_drew hc.2.1, cell1_drew hc.2.2⟩⟩
theorem splitOut_cut {s : List UInt8} {pre pre' : List (Pm s)} {x : Pm s} (hp : pre.map (·.1) <+: marks s) (e : pre = pre' ++ [x]) (hall : ∀ y ∈ pre', 100 < s.length - y.1.1) (hx : s.length - x.1.1 ≤ 100) (hl : 100 < s.length) : cutI s = some (x.1.1 - 1) ∧ 0 < x.1.1 := by
  have h0 : 0 < x.1.1 := by omega
  subst e
  obtain ⟨rest, hr⟩ := hp
  refine ⟨cut_at (pre := pre'.map fun y => y.1.1) (rest := rest.map (·.1)) ?_ h0 x.2.1 (x.2.2.1 h0) (fun y hy => ?_) hx, h0⟩
  · rw [← hr]; simp
  · obtain ⟨z, hz, rfl⟩ := List.mem_map.1 hy
    exact hall z hz
theorem all_far {s : List UInt8} {ys : List (Pm s)} (h : ys.map (·.1) = marks s) (hall : ∀ y ∈ ys, 100 < s.length - y.1.1) : cutI s = none := cut_nowhere fun y hy => by
  rw [← h] at hy
  simp only [List.map_map, List.mem_map] at hy
  obtain ⟨z, hz, rfl⟩ := hy
  exact hall z hz
/-- A region that draws its order, in a round: as outside of it, for nothing in it is deferred. -/
theorem wpAnyIn_inRound {F : Fence} {n : Nat} {P : Program} {md : Region.Mode} {ops : Array Oper} {Q : Exit → Act → World → Prop} (l : Nat) (hro : F.round = none) (hnd : ∀ (i : Nat) o, ops[i]? = some o → ∀ c, o.op ≠ .defer c) :
    ∀ fuel listed a w, wpAnyIn F n P md ops Q fuel listed a w → wpAnyIn (F.inRound l) n P md ops Q fuel listed a w := by
  intro fuel
  induction fuel with
  | zero => exact fun _ _ _ h => h
  | succ fuel ih =>
    intro listed a w h
    refine ⟨h.1, fun i hi => ?_⟩
    have h1 := wpOpIn_mono (fun a w => ih (listed.setIfInBounds i true) a w) (h.2 i hi)
    unfold wpOpIn at h1 ⊢
    cases ho : ops[i]? with
    | none => simpa only [ho] using h1
    | some o =>
      simp only [ho] at h1 ⊢
      by_cases hw : Region.wanted o (yielded ops a.tmps) = true
      · rw [if_pos hw] at h1 ⊢
        refine ⟨h1.1, ?_⟩
        have h2 := h1.2
        rw [hro, Oper.semAt_none] at h2
        rw [show (F.inRound l).round = some l from rfl, Oper.semAt_some l _ _ (hnd i o ho)]
        exact h2
      · rw [if_neg hw] at h1 ⊢
        exact h1
theorem wrap_i64 (x : Int) : IntKind.i64.wrap x = wrap64 x := by rw [IntKind.wrap_i64, wrap64]
theorem region_nodefer (ops : Array Oper) (h : ops.all (fun o => match o.op with | .defer _ => false | _ => true) = true) : ∀ (i : Nat) o, ops[i]? = some o → ∀ c, o.op ≠ .defer c := fun i o ho c e => by
  have := Array.all_eq_true_iff_forall_mem.1 h o (Array.mem_of_getElem? ho)
  rw [e] at this; cases this
theorem region_inRound {F : Fence} {n : Nat} {P : Program} {id : Nat} {ops : Array Oper} {Q : Exit → Act → World → Prop} {l : Nat} {a : Act} {w : World} (hm : P.follows .mixedOrders = true) (hro : F.round = none) (hnd : ∀ (i : Nat) o, ops[i]? = some o → ∀ c, o.op ≠ .defer c)
    (h : wpAnyIn F n P .any ops Q ops.size (Array.replicate ops.size false) a w.drew) : (Code.region id ops true).wpIn (F.inRound l) n P Q a w :=
  wpIn_region_any hm (wpAnyIn_inRound l hro hnd _ _ _ _ h)
set_option maxRecDepth 100000 in
set_option maxHeartbeats 4000000 in
theorem split_any (s : List UInt8) (hs : s.length < 4611686018427387904) (w : World) :
    Calls Tryd.prog 43 #[.string (str s)] w fun e w' => e = .returned (.tuple #[.string (str (splitA s)), .string (str (splitB s)), .int .i64 (splitErr s)]) ∧ Below w.heap.size w w' := by
  obtain ⟨m, hm⟩ : ∃ m, m = s.length := ⟨_, rfl⟩
  have HM := Lib.hid hm
  have hsz : (str s).size = m := by rw [str_size, hm]
  have HS := Lib.hid hs
  clear hm hs
  have L4 := Lib.hid (laid4 w (.string (str s)) (.string ⟨#[]⟩) (.string ⟨#[]⟩) (.int .i64 0) 9 9 9 26)
  by_cases hlong : 254 < m
  · have q0 : (m : Int) > 254 := by omega
    have HP := Lib.hid (split_no (s := s) (.inr (by rw [← HM.out]; exact hlong)))
    have L9 := Lib.hid (laid4 w (.string (str s)) (.string ⟨#[]⟩) (.string ⟨#[]⟩) (.int .i64 9) 9 9 9 26)
    clear hlong
    go_enter Tryd.func43, Tryd.ntmps43
    go_wp2
    have ⟨_, ⟨⟨r0, _⟩, ⟨r1, _⟩, ⟨r2, _⟩⟩, hb, _⟩ := L9.out
    refine bodyPost_ret (v := .tuple #[.string ⟨#[]⟩, .string ⟨#[]⟩, .int .i64 9]) (by simp [results, Tryd.f43, go_sem, r0, r1, r2]) rfl ?_
    exact ⟨by rw [HP.out.1, HP.out.2.1, HP.out.2.2]; rfl, hb⟩
  have q0 : ¬ (m : Int) > 254 := by omega
  cases hpa : isParts s with
  | false =>
    have HP := Lib.hid (split_no (s := s) (.inl hpa))
    have HA := Lib.hid (show ∀ w, Calls Tryd.prog 53 #[.string (str s)] w fun e w' => e = .returned (.bool false) ∧ Below w.heap.size w w' from fun w => by have h := areParts_any s HS.out w; rwa [hpa] at h)
    clear hpa hlong
    go_enter Tryd.func43, Tryd.ntmps43
    go_wp2_with (first | (go_at_call 53; generalize (((w.alloc (.cells #[.string (str s)] 9)).alloc (.cells #[.string ⟨#[]⟩] 9)).alloc (.cells #[.string ⟨#[]⟩] 9)).alloc (.cells #[.int .i64 0] 26) = W0 at *; refine (HA.out _).mono ?_; rintro e w1 ⟨rfl, hb⟩; have HB := Lib.hid hb; clear hb; have C0 := Lib.hid (cell1_below L4.out.1 HB.out (by rw [L4.out.2.2.2]; omega)); have C1 := Lib.hid (cell1_below L4.out.2.1.1 HB.out (by rw [L4.out.2.2.2]; omega)); have C2 := Lib.hid (cell1_below L4.out.2.1.2.1 HB.out (by rw [L4.out.2.2.2]; omega)); have C3 := Lib.hid (cell1_below L4.out.2.1.2.2 HB.out (by rw [L4.out.2.2.2]; omega)); have ⟨c0, f0⟩ := C0.out; have ⟨c1, f1⟩ := C1.out; have ⟨c2, f2⟩ := C2.out; have ⟨c3, f3⟩ := C3.out))
    have CC := cells3_set (show Cells3 (w.heap.size + 1) w1 _ _ _ from ⟨C1.out, C2.out, C3.out⟩) (.string ⟨#[]⟩) (.string ⟨#[]⟩) (.int .i64 9)
    have ⟨⟨r0, _⟩, ⟨r1, _⟩, ⟨r2, _⟩⟩ := CC
    refine bodyPost_ret (v := .tuple #[.string ⟨#[]⟩, .string ⟨#[]⟩, .int .i64 9]) (by simp [results, Tryd.f43, go_sem, r0, r1, r2]) rfl ?_
    exact ⟨by rw [HP.out.1, HP.out.2.1, HP.out.2.2]; rfl, set3_below (L4.out.2.2.1.trans (HB.out.mono (by rw [L4.out.2.2.2]; omega))) _ _ _⟩
  | true =>
    have HA := Lib.hid (show ∀ w, Calls Tryd.prog 53 #[.string (str s)] w fun e w' => e = .returned (.bool true) ∧ Below w.heap.size w w' from fun w => by have h := areParts_any s HS.out w; rwa [hpa] at h)
    by_cases h100 : m ≤ 100
    · have HP := Lib.hid (split_short hpa (by rw [← HM.out]; exact h100))
      have q1 : (m : Int) ≤ 100 := by omega
      clear hpa hlong h100
      go_enter Tryd.func43, Tryd.ntmps43
      go_wp2_with (first | (go_at_call 53; generalize (((w.alloc (.cells #[.string (str s)] 9)).alloc (.cells #[.string ⟨#[]⟩] 9)).alloc (.cells #[.string ⟨#[]⟩] 9)).alloc (.cells #[.int .i64 0] 26) = W0 at *; refine (HA.out _).mono ?_; rintro e w1 ⟨rfl, hb⟩; have HB := Lib.hid hb; clear hb; have C0 := Lib.hid (cell1_below L4.out.1 HB.out (by rw [L4.out.2.2.2]; omega)); have C1 := Lib.hid (cell1_below L4.out.2.1.1 HB.out (by rw [L4.out.2.2.2]; omega)); have C2 := Lib.hid (cell1_below L4.out.2.1.2.1 HB.out (by rw [L4.out.2.2.2]; omega)); have C3 := Lib.hid (cell1_below L4.out.2.1.2.2 HB.out (by rw [L4.out.2.2.2]; omega)); have ⟨c0, f0⟩ := C0.out; have ⟨c1, f1⟩ := C1.out; have ⟨c2, f2⟩ := C2.out; have ⟨c3, f3⟩ := C3.out))
      go_region
      go_wp2
      have CC := cells3_set (show Cells3 (w.heap.size + 1) w1 _ _ _ from ⟨C1.out, C2.out, C3.out⟩) (.string ⟨#[]⟩) (.string (str s)) (.int .i64 0)
      have ⟨⟨r0, _⟩, ⟨r1, _⟩, ⟨r2, _⟩⟩ := CC
      refine bodyPost_ret (v := .tuple #[.string ⟨#[]⟩, .string (str s), .int .i64 0]) (by simp [results, Tryd.f43, go_sem, r0, r1, r2]) rfl ?_
      exact ⟨by rw [HP.out.1, HP.out.2.1, HP.out.2.2]; rfl, (set3_below (L4.out.2.2.1.trans (HB.out.mono (by rw [L4.out.2.2.2]; omega))) _ _ _).drew⟩
    have q1 : decide ((m : Int) ≤ 100) = false := decide_eq_false (by omega)
    have HH := Lib.hid (And.intro hpa (And.intro h100 hlong))
    clear hpa hlong h100
    have HP0 := Lib.hid (parts_any s)
    refine (callsIn_wide (n := 6)).1 ?_
    refine callsIn_of_wp_marks Tryd.func43 rfl trivial ?_ rfl
    simp only [Tryd.ntmps43, List.size_toArray, List.length_cons, List.length_nil, Nat.reduceAdd, Nat.reduceSub, Array.replicate_succ, Array.replicate_zero, List.push_toArray, List.append_toArray, List.nil_append, List.cons_append]
    refine wpIn_wide.2 ?_
    go_wp2_with (first | (go_at_call 53; generalize (((w.alloc (.cells #[.string (str s)] 9)).alloc (.cells #[.string ⟨#[]⟩] 9)).alloc (.cells #[.string ⟨#[]⟩] 9)).alloc (.cells #[.int .i64 0] 26) = W0 at *; refine (HA.out _).mono ?_; rintro e w1 ⟨rfl, hb⟩; have HB := Lib.hid hb; clear hb; have C0 := Lib.hid (cell1_below L4.out.1 HB.out (by rw [L4.out.2.2.2]; omega)); have C1 := Lib.hid (cell1_below L4.out.2.1.1 HB.out (by rw [L4.out.2.2.2]; omega)); have C2 := Lib.hid (cell1_below L4.out.2.1.2.1 HB.out (by rw [L4.out.2.2.2]; omega)); have C3 := Lib.hid (cell1_below L4.out.2.1.2.2 HB.out (by rw [L4.out.2.2.2]; omega)); have ⟨c0, f0⟩ := C0.out; have ⟨c1, f1⟩ := C1.out; have ⟨c2, f2⟩ := C2.out; have ⟨c3, f3⟩ := C3.out) | (go_at_call 54; refine (HP0.out _).mono ?_; rintro e w2 ⟨rfl, rfl⟩))
    have hc := cell_new w1 (.string (str s)) 9
    have D0 := Lib.hid (And.intro (cell1_alloc C0.out (.cells #[.string (str s)] 9)) (cells3_alloc (show Cells3 (w.heap.size + 1) w1 _ _ _ from ⟨C1.out, C2.out, C3.out⟩) (.cells #[.string (str s)] 9)))
    have B0 := Lib.hid (L4.out.2.2.1.trans (HB.out.mono (by rw [L4.out.2.2.2]; omega)))
    have B1 := Lib.hid (B0.out.alloc B0.out.size (.cells #[.string (str s)] 9))
    have Z0 := Lib.hid (show w.heap.size + 1 + 1 + 1 + 1 ≤ w1.heap.size by have h1 := HB.out.size; have h2 := L4.out.2.2.2; omega)
    clear c0 f0 c1 f1 c2 f2 c3 f3
    refine (wpIn_wide (n := 6)).1 ?_
    refine wpIn_rangeFunc_ownF (F := Fence.wide) rfl (by decide) (gf := 64) (lb := #[.pointer (some ⟨w1.heap.size, 0, none⟩)]) rfl trivial (enters_of Tryd.func64 (by kernel_rfl) rfl)
      (seq_stops 5 (by decide) w1.heap.size s HS.out _ (by simp) hc.1) keepBox_t (keepBox_b (by simp)) (Below.refl _ _) (fun _ => rfl)
      (fun pre W => ((Cell1 w.heap.size W (.string (str s)) ∧ Cells3 (w.heap.size + 1) W (.string ⟨#[]⟩) (.string ⟨#[]⟩) (.int .i64 0)) ∧ ∀ y ∈ pre, 100 < s.length - y.1.1) ∧ Below w.heap.size w W)
      (fun c pre W => SplitOut w.heap.size s (.exit 0) c pre W ∧ Below w.heap.size w W)
      (OwnFrom.and (OwnFrom.and (Own.from (fun s A B row hs hg hr => ⟨cell1_own hs.1 hg hr, cells3_own hs.2 hg hr⟩) _) (ownFrom_pure _ _)) (ownFrom_below (Nat.le_refl _) (by have := Z0.out; simp; omega)))
      (fun c => OwnFrom.and (Own.from (I := SplitOut w.heap.size s (.exit 0) c) (fun _ A B row hs hg hr => splitOut_own hs hg hr) _) (ownFrom_below (Nat.le_refl _) (by have := Z0.out; simp; omega)))
      ⟨⟨D0.out, fun x hx => by cases hx⟩, B1.out⟩
      (fun x => { tmps := #[.string (str s), .pointer (some ⟨w.heap.size, 0, none⟩), .pointer (some ⟨w.heap.size + 1, 0, none⟩), .pointer (some ⟨w.heap.size + 1 + 1, 0, none⟩), .pointer (some ⟨w.heap.size + 1 + 1 + 1, 0, none⟩), .int .i64 (x.1.1 : Int), .string (str s), .int .i64 (m : Int), .bool false, .bool false, .string (str s), .bool true, .bool false, .bool false, .string (str s), .int .i64 (m : Int), .bool false, undef, .string (str s), .func (.func 64) #[] #[.pointer (some ⟨w1.heap.size, 0, none⟩)], .int .i64 (x.1.1 : Int), .string (str x.1.2), undef, undef, undef, undef, undef, undef, undef, undef, undef, undef, undef, undef, undef, undef, undef], defers := [] }) ?assign ?body ?done ?stop
    case assign =>
      intro l x W K hK
      gi_wp2
      exact hK
    case body =>
      rintro l pre x W ⟨⟨⟨hC, hC3⟩, hall⟩, hB⟩ _
      have HC := Lib.hid (And.intro hC hC3)
      have HA := Lib.hid (And.intro hall hB)
      clear hall hB
      obtain ⟨c0, f0⟩ := hC
      obtain ⟨⟨c1, f1⟩, ⟨c2, f2⟩, ⟨c3, f3⟩⟩ := hC3
      obtain ⟨b, hb⟩ : ∃ b, b = x.1.1 := ⟨_, rfl⟩
      have HBB := Lib.hid (And.intro hb (show b ≤ m by rw [hb, HM.out]; exact x.2.1))
      obtain ⟨d, hd, wd⟩ := place_wraps b m HBB.out.2 (by rw [HM.out]; exact HS.out)
      have HD := Lib.hid hd
      rw [← hb]
      clear hd hb
      by_cases hd100 : 100 < d
      · have t1 : decide ((d : Int) > 100) = true := decide_eq_true (by clear wd; omega)
        have HDD := Lib.hid hd100
        clear hd100
        gi_wp2
        exact ⟨KeepsOthers.refl _, rfl, ⟨HC.out, fun y hy => (List.mem_append.1 hy).elim (HA.out.1 y) (fun e => by rw [List.mem_singleton] at e; subst e; have := HDD.out; rw [HD.out, HBB.out.1, HM.out] at this; exact this)⟩, HA.out.2⟩
      · have t1 : decide ((d : Int) > 100) = false := decide_eq_false (by clear wd; omega)
        have h0 : 0 < b := by have := HH.out.2.1; have := HD.out; have := HBB.out.2; clear wd; omega
        obtain ⟨a, ha, wa⟩ := ahead_wraps b m HBB.out.2 h0 (by rw [HM.out]; exact HS.out)
        have HX := Lib.hid (And.intro ha hd100)
        by_cases h155 : 155 < a
        · have t2 : decide ((a : Int) > 155) = true := decide_eq_true (by clear wd wa; omega)
          have H1 := Lib.hid h155
          clear h155 ha h0 hd100
          gi_wp2
          refine ⟨KeepsOthers.refl _, ⟨HC.out.1, pre, x, rfl, HA.out.1, ?_, .inr ⟨rfl, ?_, HC.out.2⟩⟩, HA.out.2⟩
          · clear wd wa t1 t2; have := HX.out; have := HD.out; have := HM.out; have := HBB.out; omega
          · clear wd wa t1 t2; have := HX.out; have := H1.out; have := HBB.out; omega
        · have t2 : decide ((a : Int) > 155) = false := decide_eq_false (by clear wd wa; omega)
          have H1 := Lib.hid h155
          have sa : ∀ w, (Instr.slice 9 (.string (str s)) none (some (.int .i64 (a : Int))) none).run Tryd.prog w = .ok (.string (str (s.take a))) w := fun w => slice_to w 9 s a (by clear wd wa; have := HBB.out.2; have := HM.out; omega) Tryd.underlying9
          have sb : ∀ w, (Instr.slice 9 (.string (str s)) (some (.int .i64 (b : Int))) none none).run Tryd.prog w = .ok (.string (str (s.drop b))) w := fun w => slice_from w 9 s b (by clear wd wa; have := HBB.out.2; have := HM.out; omega) Tryd.underlying9
          clear h155 ha h0 hd100
          gi_wp2
          refine region_inRound (by kernel_rfl) rfl (region_nodefer _ (by kernel_rfl)) ?_
          refine wpAnyIn_take (i := 1) (v := .int .i64 (b : Int)) rfl rfl (by kernel_rfl) (by kernel_rfl) (by kernel_rfl) (fun _ _ _ h => h) ⟨Or.inl ⟨by rfl, fun w => by go_simp⟩, fun _ => rfl⟩ ?_
          try simp only [List.setIfInBounds_toArray, List.set_cons_zero, List.set_cons_succ]
          refine wpAnyIn_take (i := 2) (v := .int .i64 (a : Int)) rfl rfl (by kernel_rfl) (by kernel_rfl) (by kernel_rfl) (fun _ _ _ h => h) ⟨Or.inl ⟨by rfl, fun w => by go_simp; exact (wrap_i64 _).trans wa⟩, fun _ => rfl⟩ ?_
          try simp only [List.setIfInBounds_toArray, List.set_cons_zero, List.set_cons_succ]
          refine wpAnyIn_take (i := 5) (v := .int .i64 (b : Int)) rfl rfl (by kernel_rfl) (by kernel_rfl) (by kernel_rfl) (fun _ _ _ h => h) ⟨Or.inl ⟨by rfl, fun w => by go_simp⟩, fun _ => rfl⟩ ?_
          try simp only [List.setIfInBounds_toArray, List.set_cons_zero, List.set_cons_succ]
          refine wpAnyIn_ready (rs := [0, 4]) (by kernel_rfl) (by simp) ?_
          refine AllReadyIn.cons rfl (fun K hK => ?_) (AllReadyIn.cons rfl (fun K hK => ?_) AllReadyIn.nil)
          · skip
            go_simp
            refine hK _ _ ?_
            clear hK K
            try simp only [List.setIfInBounds_toArray, List.set_cons_zero, List.set_cons_succ]
            refine wpAnyIn_take (i := 3) (v := .string (str (s.take a))) rfl rfl (by kernel_rfl) (by kernel_rfl) (by kernel_rfl) (fun _ _ _ h => h) ⟨Or.inl ⟨by rfl, fun w => by go_simp⟩, fun _ => rfl⟩ ?_
            try simp only [List.setIfInBounds_toArray, List.set_cons_zero, List.set_cons_succ]
            refine wpAnyIn_ready (rs := [4, 7]) (by kernel_rfl) (by simp) ?_
            refine AllReadyIn.cons rfl (fun K hK => ?_) (AllReadyIn.cons rfl (fun K hK => ?_) AllReadyIn.nil)
            · skip
              go_simp
              refine hK _ _ ?_
              clear hK K
              try simp only [List.setIfInBounds_toArray, List.set_cons_zero, List.set_cons_succ]
              refine wpAnyIn_take (i := 6) (v := .string (str (s.drop b))) rfl rfl (by kernel_rfl) (by kernel_rfl) (by kernel_rfl) (fun _ _ _ h => h) ⟨Or.inl ⟨by rfl, fun w => by go_simp⟩, fun _ => rfl⟩ ?_
              try simp only [List.setIfInBounds_toArray, List.set_cons_zero, List.set_cons_succ]
              refine wpAnyIn_ready (rs := [7]) (by kernel_rfl) (by simp) ?_
              refine AllReadyIn.cons rfl (fun K hK => ?_) AllReadyIn.nil
              go_simp
              refine hK _ _ ?_
              clear hK K
              try simp only [List.setIfInBounds_toArray, List.set_cons_zero, List.set_cons_succ]
              refine wpAnyIn_ready (rs := [8]) (by kernel_rfl) (by simp) ?_
              refine AllReadyIn.cons rfl (fun K hK => ?_) AllReadyIn.nil
              go_simp
              refine hK _ _ ?_
              clear hK K
              try simp only [List.setIfInBounds_toArray, List.set_cons_zero, List.set_cons_succ]
              refine wpAnyIn_ready (rs := [9]) (by kernel_rfl) (by simp) ?_
              refine AllReadyIn.cons rfl (fun K hK => ?_) AllReadyIn.nil
              go_simp
              refine hK _ _ ?_
              clear hK K
              try simp only [List.setIfInBounds_toArray, List.set_cons_zero, List.set_cons_succ]
              refine wpAnyIn_done (by kernel_rfl) ?_ _
              gi_wp2
              refine ⟨((KeepsOthers.setCell W _ _).trans (KeepsOthers.setCell _ _ _)).trans ((KeepsOthers.setCell _ _ _).trans (KeepsOthers.drew _)), splitOut_ret HC.out HA.out.1 HX.out H1.out HBB.out HD.out HM.out, (set3_below HA.out.2 _ _ _).drew⟩
            · skip
              go_simp
              refine hK _ _ ?_
              clear hK K
              try simp only [List.setIfInBounds_toArray, List.set_cons_zero, List.set_cons_succ]
              refine wpAnyIn_ready (rs := [4]) (by kernel_rfl) (by simp) ?_
              refine AllReadyIn.cons rfl (fun K hK => ?_) AllReadyIn.nil
              go_simp
              refine hK _ _ ?_
              clear hK K
              try simp only [List.setIfInBounds_toArray, List.set_cons_zero, List.set_cons_succ]
              refine wpAnyIn_take (i := 6) (v := .string (str (s.drop b))) rfl rfl (by kernel_rfl) (by kernel_rfl) (by kernel_rfl) (fun _ _ _ h => h) ⟨Or.inl ⟨by rfl, fun w => by go_simp⟩, fun _ => rfl⟩ ?_
              try simp only [List.setIfInBounds_toArray, List.set_cons_zero, List.set_cons_succ]
              refine wpAnyIn_ready (rs := [8]) (by kernel_rfl) (by simp) ?_
              refine AllReadyIn.cons rfl (fun K hK => ?_) AllReadyIn.nil
              go_simp
              refine hK _ _ ?_
              clear hK K
              try simp only [List.setIfInBounds_toArray, List.set_cons_zero, List.set_cons_succ]
              refine wpAnyIn_ready (rs := [9]) (by kernel_rfl) (by simp) ?_
              refine AllReadyIn.cons rfl (fun K hK => ?_) AllReadyIn.nil
              go_simp
              refine hK _ _ ?_
              clear hK K
              try simp only [List.setIfInBounds_toArray, List.set_cons_zero, List.set_cons_succ]
              refine wpAnyIn_done (by kernel_rfl) ?_ _
              gi_wp2
              refine ⟨((KeepsOthers.setCell W _ _).trans (KeepsOthers.setCell _ _ _)).trans ((KeepsOthers.setCell _ _ _).trans (KeepsOthers.drew _)), splitOut_ret HC.out HA.out.1 HX.out H1.out HBB.out HD.out HM.out, (set3_below HA.out.2 _ _ _).drew⟩
          · skip
            go_simp
            refine hK _ _ ?_
            clear hK K
            try simp only [List.setIfInBounds_toArray, List.set_cons_zero, List.set_cons_succ]
            refine wpAnyIn_take (i := 6) (v := .string (str (s.drop b))) rfl rfl (by kernel_rfl) (by kernel_rfl) (by kernel_rfl) (fun _ _ _ h => h) ⟨Or.inl ⟨by rfl, fun w => by go_simp⟩, fun _ => rfl⟩ ?_
            try simp only [List.setIfInBounds_toArray, List.set_cons_zero, List.set_cons_succ]
            refine wpAnyIn_ready (rs := [0]) (by kernel_rfl) (by simp) ?_
            refine AllReadyIn.cons rfl (fun K hK => ?_) AllReadyIn.nil
            go_simp
            refine hK _ _ ?_
            clear hK K
            try simp only [List.setIfInBounds_toArray, List.set_cons_zero, List.set_cons_succ]
            refine wpAnyIn_take (i := 3) (v := .string (str (s.take a))) rfl rfl (by kernel_rfl) (by kernel_rfl) (by kernel_rfl) (fun _ _ _ h => h) ⟨Or.inl ⟨by rfl, fun w => by go_simp⟩, fun _ => rfl⟩ ?_
            try simp only [List.setIfInBounds_toArray, List.set_cons_zero, List.set_cons_succ]
            refine wpAnyIn_ready (rs := [7]) (by kernel_rfl) (by simp) ?_
            refine AllReadyIn.cons rfl (fun K hK => ?_) AllReadyIn.nil
            go_simp
            refine hK _ _ ?_
            clear hK K
            try simp only [List.setIfInBounds_toArray, List.set_cons_zero, List.set_cons_succ]
            refine wpAnyIn_ready (rs := [8]) (by kernel_rfl) (by simp) ?_
            refine AllReadyIn.cons rfl (fun K hK => ?_) AllReadyIn.nil
            go_simp
            refine hK _ _ ?_
            clear hK K
            try simp only [List.setIfInBounds_toArray, List.set_cons_zero, List.set_cons_succ]
            refine wpAnyIn_ready (rs := [9]) (by kernel_rfl) (by simp) ?_
            refine AllReadyIn.cons rfl (fun K hK => ?_) AllReadyIn.nil
            go_simp
            refine hK _ _ ?_
            clear hK K
            try simp only [List.setIfInBounds_toArray, List.set_cons_zero, List.set_cons_succ]
            refine wpAnyIn_done (by kernel_rfl) ?_ _
            gi_wp2
            refine ⟨((KeepsOthers.setCell W _ _).trans (KeepsOthers.setCell _ _ _)).trans ((KeepsOthers.setCell _ _ _).trans (KeepsOthers.drew _)), splitOut_ret HC.out HA.out.1 HX.out H1.out HBB.out HD.out HM.out, (set3_below HA.out.2 _ _ _).drew⟩
    case done =>
      rintro D ys W hD hys ⟨⟨⟨hC, hC3⟩, hall⟩, hB⟩ hK
      have HC := Lib.hid (And.intro hC hC3)
      have HB := Lib.hid hB
      have HP := Lib.hid (split_none HH.out.1 (by rw [← HM.out]; exact HH.out.2.1) (by rw [← HM.out]; have := HH.out.2.2; omega) (.inl (all_far hys hall)))
      have HD := Lib.hid (show w1.heap.size + 1 ≤ D by simpa using hD)
      have HK := Lib.hid hK
      clear hD hB hall hys hK
      obtain ⟨c0, f0⟩ := hC
      obtain ⟨⟨c1, f1⟩, ⟨c2, f2⟩, ⟨c3, f3⟩⟩ := hC3
      go_wp2
      have hK' := (((KeepsOthers.setCell W ⟨w.heap.size + 1, 0, none⟩ (.string ⟨#[]⟩)).trans (KeepsOthers.setCell _ ⟨w.heap.size + 1 + 1, 0, none⟩ (.string ⟨#[]⟩))).trans (KeepsOthers.setCell _ ⟨w.heap.size + 1 + 1 + 1, 0, none⟩ (.int .i64 9))).same D _ HK.out rfl
      have hC' := cells3_own (cells3_set HC.out.2 (.string ⟨#[]⟩) (.string ⟨#[]⟩) (.int .i64 9)) (grownBy_putObj' _ D (.deferred none)) (fun r e => by cases e; exact ⟨_, hK', rfl⟩)
      refine ⟨by simp, .inl ⟨_, _, rfl, run_takeDeferred hK', ?_⟩⟩
      obtain ⟨⟨r0, -⟩, ⟨r1, -⟩, ⟨r2, -⟩⟩ := hC'
      refine ⟨.tuple #[.string ⟨#[]⟩, .string ⟨#[]⟩, .int .i64 9], by simp [results, Tryd.f43, go_sem, r0, r1, r2], by rw [HP.out.1, HP.out.2.1, HP.out.2.2]; rfl, ?_⟩
      exact (set3_below HB.out _ _ _).trans (belowK_b (w := w) (Nat.le_refl _) _ D _ _ (by have := Z0.out; have := HD.out; omega) hK' rfl rfl)
    case stop =>
      rintro D c pre W hD hpre ⟨⟨hC, pre', x, he, hall, hx, hout⟩, hB⟩ hK
      obtain ⟨hcut, h0⟩ := splitOut_cut hpre he hall hx (by rw [← HM.out]; have := HH.out.2.1; omega)
      have HB := Lib.hid hB
      have HD := Lib.hid (show w1.heap.size + 1 ≤ D by simpa using hD)
      have HK := Lib.hid hK
      clear hD hB hall hpre hK he hx
      obtain ⟨c0, f0⟩ := hC
      rcases hout with ⟨rfl, h155, hC3⟩ | ⟨rfl, h155, hC3⟩
      · have HP := Lib.hid (split_at HH.out.1 (by rw [← HM.out]; exact HH.out.2.1) (by rw [← HM.out]; have := HH.out.2.2; omega) hcut h155)
        have HX := Lib.hid (show x.1.1 - 1 + 1 = x.1.1 by omega)
        have HC := Lib.hid hC3
        clear hcut h0 h155 hC3
        gi_wp2
        have hC' := cells3_own HC.out (grownBy_putObj' _ D (.deferred none)) (fun r e => by cases e; exact ⟨_, HK.out, rfl⟩)
        refine ⟨by simp, .inl ⟨_, _, rfl, run_takeDeferred HK.out, ?_⟩⟩
        obtain ⟨⟨r0, -⟩, ⟨r1, -⟩, ⟨r2, -⟩⟩ := hC'
        refine ⟨.tuple #[.string (str (s.take (x.1.1 - 1))), .string (str (s.drop x.1.1)), .int .i64 0], by simp [results, Tryd.f43, go_sem, r0, r1, r2], by rw [HP.out.1, HP.out.2.1, HP.out.2.2, HX.out], ?_⟩
        exact HB.out.trans (belowK_b (w := w) (Nat.le_refl _) _ D _ _ (by have := Z0.out; have := HD.out; omega) HK.out rfl rfl)
      · have HP := Lib.hid (split_none HH.out.1 (by rw [← HM.out]; exact HH.out.2.1) (by rw [← HM.out]; have := HH.out.2.2; omega) (.inr ⟨_, hcut, h155⟩))
        have HC := Lib.hid hC3
        obtain ⟨⟨c1, f1⟩, ⟨c2, f2⟩, ⟨c3, f3⟩⟩ := hC3
        clear hcut h0 h155
        gi_wp2
        go_wp2
        have HK := HK.out
        have hK' := (((KeepsOthers.setCell W ⟨w.heap.size + 1, 0, none⟩ (.string ⟨#[]⟩)).trans (KeepsOthers.setCell _ ⟨w.heap.size + 1 + 1, 0, none⟩ (.string ⟨#[]⟩))).trans (KeepsOthers.setCell _ ⟨w.heap.size + 1 + 1 + 1, 0, none⟩ (.int .i64 9))).same D _ HK rfl
        have hC' := cells3_own (cells3_set HC.out (.string ⟨#[]⟩) (.string ⟨#[]⟩) (.int .i64 9)) (grownBy_putObj' _ D (.deferred none)) (fun r e => by cases e; exact ⟨_, hK', rfl⟩)
        refine ⟨by simp, .inl ⟨_, _, rfl, run_takeDeferred hK', ?_⟩⟩
        obtain ⟨⟨r0, -⟩, ⟨r1, -⟩, ⟨r2, -⟩⟩ := hC'
        refine ⟨.tuple #[.string ⟨#[]⟩, .string ⟨#[]⟩, .int .i64 9], by simp [results, Tryd.f43, go_sem, r0, r1, r2], by rw [HP.out.1, HP.out.2.1, HP.out.2.2]; rfl, ?_⟩
        exact (set3_below HB.out _ _ _).trans (belowK_b (w := w) (Nat.le_refl _) _ D _ _ (by have := Z0.out; have := HD.out; omega) hK' rfl rfl)
end Go.Proofs.YtocpplnnnflekaaDoor
namespace Go.Proofs.YtocpplnnnflekaaDoor
open Go.RowKit
set_option maxHeartbeats 4000000 in
theorem join_any (p n : List UInt8) (hp : p.length < 1152921504606846976) (hn : n.length < 1152921504606846976) (w : World) : Calls Tryd.prog 38 #[.string (str p), .string (str n)] w fun e w' => e = .returned (.tuple #[.string (str (joinT p n)), .int .i64 (joinErr p n)]) ∧ Below w.heap.size w w' := by
  have hlp : (str p).toList = p := str_toList p
  have hln : (str n).toList = n := str_toList n
  obtain ⟨s, hs⟩ : ∃ s, s = joinS p n := ⟨_, rfl⟩
  have hsl : s.length < 4611686018427387904 := by
    rw [hs, joinS]; split
    · omega
    · rw [List.length_append, List.length_cons]; omega
  have HS := Lib.hid (split_any s hsl)
  have hla : (str (splitA s)).toList = splitA s := str_toList _
  have hlb : (str (splitB s)).toList = splitB s := str_toList _
  have HJ : joinOk p n = ((splitErr s == 0) && (splitA s == p && splitB s == n)) := by
    rw [joinOk, ← hs]
    cases hr : splitR s with
    | none => simp [splitErr, hr]
    | some x => obtain ⟨a, b⟩ := x; rw [Bool.eq_iff_iff]; simp [splitErr, splitA, splitB, hr]
  have HJT := Lib.hid (show joinOk p n = true → joinT p n = s ∧ joinErr p n = 0 from fun h => by rw [joinT, joinErr, if_pos h, if_pos h, hs]; exact ⟨rfl, rfl⟩)
  have HJF := Lib.hid (show joinOk p n = false → joinT p n = [] ∧ joinErr p n = 9 from fun h => by rw [joinT, joinErr, h]; exact ⟨rfl, rfl⟩)
  have HJJ := Lib.hid HJ
  clear HJ hsl
  generalize splitErr s = E at *
  generalize splitA s = A at *
  generalize splitB s = B at *
  have HSS := Lib.hid hs
  have part : ∀ Q : Prop, ((A == p) = true → (B == n) = true → E = 0 → joinOk p n = true → Q) → (E = 0 → (A == p) = true → (B == n) = false → joinOk p n = false → Q) → (E = 0 → (A == p) = false → joinOk p n = false → Q) → (¬ E = 0 → joinOk p n = false → Q) → Q := fun Q c1 c2 c3 c4 => by
    have hj := HJJ.out
    by_cases h0 : E = 0
    · subst h0
      cases h1 : (A == p) with
      | true =>
        cases h2 : (B == n) with
        | true => exact c1 h1 h2 rfl (by rw [hj, h1, h2]; rfl)
        | false => exact c2 rfl h1 h2 (by rw [hj, h1, h2]; rfl)
      | false => exact c3 rfl h1 (by rw [hj, h1]; rfl)
    · exact c4 h0 (by rw [hj, show (E == 0) = false from beq_eq_false_iff_ne.2 h0]; rfl)
  have HPT := Lib.hid part
  clear part
  by_cases hp0 : p = []
  · have e1 : (p == []) = true := by rw [beq_iff_eq]; exact hp0
    have e2 : s = n := by rw [HSS.out, joinS, if_pos hp0]
    have HE := Lib.hid e2
    clear hs hp hn e2
    have HS' := Lib.hid (fun w => by have := HS.out w; rwa [HE.out] at this)
    clear hp0
    refine HPT.out _ (fun t1 t2 t3 t4 => ?_) (fun t1 t2 t3 t4 => ?_) (fun t1 t2 t4 => ?_) (fun t1 t4 => ?_)
    · have HR := Lib.hid (HJT.out t4)
      subst t3
      clear t4
      go_enter Tryd.func38, Tryd.ntmps38
      go_wp2_with (first | (go_at_call 43; refine (HS'.out _).mono ?_; rintro e w1 ⟨rfl, hb⟩; have H1 := Lib.hid hb; clear hb))
      go_ret2
      exact ⟨by rw [HR.out.1, HR.out.2, HE.out]; try rfl, H1.out⟩
    all_goals
      have HR := Lib.hid (HJF.out t4)
      clear t4
      try subst t1
      go_enter Tryd.func38, Tryd.ntmps38
      go_wp2_with (first | (go_at_call 43; refine (HS'.out _).mono ?_; rintro e w1 ⟨rfl, hb⟩; have H1 := Lib.hid hb; clear hb))
      go_ret2
      exact ⟨by rw [HR.out.1, HR.out.2]; try rfl, H1.out⟩
  · have e1 : (p == []) = false := by rw [beq_eq_false_iff_ne]; exact hp0
    obtain ⟨q, hq⟩ : ∃ q, q = p ++ [47] := ⟨_, rfl⟩
    have a1 : ∀ w, (Op.stringOp .add (str p) ⟨#[47]⟩).run Tryd.prog w = .ok (.string (str q)) w := fun w => by rw [hq]; exact add_str p [47] (by simp; omega) w
    have a2 : ∀ w, (Op.stringOp .add (str q) (str n)).run Tryd.prog w = .ok (.string (str s)) w := fun w => by
      have := add_str (P := Tryd.prog) q n (by rw [hq]; simp; omega) w
      rw [this, HSS.out, joinS, if_neg hp0, hq]; simp
    clear hs hp hn hq hp0
    refine HPT.out _ (fun t1 t2 t3 t4 => ?_) (fun t1 t2 t3 t4 => ?_) (fun t1 t2 t4 => ?_) (fun t1 t4 => ?_)
    · have HR := Lib.hid (HJT.out t4)
      subst t3
      clear t4
      go_enter Tryd.func38, Tryd.ntmps38
      go_wp2_with (first | (go_at_call 43; refine (HS.out _).mono ?_; rintro e w1 ⟨rfl, hb⟩; have H1 := Lib.hid hb; clear hb))
      go_ret2
      exact ⟨by rw [HR.out.1, HR.out.2]; try rfl, H1.out⟩
    all_goals
      have HR := Lib.hid (HJF.out t4)
      clear t4
      try subst t1
      go_enter Tryd.func38, Tryd.ntmps38
      go_wp2_with (first | (go_at_call 43; refine (HS.out _).mono ?_; rintro e w1 ⟨rfl, hb⟩; have H1 := Lib.hid hb; clear hb))
      go_ret2
      exact ⟨by rw [HR.out.1, HR.out.2]; try rfl, H1.out⟩
end Go.Proofs.YtocpplnnnflekaaDoor
namespace Go.Proofs.YtocpplnnnflekaaDoor
open Go.RowKit
theorem raw_ok {b : List UInt8} (h : putHErr (rawPath b) (rawSize b) = 0) : rawErr b = 0 := by
  rw [rawErr, joinErr]
  by_cases hj : joinOk (nameT ((b.take 500).drop 345)) (nameT (b.take 100)) = true
  · rw [if_pos hj]
  · exfalso
    rw [rawPath, joinT, if_neg hj] at h
    have h1 := ((putHErr_ok _ _).1 h).1
    revert h1; decide +kernel
theorem isHdr_eq (b : List UInt8) : isHdr b = (putHErr (rawPath b) (rawSize b) == 0 && putH (rawPath b) (rawSize b) == b) := by
  by_cases h : putHErr (rawPath b) (rawSize b) = 0
  · rw [isHdr, raw_ok h]; rfl
  · rw [isHdr, show (putHErr (rawPath b) (rawSize b) == 0) = false from beq_eq_false_iff_ne.2 h, Bool.false_and, Bool.and_false]
set_option maxRecDepth 100000 in
set_option maxHeartbeats 4000000 in
theorem names_any (p : List UInt8) (hp : p.length < 4611686018427387904) (n : Int) (w : World) :
    Calls Tryd.prog 30 #[.string (str p), .int .i64 n] w fun e w' => (putHErr p n = 0 → e = .returned (.tuple #[.string (str (splitA p)), .string (str (splitB p)), .int .i64 0])) ∧ (putHErr p n ≠ 0 → ∃ x y, e = .returned (.tuple #[.string x, .string y, .int .i64 (putHErr p n)])) ∧ Below w.heap.size w w' := by
  have SP := Lib.hid (fun w => split_any p hp w)
  rcases splitErr_cases p with ⟨h0, -⟩ | ⟨h9, -⟩
  · rw [h0] at SP
    by_cases hn : 0 ≤ n ∧ n ≤ 4194304
    · have h : putHErr p n = 0 := by unfold putHErr; rw [if_neg (by omega), if_neg (by omega)]
      have HE := Lib.hid h
      have d1 : decide (n < 0) = false := decide_eq_false (by omega)
      have d2 : decide (n > 4194304) = false := decide_eq_false (by omega)
      clear hn h h0 hp
      go_enter Tryd.func30, Tryd.ntmps30
      go_wp2_with (first | (go_at_call 43; refine (SP.out _).mono ?_; rintro e w1 ⟨rfl, hb⟩; have HB := Lib.hid hb; clear hb))
      go_ret3
      exact ⟨fun _ => rfl, fun h => absurd HE.out h, HB.out⟩
    · have h8 : putHErr p n = 8 := by unfold putHErr; rw [if_neg (by omega), if_pos (by omega)]
      have HE := Lib.hid h8
      clear h8 h0 hp
      by_cases h1 : n < 0
      · have d1 : decide (n < 0) = true := decide_eq_true h1
        clear h1 hn
        go_enter Tryd.func30, Tryd.ntmps30
        go_wp2_with (first | (go_at_call 43; refine (SP.out _).mono ?_; rintro e w1 ⟨rfl, hb⟩; have HB := Lib.hid hb; clear hb))
        go_ret3
        rw [HE.out]
        exact ⟨fun h => absurd h (by decide), fun _ => ⟨_, _, rfl⟩, HB.out⟩
      · have d1 : decide (n < 0) = false := decide_eq_false h1
        have d2 : decide (n > 4194304) = true := decide_eq_true (by omega)
        clear h1 hn
        go_enter Tryd.func30, Tryd.ntmps30
        go_wp2_with (first | (go_at_call 43; refine (SP.out _).mono ?_; rintro e w1 ⟨rfl, hb⟩; have HB := Lib.hid hb; clear hb))
        go_ret3
        rw [HE.out]
        exact ⟨fun h => absurd h (by decide), fun _ => ⟨_, _, rfl⟩, HB.out⟩
  · have h9' : putHErr p n = 9 := by unfold putHErr; rw [if_pos (by omega), h9]
    have HE := Lib.hid h9'
    rw [h9] at SP
    clear h9' h9 hp
    go_enter Tryd.func30, Tryd.ntmps30
    go_wp2_with (first | (go_at_call 43; refine (SP.out _).mono ?_; rintro e w1 ⟨rfl, hb⟩; have HB := Lib.hid hb; clear hb))
    go_ret3
    rw [HE.out]
    exact ⟨fun h => absurd h (by decide), fun _ => ⟨_, _, rfl⟩, HB.out⟩
set_option maxRecDepth 100000 in
set_option maxHeartbeats 4000000 in
theorem put7_any (p : List UInt8) (hp : p.length < 4611686018427387904) (n : Int) (w : World) :
    Calls Tryd.prog 21 #[.string (str p), .int .i64 n] w fun e w' => ∃ v, e = .returned (.tuple #[v, .int .i64 (putHErr p n)]) ∧ OwnText w' w.heap.size v (putH p n) ∧ Below w.heap.size w w' := by
  have NM := Lib.hid (fun w => names_any p hp n w)
  by_cases h : putHErr p n = 0
  · obtain ⟨-, h0, h1⟩ := (putHErr_ok p n).1 h
    have LY := Lib.hid (fun w => lay_any (splitA p) (splitB p) n (fit_of h) h0 h1 w)
    have HE := Lib.hid h
    have HP := Lib.hid (show putH p n = hdrL (splitA p) (splitB p) n by rw [putH, if_pos h])
    clear h h0 h1 hp
    go_enter Tryd.func21, Tryd.ntmps21
    go_wp2_with (first
      | (go_at_call 30; refine (NM.out _).mono ?_; rintro e w1 ⟨h, -, hb⟩; obtain rfl := h HE.out; have HB := Lib.hid hb; clear h hb)
      | (go_at_call 31; refine (LY.out w1).mono ?_; rintro e w2 ⟨v, rfl, ho, hb⟩; have HO := Lib.hid ho; have HB2 := Lib.hid (below_next HB.out hb); clear ho hb))
    go_ret2
    rw [HE.out, HP.out]
    exact ⟨_, rfl, ⟨HO.out.1, fun ad n cap e => ⟨Nat.le_trans HB.out.size (HO.out.2 ad n cap e).1, (HO.out.2 ad n cap e).2⟩⟩, HB2.out⟩
  · have HE := Lib.hid (show putH p n = [] by rw [putH, if_neg h])
    obtain ⟨E, hE⟩ : ∃ E, E = putHErr p n := ⟨_, rfl⟩
    rw [← hE] at NM h ⊢
    have dE : (E != 0) = true := by simp; exact h
    have H0 := Lib.hid h
    clear hE h hp
    go_enter Tryd.func21, Tryd.ntmps21
    go_wp2_with (first
      | (go_at_call 30; refine (NM.out _).mono ?_; rintro e w1 ⟨-, h, hb⟩; obtain ⟨x, y, rfl⟩ := h H0.out; have HB := Lib.hid hb; clear h hb))
    go_ret2
    rw [HE.out]
    exact ⟨_, rfl, ⟨hasText_nil _, fun ad n cap e => by cases e⟩, HB.out⟩
set_option maxRecDepth 100000 in
set_option maxHeartbeats 4000000 in
theorem equal_any (x y : List UInt8) (v u : Value) (w : World) (hx : HasText w v x) (hy : HasText w u y) : Calls Tryd.prog 39 #[v, u] w fun e w' => e = .returned (.bool (x == y)) ∧ w' = w := by
  have c1 := conv_text Tryd.underlying25 Tryd.underlying5 Tryd.underlying9 hx
  have c2 := conv_text Tryd.underlying25 Tryd.underlying5 Tryd.underlying9 hy
  obtain ⟨ao, cap, rfl⟩ := text_shape hx x.length rfl
  obtain ⟨ao', cap', rfl⟩ := text_shape hy y.length rfl
  obtain ⟨n, hn⟩ : ∃ n, n = x.length := ⟨_, rfl⟩
  obtain ⟨m, hm⟩ : ∃ m, m = y.length := ⟨_, rfl⟩
  rw [← hn] at c1 ⊢
  rw [← hm] at c2 ⊢
  have h1 : (str x).toList = x := str_toList x
  have h2 : (str y).toList = y := str_toList y
  obtain ⟨t, ht⟩ : ∃ t, (x == y) = t := ⟨_, rfl⟩
  rw [ht]
  clear hn hm hx hy
  go_enter Tryd.func39, Tryd.ntmps39
  go_wp2
  go_ret
  exact ⟨by rw [← ht]; rfl, rfl⟩
theorem round_num1 (n : Nat) (h : n < 10000000) : ∃ a b c d : Nat, (n : Int) + 512 = (a : Int) ∧ (a : Int) - 1 = (b : Int) ∧ (b : Int) / 512 = (c : Int) ∧ (c : Int) * 512 = (d : Int) ∧ a < 20000000 ∧ b < 20000000 ∧ c < 20000000 ∧ d < 20000000 ∧ roundZ (n : Int) = (d : Int) := by
  refine ⟨n + 512, n + 511, (n + 511) / 512, (n + 511) / 512 * 512, by omega, by omega, by omega, by omega, by omega, by omega, by omega, by omega, ?_⟩
  unfold roundZ
  by_cases h0 : (n : Int) ≤ 0
  · rw [if_pos h0]; omega
  · rw [if_neg h0]; omega
theorem wrap_few (a : Nat) (h : a < 20000000) : IntKind.i64.wrap (a : Int) = (a : Int) ∧ wrap64 (a : Int) = (a : Int) := by
  rw [IntKind.wrap_i64, wrap64]; omega
set_option maxRecDepth 100000 in
set_option maxHeartbeats 200000000 in
theorem round7_any (z : Int) (h1 : z < 10000000) (w : World) : Calls Tryd.prog 22 #[.int .i64 z] w fun e w' => e = .returned (.int .i64 (roundZ z)) ∧ Below w.heap.size w w' := by
  by_cases h : z < 0
  · have d1 : decide (z < 0) = true := decide_eq_true h
    have HR := Lib.hid (show roundZ z = 0 by rw [roundZ, if_pos (by omega)])
    clear h h1
    go_enter Tryd.func22, Tryd.ntmps22
    go_wp2
    go_ret
    exact ⟨by rw [HR.out]; rfl, Below.refl _ _⟩
  · obtain ⟨n, rfl⟩ : ∃ n : Nat, z = (n : Int) := ⟨z.toNat, by omega⟩
    have d1 : decide ((n : Int) < 0) = false := decide_eq_false h
    obtain ⟨a, b, c, d, ha, hb, hc, hd, la, lb, lc, ld, hr⟩ := round_num1 n (by omega)
    obtain ⟨e1, f1⟩ := wrap_few a la
    obtain ⟨e2, f2⟩ := wrap_few b lb
    obtain ⟨e3, f3⟩ := wrap_few c lc
    obtain ⟨e4, f4⟩ := wrap_few d ld
    have HD := Lib.hid hr
    clear h h1 hr la lb lc ld
    go_enter Tryd.func22, Tryd.ntmps22
    go_wp2
    go_ret
    exact ⟨by rw [HD.out]; rfl, Below.refl _ _⟩
theorem all_zero_at {b : List UInt8} {k : Nat} (hk : k < b.length) (h : (b.take k).all (· == 0) = true) : (b.take (k + 1)).all (· == 0) = (b.getD k 0 == 0) := by
  rw [List.take_add_one, List.all_append, h, Bool.true_and, List.getElem?_eq_getElem hk, List.getD_eq_getElem?_getD, List.getElem?_eq_getElem hk]
  simp
theorem all_take {b : List UInt8} (k : Nat) (h : (b.take k).all (· == 0) = false) : b.all (· == 0) = false := by
  rw [← List.take_append_drop k b, List.all_append, h, Bool.false_and]
set_option maxRecDepth 100000 in
set_option maxHeartbeats 2000000 in
theorem blank_any (b : List UInt8) (hb : b.length < 4611686018427387904) (v : Value) (w : World) (hv : HasText w v b) : Calls Tryd.prog 26 #[v] w fun e w' => e = .returned (.bool (b.all (· == 0))) ∧ Below w.heap.size w w' := by
  have HV := Lib.hid hv
  obtain ⟨ao, cap, rfl⟩ := text_shape hv b.length rfl
  obtain ⟨n, hn⟩ : ∃ n, n = b.length := ⟨_, rfl⟩
  rw [← hn] at HV ⊢
  have HN := Lib.hid hn
  have hn4 : n < 4611686018427387904 := by omega
  clear hn hv
  go_enter Tryd.func26, Tryd.ntmps26
  go_wp2
  go_loopw [7] (fun c wr => wr = w ∧ ∃ k : Nat, k ≤ n ∧ c = .int .i64 k ∧ (b.take k).all (· == 0) = true) (fun c _ => n - (intOf c).toNat)
  case atStart => exact ⟨rfl, 0, by omega, rfl, rfl⟩
  case round =>
    obtain ⟨rfl, k, hk, rfl, hz⟩ := hrel
    have HZ := Lib.hid hz
    clear hz
    by_cases hlt : k < n
    · have q0 : (k : Int) < (n : Int) := by omega
      obtain ⟨ad, c, rfl, hc, hcd, c0⟩ := text_at HV.out k (by rw [← HN.out]; exact hlt)
      obtain ⟨x, hx⟩ : ∃ x : Nat, x = c.toNat := ⟨_, rfl⟩
      have HA := Lib.hid (show (b.take (k + 1)).all (· == 0) = decide (x = 0) by
        rw [all_zero_at (by rw [← HN.out]; exact hlt) HZ.out, hcd, Bool.eq_iff_iff, beq_iff_eq, decide_eq_true_eq, hx]
        constructor
        · intro e; rw [e]; rfl
        · intro e; exact UInt8.toNat_inj.1 e)
      rw [← hx] at c0
      clear hc hcd hx
      by_cases hx0 : x = 0
      · subst hx0
        go_wp2
        go_roundw
        case rel => exact ⟨trivial, k + 1, by omega, by go_num, by rw [HA.out]; rfl⟩
        case measure => simp [intOf]; omega
      · have t1 : ((x : Int) != 0) = true := by rw [bne_iff_ne]; omega
        have HR := Lib.hid (all_take (k + 1) (by rw [HA.out]; exact decide_eq_false hx0))
        clear hx0
        go_wp2
        go_ret
        exact ⟨by rw [HR.out]; rfl, Below.refl _ _⟩
    · have q0 : ¬ (k : Int) < (n : Int) := by omega
      have HR := Lib.hid (show b.all (· == 0) = true by
        have h := HZ.out
        rwa [show k = b.length by rw [← HN.out]; omega, List.take_length] at h)
      go_wp2
      go_ret
      exact ⟨by rw [HR.out]; rfl, Below.refl _ _⟩
set_option maxRecDepth 100000 in
set_option maxHeartbeats 8000000 in
theorem get7_any (b : List UInt8) (hb : b.length < 4611686018427387904) (v : Value) (w : World) (hv : HasText w v b) :
    Calls Tryd.prog 27 #[v] w fun e w' => e = .returned (.tuple #[.string (str (getHPath b)), .int .i64 (getHSize b), .int .i64 (getHErr b)]) ∧ Below w.heap.size w w' := by
  have HV := Lib.hid hv
  obtain ⟨n, hn⟩ : ∃ n, n = b.length := ⟨_, rfl⟩
  obtain ⟨ao, cap, rfl⟩ := text_shape hv n hn.symm
  have HN := Lib.hid hn
  rw [← hn] at hb
  clear hv hn
  by_cases hs : n < 512
  · have q0 : (n : Int) < 512 := by omega
    have h3 := shorter (x := b) (by rw [← HN.out]; exact hs)
    have hbad := getH_bad (b := b) (by omega)
    have HR := Lib.hid (And.intro h3 hbad)
    clear h3 hbad hs hb
    go_enter Tryd.func27, Tryd.ntmps27
    go_wp2
    go_ret3
    rw [HR.out.1, HR.out.2.1, HR.out.2.2]
    exact ⟨rfl, Below.refl _ _⟩
  · have q0 : ¬ (n : Int) < 512 := by omega
    have hbl : 512 ≤ b.length := by rw [← HN.out]; omega
    obtain ⟨ad, cap', hsl, hcc⟩ : ∃ ad cap', Value.slice ao n cap = .slice (some ad) n cap' ∧ True := by
      obtain ⟨ad, cap', e, -⟩ := text_pos HV.out n 0 HN.out.symm (by omega) _ rfl
      exact ⟨ad, cap', e, trivial⟩
    cases hsl
    have hcap := (text_cap HV.out).2
    have qc : (100 : Int) ≤ (cap : Int) := by omega
    have qc2 : (500 : Int) ≤ (cap : Int) := by omega
    have qc3 : (136 : Int) ≤ (cap : Int) := by omega
    have T1 := Lib.hid (text_take HV.out 100 (by omega))
    have T2 := Lib.hid (text_mid HV.out 345 500 (by omega) (by omega))
    have T3 := Lib.hid (text_mid HV.out 124 136 (by omega) (by omega))
    have N1 := Lib.hid (fun w hv => nameFace.name w (.slice (some ad) 100 cap) (b.take 100) (by rw [List.length_take]; omega) hv)
    have N2 := Lib.hid (fun w hv => nameFace.name w (.slice (some (ad.add 345)) 155 (cap - 345)) ((b.take 500).drop 345) (by rw [List.length_drop, List.length_take]; omega) hv)
    have G3 := Lib.hid (fun w hv => octalFace.get w (.slice (some (ad.add 124)) 12 (cap - 124)) ((b.take 136).drop 124) (by rw [List.length_drop, List.length_take]; omega) hv)
    have J1 := Lib.hid (show ∀ w, Calls Tryd.prog 38 #[.string (str (nameT ((b.take 500).drop 345))), .string (str (nameT (b.take 100)))] w fun e w' => e = .returned (.tuple #[.string (str (rawPath b)), .int .i64 (rawErr b)]) ∧ Below w.heap.size w w' from fun w => join_any (nameT ((b.take 500).drop 345)) (nameT (b.take 100)) (by have h := nameT_le ((b.take 500).drop 345); rw [List.length_drop, List.length_take] at h; omega) (by have h := nameT_le (b.take 100); rw [List.length_take] at h; omega) w)
    have P1 := Lib.hid (fun w => put7_any (rawPath b) (by have := rawPath_le b hbl; omega) (rawSize b) w)
    have E1 := Lib.hid (fun w v hv => equal_any (putH (rawPath b) (rawSize b)) b v (.slice (some ad) n cap) w hv)
    have hg2 : ¬ isHdr b = true → getHErr b = 2 ∧ getHPath b = [] ∧ getHSize b = 0 := fun h => by
      have h2 : getHErr b = 2 := by unfold getHErr; rw [if_neg (by omega), if_neg h]
      exact ⟨h2, (getH_bad (b := b) (by omega)).1, (getH_bad (b := b) (by omega)).2⟩
    have hg0 : isHdr b = true → getHErr b = 0 ∧ getHPath b = rawPath b ∧ getHSize b = rawSize b := fun h => by
      have h0 := getHErr_zero.2 h
      exact ⟨h0, by rw [getHPath, if_pos h0], by rw [getHSize, if_pos h0]⟩
    have HGG := Lib.hid (And.intro hg2 hg0)
    have HDD := Lib.hid (isHdr_eq b)
    obtain ⟨F, hF⟩ : ∃ F, F = putHErr (rawPath b) (rawSize b) := ⟨_, rfl⟩
    obtain ⟨X, hX⟩ : ∃ X, X = putH (rawPath b) (rawSize b) := ⟨_, rfl⟩
    obtain ⟨Y, hY⟩ : ∃ Y, Y = (X == b) := ⟨_, rfl⟩
    rw [← hX, ← hY] at E1
    rw [← hF, ← hX] at P1
    rw [← hF, ← hX, ← hY] at HDD
    clear hF hX hY hg2 hg0 hcap hbl hs hb
    have part : ∀ Q : Prop, (F = 0 → Y = true → Q) → (F = 0 → Y = false → Q) → ((F != 0) = true → Q) → Q := fun Q c1 c2 c3 => by
      by_cases h : F = 0
      · cases Y with
        | true => exact c1 h rfl
        | false => exact c2 h rfl
      · exact c3 (by rw [bne_iff_ne]; exact h)
    refine part _ (fun h1 h2 => ?_) (fun h1 h2 => ?_) (fun h1 => ?_)
    · subst h1; subst h2
      have HR := Lib.hid (HGG.out.2 HDD.out)
      clear part
      go_enter Tryd.func27, Tryd.ntmps27
      go_upto_region 4 with (first | (go_at_call 36; refine (N1.out _ T1.out).mono ?_; rintro e w1 ⟨rfl, hb⟩; have B1 := Lib.hid hb; clear hb))
      go_upto_region 5 with (first | (go_at_call 36; refine (N2.out _ (text_keep T2.out B1.out)).mono ?_; rintro e w2 ⟨rfl, hb⟩; have B2 := Lib.hid (below_next B1.out hb); clear hb))
      go_upto_region 6 with (first | (go_at_call 37; refine (G3.out _ (text_keep T3.out B2.out)).mono ?_; rintro e w3 ⟨rfl, hb⟩; have B3 := Lib.hid (below_next B2.out hb); clear hb))
      go_upto_region 7 with (first | (go_at_call 38; refine (J1.out _).mono ?_; rintro e w4 ⟨rfl, hb⟩; have B4 := Lib.hid (below_next B3.out hb); clear hb))
      go_upto_region 8 with (first | (go_at_call 21; refine (P1.out _).mono ?_; rintro e w5 ⟨v5, rfl, ht, hb⟩; have TV := Lib.hid ht.1; have B5 := Lib.hid (below_next B4.out hb); clear ht hb))
      go_upto_region 9 with (first | (go_at_call 39; refine (E1.out _ _ TV.out (text_keep HV.out B5.out)).mono ?_; rintro e w6 ⟨rfl, rfl⟩))
      go_wp2
      go_ret3
      rw [HR.out.1, HR.out.2.1, HR.out.2.2]
      exact ⟨rfl, B5.out⟩
    · subst h1; subst h2
      have HR := Lib.hid (HGG.out.1 (by rw [HDD.out]; simp))
      clear part
      go_enter Tryd.func27, Tryd.ntmps27
      go_upto_region 4 with (first | (go_at_call 36; refine (N1.out _ T1.out).mono ?_; rintro e w1 ⟨rfl, hb⟩; have B1 := Lib.hid hb; clear hb))
      go_upto_region 5 with (first | (go_at_call 36; refine (N2.out _ (text_keep T2.out B1.out)).mono ?_; rintro e w2 ⟨rfl, hb⟩; have B2 := Lib.hid (below_next B1.out hb); clear hb))
      go_upto_region 6 with (first | (go_at_call 37; refine (G3.out _ (text_keep T3.out B2.out)).mono ?_; rintro e w3 ⟨rfl, hb⟩; have B3 := Lib.hid (below_next B2.out hb); clear hb))
      go_upto_region 7 with (first | (go_at_call 38; refine (J1.out _).mono ?_; rintro e w4 ⟨rfl, hb⟩; have B4 := Lib.hid (below_next B3.out hb); clear hb))
      go_upto_region 8 with (first | (go_at_call 21; refine (P1.out _).mono ?_; rintro e w5 ⟨v5, rfl, ht, hb⟩; have TV := Lib.hid ht.1; have B5 := Lib.hid (below_next B4.out hb); clear ht hb))
      go_upto_region 9 with (first | (go_at_call 39; refine (E1.out _ _ TV.out (text_keep HV.out B5.out)).mono ?_; rintro e w6 ⟨rfl, rfl⟩))
      go_wp2
      go_ret3
      rw [HR.out.1, HR.out.2.1, HR.out.2.2]
      exact ⟨rfl, B5.out⟩
    · have HR := Lib.hid (HGG.out.1 (by rw [HDD.out]; intro h; rw [Bool.and_eq_true, beq_iff_eq] at h; rw [bne_iff_ne] at h1; exact h1 h.1))
      clear part
      go_enter Tryd.func27, Tryd.ntmps27
      go_upto_region 4 with (first | (go_at_call 36; refine (N1.out _ T1.out).mono ?_; rintro e w1 ⟨rfl, hb⟩; have B1 := Lib.hid hb; clear hb))
      go_upto_region 5 with (first | (go_at_call 36; refine (N2.out _ (text_keep T2.out B1.out)).mono ?_; rintro e w2 ⟨rfl, hb⟩; have B2 := Lib.hid (below_next B1.out hb); clear hb))
      go_upto_region 6 with (first | (go_at_call 37; refine (G3.out _ (text_keep T3.out B2.out)).mono ?_; rintro e w3 ⟨rfl, hb⟩; have B3 := Lib.hid (below_next B2.out hb); clear hb))
      go_upto_region 7 with (first | (go_at_call 38; refine (J1.out _).mono ?_; rintro e w4 ⟨rfl, hb⟩; have B4 := Lib.hid (below_next B3.out hb); clear hb))
      go_upto_region 8 with (first | (go_at_call 21; refine (P1.out _).mono ?_; rintro e w5 ⟨v5, rfl, ht, hb⟩; have TV := Lib.hid ht.1; have B5 := Lib.hid (below_next B4.out hb); clear ht hb))
      go_wp2
      go_ret3
      rw [HR.out.1, HR.out.2.1, HR.out.2.2]
      exact ⟨rfl, B5.out⟩
theorem headerFace : HeaderFace where
  put := fun w p n hp _ _ => put7_any p (Nat.lt_trans hp (by decide)) n w
  get := fun w v b hb hv => get7_any b hb v w hv
end Go.Proofs.YtocpplnnnflekaaDoor
namespace Go.Proofs.YtocpplnnnflekaaDoor
/-- The bytes are these files' and what is left. -/
def Got (b : List UInt8) (acc : List F8) (rem : List UInt8) : Prop := firstErr acc = 0 ∧ b = bodyB acc ++ rem
set_option maxRecDepth 100000 in
theorem body_split (l : List F8) : ∀ m rem, firstErr l = 0 → firstErr m = 0 → bodyB m ++ zeros 1024 = bodyB l ++ rem → ∃ t, m = l ++ t ∧ rem = bodyB t ++ zeros 1024 := by
  induction l with
  | nil => intro m rem _ _ e; exact ⟨m, rfl, by simpa [bodyB] using e.symm⟩
  | cons f t ih =>
    intro m rem hl hm e
    have hf := firstErr_zero.1 hl
    have h0 := hf f (List.mem_cons.2 (.inl rfl))
    cases m with
    | nil =>
      exfalso
      have h := file_head (x := bodyB t ++ rem) h0
      rw [← List.append_assoc, show fileB f ++ bodyB t = bodyB (f :: t) from rfl, ← e] at h
      exact h rfl
    | cons g u =>
      have hg := firstErr_zero.1 hm
      have k0 := hg g (List.mem_cons.2 (.inl rfl))
      simp only [bodyB, fileB, List.append_assoc] at e
      obtain ⟨e1, e2⟩ := List.append_inj e (by rw [putH_len h0, putH_len k0])
      obtain ⟨p1, p2⟩ := (putH_inj k0 h0).1 e1
      have p3 : g.2.length = f.2.length := by omega
      obtain ⟨e3, e4⟩ := List.append_inj e2 p3
      rw [p3] at e4
      have e5 := List.append_cancel_left e4
      obtain ⟨t', e6, e7⟩ := ih u rem (firstErr_zero.2 fun x hx => hf x (List.mem_cons.2 (.inr hx))) (firstErr_zero.2 fun x hx => hg x (List.mem_cons.2 (.inr hx))) e5
      refine ⟨t', ?_, e7⟩
      rw [e6, List.cons_append]
      congr 1
      exact Prod.ext p1 e3
set_option maxRecDepth 100000 in
theorem got_start (b : List UInt8) : Got b [] b := ⟨rfl, rfl⟩
set_option maxRecDepth 100000 in
theorem got_none {b : List UInt8} (h : ∀ m, putUErr m = 0 → putU m ≠ b) : getUErr b = 2 ∧ getU b = [] := by
  rcases getUErr_cases b with h0 | h0
  · obtain ⟨h1, h2⟩ := put_getU h0
    exact absurd h2 (h _ h1)
  · exact ⟨h0, getU_bad (by rw [h0]; decide)⟩
set_option maxRecDepth 100000 in
theorem got_split {b : List UInt8} {acc : List F8} {rem : List UInt8} (g : Got b acc rem) {m : List F8} (hm : putUErr m = 0) (e : putU m = b) : ∃ t, m = acc ++ t ∧ rem = bodyB t ++ zeros 1024 := by
  rw [putU, if_pos hm, g.2] at e
  exact body_split acc m rem g.1 (putUErr_zero.1 hm).2.2.1 e
set_option maxRecDepth 100000 in
theorem all_zeros {l : List UInt8} {n : Nat} (hn : l.length = n) (h : l.all (· == 0) = true) : l = zeros n := by
  refine List.eq_replicate_iff.2 ⟨hn, fun c hc => ?_⟩
  have := List.all_eq_true.1 h c hc
  simpa using this
set_option maxRecDepth 100000 in
theorem zeros_all (n : Nat) : (zeros n).all (· == 0) = true := by simp [zeros]
set_option maxRecDepth 100000 in
theorem got_end {b : List UInt8} {acc : List F8} {rem : List UInt8} (g : Got b acc rem) (h : rem = zeros 1024) (h1 : acc.length ≤ 400) (h2 : totalB acc ≤ 4194304) (h3 : twiceB acc = false) : getUErr b = 0 ∧ getU b = acc := by
  have h0 : putUErr acc = 0 := putUErr_zero.2 ⟨h1, h2, g.1, h3⟩
  exact getU_of h0 (by rw [putU, if_pos h0, g.2, h])
set_option maxRecDepth 100000 in
theorem got_twice {b : List UInt8} {acc : List F8} {rem : List UInt8} (g : Got b acc rem) (h : twiceB acc = true) : getUErr b = 2 ∧ getU b = [] := got_none fun m hm e => by
  obtain ⟨t, rfl, -⟩ := got_split g hm e
  have := (twice_append (putUErr_zero.1 hm).2.2.2).1
  rw [h] at this; cases this
set_option maxRecDepth 100000 in
theorem got_head {b : List UInt8} {acc : List F8} {rem : List UInt8} (g : Got b acc rem) (h : ¬ (rem.length = 1024 ∧ rem.all (· == 0) = true)) {m : List F8} (hm : putUErr m = 0) (e : putU m = b) :
    ∃ (f : F8) (t : List F8), rem = putH f.1 f.2.length ++ (f.2 ++ (zeros (padN f.2.length) ++ (bodyB t ++ zeros 1024))) ∧ putHErr f.1 f.2.length = 0 := by
  obtain ⟨t, rfl, hr⟩ := got_split g hm e
  cases t with
  | nil => exact absurd ⟨by rw [hr]; simp [bodyB, zeros_len], by rw [hr]; simpa [bodyB] using zeros_all 1024⟩ h
  | cons f u =>
    refine ⟨f, u, ?_, firstErr_zero.1 (putUErr_zero.1 hm).2.2.1 f (by simp)⟩
    rw [hr, bodyB, fileB]
    simp only [List.append_assoc]
set_option maxRecDepth 100000 in
theorem got_bad {b : List UInt8} {acc : List F8} {rem : List UInt8} (g : Got b acc rem) (h : ¬ (rem.length = 1024 ∧ rem.all (· == 0) = true)) (h0 : getHErr (rem.take 512) ≠ 0) : getUErr b = 2 ∧ getU b = [] := got_none fun m hm e => by
  obtain ⟨f, t, hr, hf⟩ := got_head g h hm e
  apply h0
  rw [hr, List.take_left' (putH_len hf)]
  exact (get_putH hf).1
set_option maxRecDepth 100000 in
theorem got_cut {b : List UInt8} {acc : List F8} {rem : List UInt8} (g : Got b acc rem) (h : ¬ (rem.length = 1024 ∧ rem.all (· == 0) = true)) (s : Nat) (hs : getHSize (rem.take 512) = (s : Int))
    (hn : ¬ (s + padN s ≤ (rem.drop 512).length ∧ (((rem.drop 512).take (s + padN s)).drop s).all (· == 0) = true)) : getUErr b = 2 ∧ getU b = [] := got_none fun m hm e => by
  obtain ⟨f, t, hr, hf⟩ := got_head g h hm e
  rw [hr, List.take_left' (putH_len hf), (get_putH hf).2.2] at hs
  obtain rfl : f.2.length = s := by omega
  apply hn
  rw [hr, List.drop_left' (putH_len hf)]
  constructor
  · simp only [List.length_append, zeros_len]; omega
  · rw [← List.append_assoc f.2, List.take_left' (by rw [List.length_append, zeros_len]), List.drop_left' rfl]
    exact zeros_all _
set_option maxRecDepth 100000 in
theorem next_eq {acc : List F8} {p : List UInt8} {r h : List UInt8} {s : Nat} (p2 : putH p (s : Int) = h) (h1 : s + padN s ≤ r.length) (hz : (r.take (s + padN s)).drop s = zeros (padN s)) :
    bodyB acc ++ (h ++ r) = bodyB (acc ++ [(p, r.take s)]) ++ r.drop (s + padN s) := by
  have hl : (r.take s).length = s := by rw [List.length_take]; omega
  have e : r = r.take s ++ (zeros (padN s) ++ r.drop (s + padN s)) := by
    conv => lhs; rw [← List.take_append_drop (s + padN s) r, ← List.take_append_drop s (r.take (s + padN s))]
    rw [List.take_take, Nat.min_eq_left (by omega), hz, List.append_assoc]
  rw [bodyB_append, bodyB, bodyB, List.append_nil, fileB, hl, p2, List.append_assoc, List.append_assoc, List.append_assoc, ← e]
set_option maxRecDepth 100000 in
theorem got_next {b : List UInt8} {acc : List F8} {rem h r : List UInt8} (g : Got b acc rem) (hh : rem.take 512 = h) (hr : rem.drop 512 = r) (h0 : getHErr h = 0) (s : Nat) (hs : getHSize h = (s : Int))
    (h1 : s + padN s ≤ r.length) (h2 : ((r.take (s + padN s)).drop s).all (· == 0) = true) : Got b (acc ++ [(getHPath h, r.take s)]) (r.drop (s + padN s)) := by
  obtain ⟨p1, p2⟩ := put_getH h0
  have hl : (r.take s).length = s := by rw [List.length_take]; omega
  have hz := all_zeros (n := padN s) (by rw [List.length_drop, List.length_take]; omega) h2
  rw [hs] at p1 p2
  refine ⟨?_, ?_⟩
  · rw [firstErr_append, if_pos g.1, firstErr, hl, if_pos p1]; rfl
  · rw [← next_eq p2 h1 hz, ← hh, ← hr, List.take_append_drop]
    exact g.2
set_option maxRecDepth 100000 in
theorem body_long (l : List F8) (h : firstErr l = 0) : l.length * 512 + totalB l ≤ (bodyB l).length := by
  induction l with
  | nil => simp [totalB]
  | cons f t ih =>
    have hf := firstErr_zero.1 h
    have := ih (firstErr_zero.2 fun x hx => hf x (List.mem_cons.2 (.inr hx)))
    rw [bodyB, List.length_append, fileB_len (hf f (List.mem_cons.2 (.inl rfl))), totalB, List.length_cons]
    omega
set_option maxRecDepth 100000 in
theorem got_len {b : List UInt8} {acc : List F8} {rem : List UInt8} (g : Got b acc rem) : acc.length * 512 + totalB acc + rem.length ≤ b.length := by
  have := body_long acc g.1
  rw [g.2, List.length_append]; omega
end Go.Proofs.YtocpplnnnflekaaDoor
