/-
Texts that all claims of this seat share, part 3: OpenEvs, Stable, OpReady, Shown, HeadsParts, Ref12.
-/
import Derived.SizedLaws
import Derived.Deep.Slices
import Derived.Maps.AppendAt
import Derived.Deep.AppendLies
import Derived.Laws.AppendOwn
import Derived.OwnWalk
import Derived.Lib.SliceRun
import Derived.Shelf.Spec.SlicesInsert
import Derived.Lib.AppendZerosOnto
import Derived.Laws.AppendOwnNone
import Derived.Laws.Slices
import Derived.Test.YtppmbdpfledejaaGreatDoorPk2
namespace Go.Proofs.YtppmbdpfledejaaGreatDoor
open Go.ChangeShapes Go.WideShapes Go.ChangeAt Go.RowKit
theorem mem_weightsE {H : Type} {P : Program} {e : TypeId} {d : DataW H} {m : Nat} : ∀ {ds : List (DataW H)}, d ∈ ds → m ∈ DataW.weights P e d → m ∈ DataW.weightsAll P e ds
  | x :: ds, h, hm => by
    simp only [DataW.weightsAll, List.mem_append]
    rcases List.mem_cons.1 h with rfl | h
    · exact .inl hm
    · exact .inr (mem_weightsE h hm)
theorem sized_elemE {H : Type} {P : Program} {ts : List TypeId} {ds : List (DataW H)} {k : Nat} {t e : TypeId} {fs : Array Field} {elems spare parts : List (DataW H)} (h : (DataW.weightsEach P ts ds).all (· ≤ reachBytes) = true)
    (ht : ts[k]? = some t) (hd : ds[k]? = some (.slice elems spare)) (hu : P.underlying t = some (.slice e)) (he : P.underlying e = some (.struct fs)) (hm : (.agg parts : DataW H) ∈ elems) : (DataW.weightsEach P (fs.toList.map (·.type)) parts).all (· ≤ reachBytes) = true := by
  rw [List.all_eq_true]
  intro n hn
  refine List.all_eq_true.1 h _ (DataW.weights_mem_each ht hd n ?_)
  simp only [DataW.weights, hu, List.mem_cons, List.mem_append]
  exact .inr (.inl (mem_weightsE hm (by simp only [DataW.weights, he]; exact hn)))
theorem evsC_inv (us : List (Ev × Value)) : ∀ j u, (evsC us)[j]? = some u → ∃ i z q, us[i]? = some z ∧ j = i * 38 + q ∧ (evC z.1 z.2)[q]? = some u := by
  induction us with
  | nil => intro j u h; simp [evsC] at h
  | cons y t ih =>
    intro j u h
    rw [evsC] at h
    by_cases hj : j < 38
    · rw [List.getElem?_append_left (by rw [evC_len]; exact hj), Array.getElem?_toList] at h
      exact ⟨0, y, j, rfl, by omega, h⟩
    · rw [List.getElem?_append_right (by rw [evC_len]; omega), evC_len] at h
      obtain ⟨i, z, q, h1, h2, h3⟩ := ih (j - 38) u h
      exact ⟨i + 1, z, q, by simpa using h1, by omega, h3⟩
set_option maxRecDepth 100000 in
set_option maxHeartbeats 4000000 in
set_option linter.unusedSimpArgs false in
theorem open_event_cells {H : Type} {enc : TypeId × Value → H} {w : World} {base : Nat} {sp : Nat → Bool} {held : Bool} {fuel : Nat} {cs : List Value} {x : DataW H × List MemPlace} (hsz : cs.length = 38) (hy : DataW.trod enc Tryz.prog w base sp held fuel 92 cs = some x) :
    ∃ (e : Ev) (u : Value), cs = (evC e u).toList ∧ HasDots w u e.deps ∧ I64 e.r ∧ I64 e.q ∧ ∃ ds : List (DataW H), x.1 = .agg ds ∧ ds[3]? = some (.lit (.string (str e.path).data.toList)) := by
  have hc1 : Tryz.prog.cellsOf 29 = 2 := by kernel_rfl
  have hc2 : Tryz.prog.cellsOf 3 = 1 := by kernel_rfl
  have hc3 : Tryz.prog.cellsOf 2 = 1 := by kernel_rfl
  have hc4 : Tryz.prog.cellsOf 75 = 1 := by kernel_rfl
  have hc5 : Tryz.prog.cellsOf 9 = 1 := by kernel_rfl
  have hc6 : Tryz.prog.cellsOf 31 = 32 := by kernel_rfl
  have hc7 : Tryz.prog.cellsOf 5 = 1 := by kernel_rfl
  match cs, hsz with
  | k0 :: k1 :: k2 :: k3 :: k4 :: ks, hsz =>
  obtain ⟨ys, m', _, hd, _, hl', hf⟩ := DataW.trod_struct Tryz.underlying92 hy
  match ys, hl' with
  | [y0, y1, y2, y3, y4, y5], _ =>
  have g0 := hf 0 _ rfl
  have g1 := hf 1 _ rfl
  have g2 := hf 2 _ rfl
  have g3 := hf 3 _ rfl
  have g4 := hf 4 _ rfl
  have g5 := hf 5 _ rfl
  simp [Value.cells, hc1, hc2, hc4, hc5, hc6] at g0 g1 g2 g3 g4 g5
  obtain ⟨zs, m2, _, _, _, hl2, hf2⟩ := DataW.trod_struct Tryz.underlying29 g0
  match zs, hl2 with
  | [z0, z1], _ =>
  have i0 := hf2 0 _ rfl
  have i1 := hf2 1 _ rfl
  simp [hc2, hc3] at i0 i1
  obtain ⟨a, e0, -, w0⟩ := DataW.trod_int Tryz.underlying3 i0
  obtain ⟨b, e1, -, w1⟩ := DataW.trod_int Tryz.underlying2 i1
  obtain ⟨l, hl3, -⟩ := open_dots_cell Tryz.underlying75 Tryz.underlying29 (by kernel_rfl) rfl rfl (by kernel_rfl) (by kernel_rfl) Tryz.underlying3 Tryz.underlying2 g1
  obtain ⟨kd, e2, -, w2⟩ := DataW.trod_int Tryz.underlying3 g2
  obtain ⟨s, e3, h3, -⟩ := DataW.trod_string Tryz.underlying9 g3
  obtain ⟨f, hf4, e4⟩ := open_digest_cells Tryz.underlying31 Tryz.underlying5 hc7 hc6 g4
  obtain ⟨sz, e5, -, w5⟩ := DataW.trod_int Tryz.underlying3 g5
  simp only [List.cons.injEq, and_true] at e0 e1 e2 e3
  have hlen : ks.length = 33 := by simpa using hsz
  have hks : ks = (row .u8 32 f).toList ++ [.int .i64 sz] := by
    rw [← e4, ← e5, List.take_of_length_le (l := ks.drop 32) (by rw [List.length_drop]; omega), List.take_append_drop]
  have hx : str s.data.toList = s := by unfold str; rfl
  refine ⟨⟨a, b, l, kd, s.data.toList, f, sz⟩, k2, ?_, hl3, i64_of12 w0, i64_of12 w1, [y0.1, y1.1, y2.1, y3.1, y4.1, y5.1], ?_, ?_⟩
  · rw [e0, e1, e2, e3, hks]
    simp only [evC, hx, Array.toList_append]
    rfl
  · exact (Prod.mk.inj hd).1
  · show some y3.1 = _
    rw [h3, hx]
set_option maxRecDepth 100000 in
set_option maxHeartbeats 4000000 in
theorem open_events {H : Type} {enc : TypeId × Value → H} {w : World} {base : Nat} {sp : Nat → Bool} {held : Bool} {r : Reach} {b0 : Nat} {v : Value} {d : DataW H} {p : List MemPlace} {ts : List TypeId} {ds : List (DataW H)} {k : Nat} (hv : Value.okWide Tryz.prog w r b0 22 v)
    (h : DataW.Trod enc Tryz.prog w base sp held 22 v d p) (hreach : (DataW.weightsEach Tryz.prog ts ds).all (· ≤ reachBytes) = true) (hts : ts[k]? = some 22) (hds : ds[k]? = some d) :
    ∃ us : List (Ev × Value), HoldsU w v us ∧ DepsU w us ∧ WideU us := by
  have hr : reachBytes = 140737488351232 := by decide
  have hc0 : Tryz.prog.cellsOf 92 = 38 := by kernel_rfl
  obtain ⟨a1, len, cap, rfl⟩ := okWide_slice Tryz.underlying22 hv
  obtain ⟨fuel, hf⟩ := h
  rcases Go.Deep.open_slice Tryz.underlying22 hf with ⟨hcs, -⟩ | ⟨a, len', cap', m, n, D, Pl, hcs, _, hl, hm, hmm, hx, hrow⟩
  · simp [Value.cells] at hcs
    obtain ⟨rfl, rfl, rfl⟩ := hcs
    exact ⟨[], holdsU_nil w, (fun x h => by cases h), fun x h => by cases h⟩
  · simp [Value.cells] at hcs
    obtain ⟨rfl, rfl, rfl⟩ := hcs
    have hlm : len ≤ m := by rw [hmm]; split <;> omega
    have hd : d = .slice ((List.range len).map D) ((List.range (m - len)).map fun j => D (len + j)) := congrArg Prod.fst hx
    have each : ∀ i, i < len → ∃ y : Ev × Value, (∀ j u, (evC y.1 y.2)[j]? = some u → w.cell? (a.add (i * 38 + j)) = some u) ∧ HasDots w y.2 y.1.deps ∧ I64 y.1.r ∧ I64 y.1.q ∧ y.1.path.length < 1152921504606846976 := fun i hi => by
      obtain ⟨cs', h1, h2⟩ := hrow i (by omega)
      rw [hc0] at h1
      obtain ⟨_, hlen, hcell⟩ := World.cells?_some h1
      obtain ⟨e, u, hcs, g1, g2, g3, dd, g4, g5⟩ := open_event_cells hlen h2
      clear h1 h2
      refine ⟨(e, u), fun j z hz => ?_, g1, g2, g3, ?_⟩
      · have hj : j < 38 := by have := (Array.getElem?_eq_some_iff.1 hz).1; rw [evC_size] at this; exact this
        have hh := hcell j hj
        rw [Go.Deep.add_add] at hh
        rw [hh, hcs, Array.getElem?_toList, hz]
      · have hw := sized_elemE (parts := dd) hreach hts (by rw [hds, hd]) Tryz.underlying22 Tryz.underlying92 (List.mem_map.2 ⟨i, by simpa using hi, g4⟩)
        have w0 := sized_string hw (j := 3) (t := 9) rfl g5
        rw [hr, show (str e.path).data.toList = e.path from by simp [str]] at w0
        show e.path.length < _
        omega
    haveI : Inhabited (Ev × Value) := ⟨(⟨0, 0, [], 0, [], fun _ => 0#32, 0⟩, .slice none 0 0)⟩
    obtain ⟨y, hy⟩ := Go.Deep.choose_lt each
    have hulen : ((List.range len).map y).length = len := by simp
    refine ⟨(List.range len).map y, ⟨some a, cap, by rw [hulen], (fun h => by cases h), fun ad had => ⟨by rw [hulen]; exact hl, fun j u hu => ?_⟩⟩, fun x hx => ?_, fun x hx => ?_⟩
    · cases had
      obtain ⟨i, z, q, h1, h2, h3⟩ := evsC_inv _ j u hu
      have hi : i < len := by have := (List.getElem?_eq_some_iff.1 h1).1; simpa using this
      rw [List.getElem?_map, List.getElem?_range hi] at h1
      obtain rfl := Option.some.inj h1
      rw [h2]
      exact (hy i hi).1 q u h3
    · obtain ⟨i, hi, rfl⟩ := List.mem_map.1 hx
      exact (hy i (by simpa using hi)).2.1
    · obtain ⟨i, hi, rfl⟩ := List.mem_map.1 hx
      exact (hy i (by simpa using hi)).2.2
end Go.Proofs.YtppmbdpfledejaaGreatDoor
namespace Go.Proofs.YtppmbdpfledejaaGreatDoor
section
variable {α : Type} (key : α → List UInt8)
def ltK (x y : α) : Bool := Op.bytesLess (key x) (key y)
def leK (x y : α) : Prop := ltK key y x = false
def SortedK (l : List α) : Prop := l.Pairwise (leK key)
def fltK (l : List α) (p : List UInt8) : List α := l.filter fun x => key x == p
/-- Sorted, and of each key in turn as they stood. -/
def StableK (l l' : List α) : Prop := SortedK key l' ∧ (∀ p, fltK key l' p = fltK key l p) ∧ l'.length = l.length
variable {key}
theorem leK_refl (x : α) : leK key x x := bytesLess_irrefl _
theorem leK_trans {x y z : α} (h1 : leK key x y) (h2 : leK key y z) : leK key x z := by
  unfold leK ltK at *
  cases h : Op.bytesLess (key z) (key x) with
  | false => rfl
  | true =>
    rcases cmpB_cases (key x) (key y) with ⟨-, e⟩ | ⟨-, h3, -⟩ | ⟨-, h3, -⟩
    · rw [e] at h; rw [h] at h2; cases h2
    · have := bl_trans _ _ _ h h3; rw [h2] at this; cases this
    · rw [h1] at h3; cases h3
theorem ltK_le {x y : α} (h : ltK key x y = true) : leK key x y := bl_asymm h
theorem ltK_leK {x y z : α} (h1 : ltK key x y = true) (h2 : leK key y z) : ltK key x z = true := by
  unfold leK ltK at *
  rcases cmpB_cases (key y) (key z) with ⟨-, e⟩ | ⟨-, h3, -⟩ | ⟨-, h3, -⟩
  · rw [← e]; exact h1
  · exact bl_trans _ _ _ h1 h3
  · rw [h2] at h3; cases h3
theorem leK_ltK {x y z : α} (h1 : leK key x y) (h2 : ltK key y z = true) : ltK key x z = true := by
  unfold leK ltK at *
  rcases cmpB_cases (key x) (key y) with ⟨-, e⟩ | ⟨-, h3, -⟩ | ⟨-, h3, -⟩
  · rw [e]; exact h2
  · exact bl_trans _ _ _ h3 h2
  · rw [h1] at h3; cases h3
theorem leK_anti {x y : α} (h1 : leK key x y) (h2 : leK key y x) : key x = key y := bl_tri _ _ h2 h1
theorem fltK_append (a b : List α) (p : List UInt8) : fltK key (a ++ b) p = fltK key a p ++ fltK key b p := List.filter_append ..
theorem fltK_cons_eq (x : α) (l : List α) : fltK key (x :: l) (key x) = x :: fltK key l (key x) := by unfold fltK; rw [List.filter_cons]; simp
theorem mem_fltK {l : List α} {p : List UInt8} {x : α} : x ∈ fltK key l p ↔ x ∈ l ∧ key x = p := by unfold fltK; rw [List.mem_filter]; simp
theorem mem_of_flt {a b : List α} (h : ∀ p, fltK key a p = fltK key b p) {x : α} (hx : x ∈ a) : x ∈ b := by
  have h1 : x ∈ fltK key a (key x) := mem_fltK.2 ⟨hx, rfl⟩
  rw [h] at h1
  exact (mem_fltK.1 h1).1
theorem sorted_one : ∀ {a b : List α}, SortedK key a → SortedK key b → (∀ p, fltK key a p = fltK key b p) → a = b
  | [], [], _, _, _ => rfl
  | [], y :: b, _, _, h => by have := mem_of_flt (fun p => (h p).symm) (x := y) (by simp); cases this
  | x :: a, [], _, _, h => by have := mem_of_flt h (x := x) (by simp); cases this
  | x :: a, y :: b, ha, hb, h => by
    obtain ⟨a1, a2⟩ := List.pairwise_cons.1 ha
    obtain ⟨b1, b2⟩ := List.pairwise_cons.1 hb
    have le1 : leK key x y := by
      rcases List.mem_cons.1 (mem_of_flt (fun p => (h p).symm) (x := y) (by simp)) with e | e
      · rw [e]; exact leK_refl _
      · exact a1 y e
    have le2 : leK key y x := by
      rcases List.mem_cons.1 (mem_of_flt h (x := x) (by simp)) with e | e
      · rw [e]; exact leK_refl _
      · exact b1 x e
    have hk := leK_anti le1 le2
    have h1 := h (key x)
    have h2 : fltK key (y :: b) (key x) = y :: fltK key b (key x) := by rw [hk]; exact fltK_cons_eq y b
    rw [fltK_cons_eq, h2] at h1
    obtain ⟨rfl, -⟩ := List.cons.inj h1
    refine congrArg (x :: ·) (sorted_one a2 b2 fun p => ?_)
    have h3 := h p
    unfold fltK at h3 ⊢
    rw [List.filter_cons, List.filter_cons] at h3
    split at h3
    · exact (List.cons.inj h3).2
    · exact h3
theorem stable_one {l a b : List α} (ha : StableK key l a) (hb : StableK key l b) : a = b := sorted_one ha.1 hb.1 fun p => (ha.2.1 p).trans (hb.2.1 p).symm
theorem stable_mem {l a : List α} (h : StableK key l a) {x : α} : x ∈ a ↔ x ∈ l := ⟨mem_of_flt h.2.1, mem_of_flt fun p => (h.2.1 p).symm⟩
theorem stable_nil : StableK key ([] : List α) [] := ⟨List.Pairwise.nil, fun _ => rfl, rfl⟩
theorem stable_sorted {l : List α} (h : SortedK key l) : StableK key l l := ⟨h, fun _ => rfl, rfl⟩
/-- What is strictly above may be passed. -/
theorem flt_pass {a b : List α} (h : ∀ x ∈ a, ∀ y ∈ b, ltK key y x = true) (p : List UInt8) : fltK key (a ++ b) p = fltK key (b ++ a) p := by
  rw [fltK_append, fltK_append]
  by_cases ha : fltK key a p = []
  · rw [ha]; simp
  · have hb : fltK key b p = [] := by
      cases hq : fltK key b p with
      | nil => rfl
      | cons y t =>
        obtain ⟨x, hx⟩ := List.exists_mem_of_ne_nil _ ha
        have h1 := mem_fltK.1 hx
        have h2 := mem_fltK.1 (show y ∈ fltK key b p by rw [hq]; simp)
        have h3 := h x h1.1 y h2.1
        unfold ltK at h3
        rw [h1.2, h2.2, bytesLess_irrefl] at h3; cases h3
    rw [hb]; simp
theorem sorted_append {a b : List α} : SortedK key (a ++ b) ↔ SortedK key a ∧ SortedK key b ∧ ∀ x ∈ a, ∀ y ∈ b, leK key x y := by
  unfold SortedK; rw [List.pairwise_append]
/-- Two sorted lists, cut so that what stands behind the one's cut is above what stands ahead of the other one's. -/
theorem stable_cut {L1 L2 R1 R2 S1 S2 : List α} (h1 : SortedK key (L1 ++ L2)) (h2 : SortedK key (R1 ++ R2)) (h3 : ∀ x ∈ L2, ∀ y ∈ R1, ltK key y x = true) (h4 : ∀ x ∈ L1, ∀ y ∈ R2, leK key x y) (s1 : StableK key (L1 ++ R1) S1) (s2 : StableK key (L2 ++ R2) S2) :
    StableK key (L1 ++ L2 ++ (R1 ++ R2)) (S1 ++ S2) := by
  obtain ⟨a1, a2, a3⟩ := sorted_append.1 h1
  obtain ⟨b1, b2, b3⟩ := sorted_append.1 h2
  refine ⟨sorted_append.2 ⟨s1.1, s2.1, fun x hx y hy => ?_⟩, fun p => ?_, ?_⟩
  · have hx := List.mem_append.1 ((stable_mem s1).1 hx)
    have hy := List.mem_append.1 ((stable_mem s2).1 hy)
    rcases hx with hx | hx <;> rcases hy with hy | hy
    · exact a3 x hx y hy
    · exact h4 x hx y hy
    · exact ltK_le (h3 y hy x hx)
    · exact b3 x hx y hy
  · rw [fltK_append, s1.2.1, s2.2.1]
    have := flt_pass h3 p
    simp only [fltK_append] at this ⊢
    simp only [List.append_assoc]
    rw [← List.append_assoc (fltK key R1 p), ← this]
    simp only [List.append_assoc]
  · rw [List.length_append, s1.2.2, s2.2.2]; simp only [List.length_append]; omega
/-- One, put into what is sorted behind it. -/
theorem stable_left {x : α} {A B : List α} (h : SortedK key (A ++ B)) (h1 : ∀ y ∈ A, ltK key y x = true) (h2 : ∀ y ∈ B, leK key x y) : StableK key (x :: (A ++ B)) (A ++ x :: B) := by
  obtain ⟨a1, a2, a3⟩ := sorted_append.1 h
  refine ⟨sorted_append.2 ⟨a1, List.pairwise_cons.2 ⟨h2, a2⟩, fun y hy z hz => ?_⟩, fun p => ?_, by simp; omega⟩
  · rcases List.mem_cons.1 hz with rfl | hz
    · exact ltK_le (h1 y hy)
    · exact a3 y hy z hz
  · have := flt_pass (a := [x]) (b := A) (fun u hu y hy => by rw [List.mem_singleton.1 hu]; exact h1 y hy) p
    rw [show A ++ x :: B = (A ++ [x]) ++ B by simp, show x :: (A ++ B) = ([x] ++ A) ++ B by simp, fltK_append (A ++ [x]) B, fltK_append ([x] ++ A) B, this]
/-- One, put into what is sorted ahead of it. -/
theorem stable_right {y : α} {A B : List α} (h : SortedK key (A ++ B)) (h1 : ∀ x ∈ A, leK key x y) (h2 : ∀ x ∈ B, ltK key y x = true) : StableK key (A ++ B ++ [y]) (A ++ y :: B) := by
  obtain ⟨a1, a2, a3⟩ := sorted_append.1 h
  refine ⟨sorted_append.2 ⟨a1, List.pairwise_cons.2 ⟨fun z hz => ltK_le (h2 z hz), a2⟩, fun x hx z hz => ?_⟩, fun p => ?_, by simp⟩
  · rcases List.mem_cons.1 hz with rfl | hz
    · exact h1 x hx
    · exact a3 x hx z hz
  · have := flt_pass (a := B) (b := [y]) (fun x hx u hu => by rw [List.mem_singleton.1 hu]; exact h2 x hx) p
    rw [List.append_assoc, fltK_append A (y :: B), fltK_append A (B ++ [y]), this]; rfl
end
end Go.Proofs.YtppmbdpfledejaaGreatDoor
namespace Go.Proofs.YtppmbdpfledejaaGreatDoor
open Go.RowKit
/-- An exit as Q has it, but for the ordinary one. -/
def exitOr (Q : Exit → Act → World → Prop) (K : Act → World → Prop) : Exit → Act → World → Prop
  | .normal => K
  | e => Q e
def OpH (P : Program) (md : Region.Mode) (ops : Array Oper) (Q : Exit → Act → World → Prop) (S : World → Prop) (fuel : Nat) (listed : Array Bool) (a : Act) (w : World) (i : Nat) : Prop :=
  wpOp P ops Q i (fun a' w' => S w' ∧ wpAnyH P md ops Q S fuel (listed.setIfInBounds i true) a' w') a w
section
variable {P : Program} {md : Region.Mode} {ops : Array Oper} {Q : Exit → Act → World → Prop} {S : World → Prop} {fuel : Nat} {listed : Array Bool} {a : Act} {w : World}
theorem ready_one (i : Nat) (hr : Region.ready md ops listed = [i]) (h : OpH P md ops Q S fuel listed a w i) : wpAnyH P md ops Q S (fuel + 1) listed a w :=
  wpAnyH_all hr (by simp) fun j hj => by rw [List.mem_singleton.1 hj]; exact h
theorem ready_two (i j : Nat) (hr : Region.ready md ops listed = [i, j]) (h1 : OpH P md ops Q S fuel listed a w i) (h2 : OpH P md ops Q S fuel listed a w j) : wpAnyH P md ops Q S (fuel + 1) listed a w :=
  wpAnyH_all hr (by simp) fun k hk => by
    rcases List.mem_cons.1 hk with rfl | hk
    · exact h1
    · rw [List.mem_singleton.1 hk]; exact h2
theorem letsOut_or {K : Act → World → Prop} (h : LetsOut (exitOr Q K)) : LetsOut Q := h
theorem opH_list {i : Nat} {o : Oper} (hoi : ops[i]? = some o) (h : wpList P ops (exitOr Q (fun a' w' => S w' ∧ wpAnyH P md ops Q S fuel (listed.setIfInBounds i true) a' w')) [o] a w) : OpH P md ops Q S fuel listed a w i := by
  unfold OpH wpOp
  rw [hoi]
  dsimp only
  unfold wpList at h
  split
  · rename_i hw
    rw [if_pos hw] at h
    refine h.imp (fun h => ?_) (fun ⟨h1, h2⟩ => ⟨h1, letsOut_or h2⟩)
    unfold Oper.wp at *
    generalize (execOp a.eval o).run P w = r at *
    cases r with
    | ok n w' =>
      cases n <;> simp only [Oper.upon] at h ⊢
      case value u => exact h
      case skip => exact h
      case defer d => exact h
      case enter f args => exact Calls.mono h fun e w'' he => by cases e <;> exact he
      case row row args => exact Rows.mono h fun u w'' he => he
      all_goals exact h
    | halt x w' => cases x <;> simp only [Oper.upon] at h ⊢ <;> exact h
  · rename_i hw
    rw [if_neg hw] at h
    exact h
theorem opH_end {i : Nat} (h1 : S w) (h2 : wpAnyH P md ops Q S fuel (listed.setIfInBounds i true) a w) : wpList P ops (exitOr Q (fun a' w' => S w' ∧ wpAnyH P md ops Q S fuel (listed.setIfInBounds i true) a' w')) [] a w := ⟨h1, h2⟩
theorem opH_call1 {i : Nat} {o : Oper} (hoi : ops[i]? = some o) (hw : Region.wanted o (yielded ops a.tmps) = true) (f : FuncId) (c x : Operand) (t : TypeId) (ho : o.op = .call { callee := .value c, args := #[x], argTypes := #[t] }) (hc : a.eval c = .func (.func f) #[] #[])
    (v : Value) (hx : a.eval x = v) (eg : ∀ vs w, (callFunc f vs).run P w = .ok (.enter f vs) w) (Post : Ending → World → Prop) (hcall : Calls P f #[v] w Post)
    (h : ∀ e w', Post e w' → ∃ r, e = .returned r ∧ S w' ∧ wpAnyH P md ops Q S fuel (listed.setIfInBounds i true) (a.put o.dst r) w') : OpH P md ops Q S fuel listed a w i := by
  refine wpOp_step hoi fun K hK => ?_
  rw [if_pos hw]
  have hr : (execOp a.eval o).run P w = .ok (.enter f #[v]) w := by simp [execOp, ho, resolve, invoke, Deferred.ofValue, hx, hc, eg]
  unfold Oper.wp
  rw [hr]
  exact hcall.mono fun e w' hp => by
    obtain ⟨r, rfl, h1, h2⟩ := h e w' hp
    exact hK _ _ ⟨h1, h2⟩
theorem opH_call2 {i : Nat} {o : Oper} (hoi : ops[i]? = some o) (hw : Region.wanted o (yielded ops a.tmps) = true) (f : FuncId) (c x y : Operand) (t u : TypeId) (ho : o.op = .call { callee := .value c, args := #[x, y], argTypes := #[t, u] }) (lb : Array Value) (hc : a.eval c = .func (.func f) #[] lb)
    (v z : Value) (hx : a.eval x = v) (hy : a.eval y = z) (eg : ∀ vs w, (callFunc f vs).run P w = .ok (.enter f vs) w) (Post : Ending → World → Prop) (hcall : Calls P f (#[v, z] ++ lb) w Post)
    (h : ∀ e w', Post e w' → ∃ r, e = .returned r ∧ S w' ∧ wpAnyH P md ops Q S fuel (listed.setIfInBounds i true) (a.put o.dst r) w') : OpH P md ops Q S fuel listed a w i := by
  refine wpOp_step hoi fun K hK => ?_
  rw [if_pos hw]
  have hr : (execOp a.eval o).run P w = .ok (.enter f (#[v, z] ++ lb)) w := by simp [execOp, ho, resolve, invoke, Deferred.ofValue, hx, hy, hc, eg]
  unfold Oper.wp
  rw [hr]
  exact hcall.mono fun e w' hp => by
    obtain ⟨r, rfl, h1, h2⟩ := h e w' hp
    exact hK _ _ ⟨h1, h2⟩
end
end Go.Proofs.YtppmbdpfledejaaGreatDoor
namespace Go.Proofs.YtppmbdpfledejaaGreatDoor
open Go.RowKit
/-- What is shown: where, of which dot, with which digest and size. -/
structure Sh where
  path : List UInt8
  r : Int
  q : Int
  sum : Nat → BitVec 32
  size : Int
def shC (s : Sh) : Array Value := #[.string (str s.path), .int .i64 s.r, .int .i64 s.q] ++ row .u8 32 s.sum ++ #[.int .i64 s.size]
theorem shC_size (s : Sh) : (shC s).size = 36 := by simp [shC, row_size]
theorem shC_len (s : Sh) : (shC s).toList.length = 36 := by rw [Array.length_toList, shC_size]
theorem shC_at (s : Sh) : (shC s)[0]? = some (.string (str s.path)) ∧ (shC s)[1]? = some (.int .i64 s.r) ∧ (shC s)[2]? = some (.int .i64 s.q) ∧ (shC s)[35]? = some (.int .i64 s.size) := by
  refine ⟨?_, ?_, ?_, ?_⟩
  iterate 3 simp [shC, row_size]
  unfold shC
  rw [Array.getElem?_append_right (by simp [row_size])]
  simp [row_size]
theorem shC_one (s : Sh) : (shC s).all (·.oneCell') = true := by
  have hr := row_one .u8 32 s.sum
  rw [Array.all_eq_true_iff_forall_mem] at hr ⊢
  intro x hx
  unfold shC at hx
  rcases Array.mem_append.1 hx with hx | hx
  · rcases Array.mem_append.1 hx with hx | hx
    · simp only [List.mem_toArray, List.mem_cons, List.not_mem_nil, or_false] at hx
      rcases hx with rfl | rfl | rfl <;> rfl
    · exact hr x hx
  · simp only [List.mem_toArray, List.mem_cons, List.not_mem_nil, or_false] at hx
    subst hx; rfl
def shsC : List Sh → List Value
  | [] => []
  | s :: t => (shC s).toList ++ shsC t
theorem shsC_length (l : List Sh) : (shsC l).length = l.length * 36 := by
  induction l with
  | nil => rfl
  | cons x t ih => rw [shsC, List.length_append, shC_len, ih, List.length_cons]; omega
theorem shsC_append (a b : List Sh) : shsC (a ++ b) = shsC a ++ shsC b := by
  induction a with
  | nil => rfl
  | cons x t ih => rw [List.cons_append, shsC, shsC, ih, List.append_assoc]
theorem shsC_one (l : List Sh) : ∀ u ∈ shsC l, u.oneCell' = true := by
  induction l with
  | nil => intro u hu; cases hu
  | cons x t ih =>
    intro u hu
    rw [shsC] at hu
    rcases List.mem_append.1 hu with hu | hu
    · exact (Array.all_eq_true_iff_forall_mem.1 (shC_one x)) u (by simpa using hu)
    · exact ih u hu
theorem shsC_at (l : List Sh) : ∀ k s, l[k]? = some s → ∀ j u, (shC s)[j]? = some u → (shsC l)[k * 36 + j]? = some u := by
  induction l with
  | nil => intro k x h; simp at h
  | cons y t ih =>
    intro k x h j u hu
    rw [shsC]
    cases k with
    | zero =>
      simp at h; subst h
      have hj : j < 36 := by have := (Array.getElem?_eq_some_iff.1 hu).1; rwa [shC_size] at this
      rw [List.getElem?_append_left (by rw [shC_len]; omega), Array.getElem?_toList, show 0 * 36 + j = j by omega]; exact hu
    | succ k =>
      rw [List.getElem?_append_right (by rw [shC_len]; omega), shC_len, show (k + 1) * 36 + j - 36 = k * 36 + j by omega]
      exact ih k x (by simpa using h) j u hu
/-- Whose elements lie where: a slice of any memory. -/
def HoldsS (w : World) (v : Value) (l : List Sh) : Prop :=
  ∃ ao cap, v = .slice ao l.length cap ∧ (ao = none → l = [] ∧ cap = 0) ∧ ∀ ad, ao = some ad → l.length ≤ cap ∧ ∀ j u, (shsC l)[j]? = some u → w.cell? (ad.add j) = some u
theorem holdsS_nil (w : World) : HoldsS w (.slice none 0 0) [] := ⟨none, 0, rfl, fun _ => ⟨rfl, rfl⟩, fun _ h => by cases h⟩
theorem holdsS_below {w w' : World} {v : Value} {l : List Sh} (h : HoldsS w v l) (hb : Below w.heap.size w w') : HoldsS w' v l := by
  obtain ⟨ao, cap, rfl, hnil, hc⟩ := h
  refine ⟨ao, cap, rfl, hnil, fun ad had => ⟨(hc ad had).1, fun j u hu => ?_⟩⟩
  have h1 := (hc ad had).2 j u hu
  exact (World.cell?_of_block (hb.block (ad.add j).block (World.block_lt_of_cell? w _ h1))).trans h1
theorem holdsS_own {B : Nat} {T : TypeId} {w : World} {v : Value} {l : List Sh} (h : w.ownsRow B T 36 v l.length (shsC l)) : HoldsS w v l := by
  rcases h.2 with ⟨rfl, h0⟩ | ⟨g, cap, cur, rfl, rest⟩
  · obtain rfl : l = [] := List.eq_nil_of_length_eq_zero h0
    exact holdsS_nil w
  · exact ⟨some ⟨g, 0, none⟩, cap, rfl, (fun h => by cases h), fun ad had => ⟨rest.2.2.1, fun j u hu => by
      cases had; exact h.cells rfl j u hu⟩⟩
theorem holdsS_shape {w : World} {v : Value} {l : List Sh} (h : HoldsS w v l) (n : Nat) (hn : n = l.length) : ∃ ao cap, v = .slice ao n cap := by
  obtain ⟨ao, cap, rfl, -⟩ := h
  exact ⟨ao, cap, by rw [hn]⟩
theorem holdsS_at {w : World} {v : Value} {l : List Sh} (h : HoldsS w v l) (n k : Nat) (hn : l.length = n) (s : Sh) (hs : l[k]? = some s) : ∃ ad cap, v = .slice (some ad) n cap ∧ ∀ j u, (shC s)[j]? = some u → w.cell? ((ad.add (k * 36)).add j) = some u := by
  obtain ⟨ao, cap, rfl, hnil, hc⟩ := h
  cases ao with
  | none => obtain ⟨rfl, _⟩ := hnil rfl; simp at hs
  | some ad => exact ⟨ad, cap, by rw [hn], fun j y hy => by rw [addr_add2]; exact (hc ad rfl).2 _ _ (shsC_at l k s hs j y hy)⟩
/-- One loaded from wherever its cells lie. -/
theorem sh_run {P : Program} {o : Oper} {a : Act} {w : World} (ty : TypeId) (x : Operand) (ho : o.op = .load ty x) (A : Addr) (hx : a.eval x = .pointer (some A)) {s : Sh} {fs : Array Field} (hu : P.underlying ty = some (.struct fs))
    (hi : (P.info? ty).map (·.size) = some 36) (hc : ∀ j u, (shC s)[j]? = some u → w.cell? (A.add j) = some u) : (execOp a.eval o).run P w = .ok (.value (.agg (shC s))) w := by
  have hl : (loadCells A (shC s).toList.length).run P w = .ok (shC s).toList.toArray w := run_loadCells_list (P := P) w A _ (fun j u hj => hc j u (by rwa [Array.getElem?_toList] at hj))
  rw [shC_len, Array.toArray_toList] at hl
  cases hq : P.info? ty with
  | none => simp [hq] at hi
  | some i =>
    have hs : i.size = 36 := by simpa [hq] using hi
    unfold execOp
    simp [ho, hx, Instr.loadAt, Instr.sureAddr, loadVar, isAgg, run_underlying hu, sizeOf, typeInfo, hq, hs, hl]
theorem shA_yields {P : Program} {ops : Array Oper} {S : World → Prop} {o : Oper} {a : Act} (hw : Region.wanted o (yielded ops a.tmps) = true) (ty : TypeId) (x : Operand) (ho : o.op = .load ty x) (A : Addr) (hx : a.eval x = .pointer (some A)) {s : Sh} {fs : Array Field}
    (hu : P.underlying ty = some (.struct fs)) (hi : (P.info? ty).map (·.size) = some 36) (hS : ∀ w, S w → ∀ j u, (shC s)[j]? = some u → w.cell? (A.add j) = some u) : YieldsIf P ops S o (.agg (shC s)) a :=
  .inl ⟨hw, fun w h => sh_run ty x ho A hx hu hi (hS w h)⟩
theorem load_shA_on {P : Program} {ops : Array Oper} {rest : List Oper} {o : Oper} {a : Act} {w : World} {Q : Exit → Act → World → Prop} (hw : Region.wanted o (yielded ops a.tmps) = true) (ty : TypeId) (x : Operand) (ho : o.op = .load ty x) (A : Addr) (hx : a.eval x = .pointer (some A)) {s : Sh} {fs : Array Field}
    (hu : P.underlying ty = some (.struct fs)) (hi : (P.info? ty).map (·.size) = some 36) (hc : ∀ j u, (shC s)[j]? = some u → w.cell? (A.add j) = some u)
    (h : wpList P ops Q rest (a.put o.dst (.agg (shC s))) w) : wpList P ops Q (o :: rest) a w := by
  refine wpList_step fun K hK => ?_
  rw [if_pos hw]
  unfold Oper.wp
  rw [sh_run ty x ho A hx hu hi hc]
  exact hK _ _ h
/-- Those that are shown, appended to a slice of the call's own. -/
theorem append_shs {P : Program} {w : World} {ops : Array Oper} {rest : List Oper} {o : Oper} {a : Act} {Q : Exit → Act → World → Prop} (hgd : o.guard = none) (s x : Operand) (t : TypeId)
    (ho : o.op = .call { callee := .builtin .append, args := #[s, x], argTypes := #[t, t] })
    (base : Nat) (e : TypeId) (i : TypeInfo) (ht : P.underlying t = some (.slice e)) (hi : P.info? e = some i) (hz : (i.zero.map (·.cells.size), i.size, i.bytes) = (some 36, 36, 72))
    (v : Value) (l ys : List Sh) (hs : a.eval s = v) (hown : w.ownsRow base e 36 v l.length (shsC l)) (ad : Addr) (m c : Nat) (hx : a.eval x = .slice (some ad) m c) (hm : m = ys.length)
    (hc : ∀ j u, (shsC ys)[j]? = some u → w.cell? (ad.add j) = some u) (hlen : l.length + ys.length ≤ 100000) (hbase : base ≤ w.heap.size)
    (h : ∀ v' w', w'.ownsRow base e 36 v' (l ++ ys).length (shsC (l ++ ys)) → w.grownBy w' v.ownBlock → wpList P ops Q rest (a.put o.dst v') w') : wpList P ops Q (o :: rest) a w := by
  simp only [Prod.mk.injEq] at hz
  obtain ⟨hz1, hz2, hz3⟩ := hz
  subst hm
  cases hzz : i.zero with
  | none => rw [hzz] at hz1; cases hz1
  | some z =>
    rw [hzz] at hz1
    simp only [Option.map_some, Option.some.injEq] at hz1
    refine wpList_append_own w hgd s x t ho base e i z 36 72 ht hi hzz hz2 hz3 hz1 (by decide) v l.length (shsC l) hs hown ad ys.length c (shsC ys) hx (by rw [shsC_length]) hc (shsC_one ys)
      (by unfold maxLen; omega) (by omega) hbase fun v' w' h1 h2 _ => h v' w' (by rw [shsC_append, List.length_append]; exact h1) h2
/-- One changed in its place, among the cells. -/
theorem shsC_set : ∀ (l : List Sh) (k : Nat) (s : Sh), k < l.length → splice (shsC l) (k * 36) (shC s).toList = shsC (l.set k s)
  | [], k, _, h => by simp at h
  | y :: t, 0, s, _ => by
    unfold splice
    rw [shsC, Nat.zero_mul, List.take_zero, List.nil_append, Nat.zero_add, List.drop_append, shC_len, shC_len, List.drop_of_length_le (by rw [shC_len]; exact Nat.le_refl _)]
    simp [shsC]
  | y :: t, k + 1, s, h => by
    have ih := shsC_set t k s (by simpa using h)
    unfold splice at ih ⊢
    rw [shsC, show (k + 1) * 36 = (shC y).toList.length + k * 36 by rw [shC_len]; omega, List.take_length_add_append, Nat.add_assoc, List.drop_length_add_append, List.append_assoc, ih]
    rfl
theorem splice_take {α : Type} (L cs : List α) (off m : Nat) (h : off + cs.length ≤ m) (hm : m ≤ L.length) : (splice L off cs).take m = splice (L.take m) off cs := by
  unfold splice
  rw [List.take_append, List.length_take, Nat.min_eq_left (by omega), List.take_append, List.take_take, Nat.min_eq_right (by omega), List.take_of_length_le (l := cs) (by omega), List.take_take, Nat.min_eq_left (by omega), List.drop_take]
  congr 3
  omega
/-- One stored in its place, in a slice of the call's own. -/
theorem store_sh {P : Program} {ops : Array Oper} {rest : List Oper} {o : Oper} {a : Act} {w : World} {Q : Exit → Act → World → Prop} (hgd : o.guard = none) (ty : TypeId) (x y : Operand) (ho : o.op = .store ty x y) (hd : o.dst = none)
    (B : Nat) (T : TypeId) (g n cap k : Nat) (l : List Sh) (hown : w.ownsRow B T 36 (.slice (some ⟨g, 0, none⟩) n cap) n (shsC l)) (hn : n = l.length) (hk : k < n) (off : Nat) (hoff : off = k * 36) (hx : a.eval x = .pointer (some ⟨g, off, none⟩)) (s : Sh) (hy : a.eval y = .agg (shC s))
    (hi : (P.info? ty).map (·.size) = some 36) (h : ∀ w', w'.ownsRow B T 36 (.slice (some ⟨g, 0, none⟩) n cap) n (shsC (l.set k s)) → Solo g w w' → wpList P ops Q rest a w') : wpList P ops Q (o :: rest) a w := by
  subst hoff
  rcases hown.2 with ⟨h0, -⟩ | ⟨g', cap', cur, e, h1, h2, h3, h4, h5, h6⟩
  · cases h0
  · simp only [Value.slice.injEq, Option.some.injEq, Addr.mk.injEq] at e
    obtain ⟨⟨rfl, -⟩, -, rfl⟩ := e
    have hcl : cur.toList.length = cap * 36 := by rw [Array.length_toList, h5]
    have hfit : k * 36 + (shC s).toList.length ≤ cur.toList.length := by rw [shC_len, hcl]; omega
    refine store_in hgd ty x y ho hd g (k * 36) cur.toList (shC s).toList T (by rw [Array.toArray_toList]; exact h2) hx (by rw [hy, Array.toArray_toList]) (by rw [hi, shC_len]) hfit (fun v hv => (Array.all_eq_true_iff_forall_mem.1 (shC_one s)) v (by simpa using hv)) fun w' hg hs => h w' ?_ hs
    refine ⟨by rw [shsC_length, List.length_set, hn], .inr ⟨g, cap, _, rfl, h1, hg, h3, h4, ?_, ?_⟩⟩
    · rw [List.size_toArray, length_splice _ _ _ hfit, hcl]
    · rw [List.toList_toArray, splice_take _ _ _ _ (by rw [shC_len]; omega) (by rw [hcl]; exact Nat.mul_le_mul_right 36 h3), h6, shsC_set l k s (by omega)]
end Go.Proofs.YtppmbdpfledejaaGreatDoor
namespace Go.Proofs.YtppmbdpfledejaaGreatDoor
open Go.RowKit
theorem addr_zeroP (a : Addr) : a.add 0 = a := by unfold Addr.add; split <;> simp_all
theorem evsC_take_drop (us : List (Ev × Value)) (i : Nat) : evsC us = evsC (us.take i) ++ evsC (us.drop i) := by rw [← evsC_append, List.take_append_drop]
/-- What lies ahead of a place. -/
theorem slice_lo {P : Program} {w : World} {t : TypeId} (ht : P.underlying t = some (.slice (P.elem t))) (hz : ∀ w, (sizeOf (P.elem t)).run P w = .ok 38 w) {v : Value} {us : List (Ev × Value)} (h : HoldsU w v us) (i : Nat) (hi : i ≤ us.length) :
    ∃ v', (Instr.sliceAt t v none (some (.int .i64 (i : Int))) none).run P w = .ok v' w ∧ HoldsU w v' (us.take i) := by
  obtain ⟨ao, cap, rfl, hnil, hc⟩ := id h
  have hcap : us.length ≤ cap := by
    cases ao with
    | none => obtain ⟨h1, h2⟩ := hnil rfl; rw [h1]; simp
    | some ad => exact (hc ad rfl).1
  refine ⟨sliced ao 0 i cap 38, ?_, ?_⟩
  · rw [run_sliceAt_slice _ _ _ _ _ _ ht, run_slice_h _ _ _ _ _ ht _ _ (by omega) (by omega), hz]
    simp [Result.andThen]
  · unfold sliced
    have e1 : (if cap = 0 then ao else ao.map (·.add (0 * 38))) = ao := by
      split
      · rfl
      · cases ao with
        | none => rfl
        | some ad => simp [addr_zeroP]
    rw [e1]
    have hl : (us.take i).length = i := by rw [List.length_take]; omega
    refine ⟨ao, cap, by rw [hl]; rfl, fun h => ?_, fun ad had => ⟨by omega, fun j u hu => (hc ad had).2 j u ?_⟩⟩
    · obtain ⟨h1, h2⟩ := hnil h
      exact ⟨by rw [h1]; simp, h2⟩
    · rw [evsC_take_drop us i, List.getElem?_append_left (List.getElem?_eq_some_iff.1 hu).1]
      exact hu
/-- What lies behind it. -/
theorem slice_hi {P : Program} {w : World} {t : TypeId} (ht : P.underlying t = some (.slice (P.elem t))) (hz : ∀ w, (sizeOf (P.elem t)).run P w = .ok 38 w) {v : Value} {us : List (Ev × Value)} (h : HoldsU w v us) (i : Nat) (hi : i ≤ us.length) :
    ∃ v', (Instr.sliceAt t v (some (.int .i64 (i : Int))) none none).run P w = .ok v' w ∧ HoldsU w v' (us.drop i) := by
  obtain ⟨ao, cap, rfl, hnil, hc⟩ := id h
  refine ⟨sliced ao i us.length cap 38, ?_, ?_⟩
  · rw [run_sliceAt_slice _ _ _ _ _ _ ht, run_slice_l _ _ _ _ _ ht _ _ (by omega) (by omega), hz]
    simp [Result.andThen]
  · unfold sliced
    have hl : (us.drop i).length = us.length - i := by rw [List.length_drop]
    cases ao with
    | none =>
      obtain ⟨h1, h2⟩ := hnil rfl
      subst h1
      subst h2
      simp only [List.length_nil, Nat.zero_sub, Option.map_none, ite_self, List.drop_nil]
      exact holdsU_nil w
    | some ad =>
      have hcap := (hc ad rfl).1
      by_cases hci : cap = i
      · rw [if_pos hci]
        have h0 : us.drop i = [] := List.drop_eq_nil_of_le (by omega)
        rw [h0]
        exact ⟨some ad, cap - i, by rw [show us.length - i = 0 by omega]; rfl, (fun h => by cases h), fun b hb => ⟨by simp, fun j u hu => by simp [evsC] at hu⟩⟩
      · rw [if_neg hci]
        refine ⟨some (ad.add (i * 38)), cap - i, by rw [hl]; rfl, (fun h => by cases h), fun b hb => ⟨by omega, fun j u hu => ?_⟩⟩
        cases hb
        rw [addr_add2]
        refine (hc ad rfl).2 _ _ ?_
        rw [evsC_take_drop us i, List.getElem?_append_right (by rw [evsC_length, List.length_take]; omega)]
        rw [evsC_length, List.length_take, show i * 38 + j - min i us.length * 38 = j by rw [Nat.min_eq_left hi]; omega]
        exact hu
theorem wpList_slice_lo {P : Program} {w : World} {ops : Array Oper} {rest : List Oper} {o : Oper} {a : Act} {Q : Exit → Act → World → Prop} (hg : o.guard = none) (s x : Operand) (t : TypeId) (ho : o.op = .slice t s none (some x) none)
    (ht : P.underlying t = some (.slice (P.elem t))) (hz : ∀ w, (sizeOf (P.elem t)).run P w = .ok 38 w) (v : Value) (us : List (Ev × Value)) (hs : a.eval s = v) (i : Nat) (hx : a.eval x = .int .i64 (i : Int)) (h : HoldsU w v us) (hi : i ≤ us.length)
    (hK : ∀ v', HoldsU w v' (us.take i) → wpList P ops Q rest (a.put o.dst v') w) : wpList P ops Q (o :: rest) a w := by
  refine wpList_plain hg fun K' hK' => ?_
  obtain ⟨v', hrun, h'⟩ := slice_lo ht hz h i hi
  unfold Oper.wp
  simp [execOp, ho, hs, hx, hrun, Result.andThen]
  exact hK' _ _ (hK v' h')
theorem wpList_slice_hi {P : Program} {w : World} {ops : Array Oper} {rest : List Oper} {o : Oper} {a : Act} {Q : Exit → Act → World → Prop} (hg : o.guard = none) (s x : Operand) (t : TypeId) (ho : o.op = .slice t s (some x) none none)
    (ht : P.underlying t = some (.slice (P.elem t))) (hz : ∀ w, (sizeOf (P.elem t)).run P w = .ok 38 w) (v : Value) (us : List (Ev × Value)) (hs : a.eval s = v) (i : Nat) (hx : a.eval x = .int .i64 (i : Int)) (h : HoldsU w v us) (hi : i ≤ us.length)
    (hK : ∀ v', HoldsU w v' (us.drop i) → wpList P ops Q rest (a.put o.dst v') w) : wpList P ops Q (o :: rest) a w := by
  refine wpList_plain hg fun K' hK' => ?_
  obtain ⟨v', hrun, h'⟩ := slice_hi ht hz h i hi
  unfold Oper.wp
  simp [execOp, ho, hs, hx, hrun, Result.andThen]
  exact hK' _ _ (hK v' h')
/-- Any slice of events appended to one of the call's own. -/
theorem append_us {P : Program} {w : World} {ops : Array Oper} {rest : List Oper} {o : Oper} {a : Act} {Q : Exit → Act → World → Prop} (hgd : o.guard = none) (s x : Operand) (t : TypeId)
    (ho : o.op = .call { callee := .builtin .append, args := #[s, x], argTypes := #[t, t] })
    (base : Nat) (e : TypeId) (i : TypeInfo) (ht : P.underlying t = some (.slice e)) (hi : P.info? e = some i) (hz : (i.zero.map (·.cells.size), i.size, i.bytes) = (some 38, 38, 104))
    (v : Value) (us ys : List (Ev × Value)) (hs : a.eval s = v) (hown : w.ownsRow base e 38 v us.length (evsC us)) (hone : ∀ y ∈ ys, y.2.oneCell' = true) (xv : Value) (hx : a.eval x = xv) (hxs : HoldsU w xv ys)
    (hlen : us.length + ys.length ≤ 100000) (hbase : base ≤ w.heap.size)
    (h : ∀ v' w', w'.ownsRow base e 38 v' (us ++ ys).length (evsC (us ++ ys)) → w.grownBy w' v.ownBlock → wpList P ops Q rest (a.put o.dst v') w') : wpList P ops Q (o :: rest) a w := by
  obtain ⟨ao, cap, rfl, hnil, hc⟩ := hxs
  cases ao with
  | none =>
    obtain ⟨rfl, rfl⟩ := hnil rfl
    refine wpList_append_own_none hgd s x t ho base e i 38 ht hi v us.length (evsC us) hs hown (by simpa using hx) ?_
    have := h v w (by simpa using hown) ⟨rfl, rfl, rfl, Nat.le_refl _, fun k _ _ => rfl⟩
    exact this
  | some ad => exact append_evs hgd s x t ho base e i ht hi hz v us ys hs hown hone ad ys.length cap hx rfl (hc ad rfl).2 hlen hbase h
theorem own_holds {w : World} {base : Nat} {e : TypeId} {v : Value} {us : List (Ev × Value)} (h : w.ownsRow base e 38 v us.length (evsC us)) : HoldsU w v us := by
  rcases h.2 with ⟨rfl, h0⟩ | ⟨g, cap, cur, rfl, h1, h2, h3, h4, h5, h6⟩
  · have h7 := List.eq_nil_of_length_eq_zero h0
    subst h7
    exact holdsU_nil w
  · refine ⟨some ⟨g, 0, none⟩, cap, rfl, (fun h => by cases h), fun ad had => ⟨h3, fun j u hu => ?_⟩⟩
    cases had
    rw [Addr.add_lit, Nat.zero_add]
    simp only [World.cell?, h2]
    rw [← Array.getElem?_toList]
    have hj := (List.getElem?_eq_some_iff.1 hu).1
    rw [← h6, List.getElem?_take_of_lt (by rw [evsC_length] at hj; exact hj)] at hu
    exact hu
theorem own_empty {w : World} {base B : Nat} {e : TypeId} (h : w.heap[B]? = some (.cells #[] e (0, 0))) (hb : base ≤ B) : w.ownsRow base e 38 (.slice (some ⟨B, 0, none⟩) 0 0) ([] : List (Ev × Value)).length (evsC []) :=
  ⟨rfl, .inr ⟨B, 0, #[], rfl, hb, h, Nat.le_refl _, Nat.zero_le _, rfl, rfl⟩⟩
end Go.Proofs.YtppmbdpfledejaaGreatDoor
namespace Go.Proofs.YtppmbdpfledejaaGreatDoor
open Go.RowKit
set_option maxRecDepth 100000 in
set_option maxHeartbeats 16000000 in
theorem refKnows_any12 (e f : Ev) (hl : e.deps.length < 2000000) (v u : Value) (w : World) (hv : HasDots w v e.deps) : Calls Tryz.prog 61 #[.agg (evC e v), .agg (evC f u)] w fun x w' => x = .returned (.bool (hasV e.deps f.r f.q)) ∧ Below w.heap.size w w' := by
  obtain ⟨h1, h2, h3⟩ := two_evs w 92 e f v u
  have E1 := Lib.hid h1
  have E2 := Lib.hid h2
  have B0 := Lib.hid h3
  have HH := Lib.hid (refHas_any10 e.deps hl f.r f.q v _ (dots_below hv h3))
  obtain ⟨-, -, c2, -, -, -⟩ := evAt_cells h1
  obtain ⟨ao, cap, rfl⟩ := dots_shape hv e.deps.length rfl
  clear h1 h2 h3 hv hl
  go_enter Tryz.func61, Tryz.ntmps61
  go_upto_region 1 with fail
  generalize (w.alloc (.cells (evC e (.slice ao e.deps.length cap)) 92 (0, 0))).alloc (.cells (evC f u) 92 (0, 0)) = W0 at *
  go_wp2_with (first
    | (refine load_dot10 (by rfl) 29 (.tmp 7) rfl ⟨w.heap.size + 1, 0, none⟩ rfl f.r f.q Tryz.underlying29 (by kernel_rfl) (evAt_dot E2.out) ?_)
    | (go_at_call 90; refine HH.out.mono ?_; rintro x w1 ⟨rfl, hb⟩; have B1 := Lib.hid (below_next B0.out hb); clear hb))
  go_ret
  exact ⟨rfl, B1.out⟩
set_option maxRecDepth 100000 in
set_option maxHeartbeats 16000000 in
theorem refCmp_any12 (e f : Ev) (v u : Value) (w : World) : Calls Tryz.prog 63 #[.agg (evC e v), .agg (evC f u)] w fun x w' => x = .returned (.int .i64 (cmpE e f)) ∧ Below w.heap.size w w' := by
  obtain ⟨h1, h2, h3⟩ := two_evs w 92 e f v u
  have E1 := Lib.hid h1
  have E2 := Lib.hid h2
  have B0 := Lib.hid h3
  obtain ⟨-, -, -, -, d4, -⟩ := evAt_cells h1
  obtain ⟨-, -, -, -, f4, -⟩ := evAt_cells h2
  have CD := Lib.hid (fun w => refCompare_any e.r e.q f.r f.q w)
  have s1 : (str e.path).toList = e.path := str_toList _
  have s2 : (str f.path).toList = f.path := str_toList _
  rcases cmpB_cases e.path f.path with ⟨hc, he⟩ | ⟨hc, hl, hn⟩ | ⟨hc, hl, hn⟩
  · have HR := Lib.hid (show cmpE e f = cmpD e.r e.q f.r f.q by rw [cmpE, if_pos hc])
    have q1 : Op.bytesLess e.path f.path = false := by rw [he]; exact bytesLess_irrefl _
    have q2 : (e.path == f.path) = true := by rw [he]; simp
    clear h1 h2 h3 hc he
    go_enter Tryz.func63, Tryz.ntmps63
    go_upto_region 1 with fail
    generalize (w.alloc (.cells (evC e v) 92 (0, 0))).alloc (.cells (evC f u) 92 (0, 0)) = W0 at *
    go_wp2_with (first
      | (refine load_dot10 (by rfl) 29 (.tmp 15) rfl ⟨w.heap.size, 0, none⟩ rfl e.r e.q Tryz.underlying29 (by kernel_rfl) (evAt_dot E1.out) ?_)
      | (refine load_dot10 (by rfl) 29 (.tmp 17) rfl ⟨w.heap.size + 1, 0, none⟩ rfl f.r f.q Tryz.underlying29 (by kernel_rfl) (evAt_dot E2.out) ?_)
      | (go_at_call 62; refine (CD.out _).mono ?_; rintro x w1 ⟨rfl, hb⟩; have B1 := Lib.hid (below_next B0.out hb); clear hb))
    go_ret
    exact ⟨by rw [HR.out]; rfl, B1.out⟩
  · have HR := Lib.hid (show cmpE e f = -1 by rw [cmpE, if_neg (by omega), hc])
    have q1 : Op.bytesLess e.path f.path = true := hl
    clear h1 h2 h3 hc hl hn
    go_enter Tryz.func63, Tryz.ntmps63
    go_upto_region 1 with fail
    generalize (w.alloc (.cells (evC e v) 92 (0, 0))).alloc (.cells (evC f u) 92 (0, 0)) = W0 at *
    go_wp2_with (first
      | (refine load_dot10 (by rfl) 29 (.tmp 15) rfl ⟨w.heap.size, 0, none⟩ rfl e.r e.q Tryz.underlying29 (by kernel_rfl) (evAt_dot E1.out) ?_)
      | (refine load_dot10 (by rfl) 29 (.tmp 17) rfl ⟨w.heap.size + 1, 0, none⟩ rfl f.r f.q Tryz.underlying29 (by kernel_rfl) (evAt_dot E2.out) ?_)
      | (go_at_call 62; refine (CD.out _).mono ?_; rintro x w1 ⟨rfl, hb⟩; have B1 := Lib.hid (below_next B0.out hb); clear hb))
    go_ret
    exact ⟨by rw [HR.out]; rfl, B0.out⟩
  · have HR := Lib.hid (show cmpE e f = 1 by rw [cmpE, if_neg (by omega), hc])
    have q1 : Op.bytesLess e.path f.path = false := bl_asymm hl
    have q2 : (e.path == f.path) = false := beq_eq_false_iff_ne.2 hn
    clear h1 h2 h3 hc hl hn
    go_enter Tryz.func63, Tryz.ntmps63
    go_upto_region 1 with fail
    generalize (w.alloc (.cells (evC e v) 92 (0, 0))).alloc (.cells (evC f u) 92 (0, 0)) = W0 at *
    go_wp2_with (first
      | (refine load_dot10 (by rfl) 29 (.tmp 15) rfl ⟨w.heap.size, 0, none⟩ rfl e.r e.q Tryz.underlying29 (by kernel_rfl) (evAt_dot E1.out) ?_)
      | (refine load_dot10 (by rfl) 29 (.tmp 17) rfl ⟨w.heap.size + 1, 0, none⟩ rfl f.r f.q Tryz.underlying29 (by kernel_rfl) (evAt_dot E2.out) ?_)
      | (go_at_call 62; refine (CD.out _).mono ?_; rintro x w1 ⟨rfl, hb⟩; have B1 := Lib.hid (below_next B0.out hb); clear hb))
    go_ret
    exact ⟨by rw [HR.out]; rfl, B0.out⟩
end Go.Proofs.YtppmbdpfledejaaGreatDoor
