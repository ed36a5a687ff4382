/-
Texts that all claims of this seat share, part 3: Shown, Float, DotHold, Law09Orders, Ref10More, EventMay, EventCmp, HeadsMay, HeadsParts, Ref12.
-/
import Derived.Deep.AppendLies
import Derived.Laws.FloatArith
import Derived.WalkLawsBesides
import Derived.Laws.AppendOwn
import Derived.OwnWalk
import Derived.Lib.SliceRun
import Derived.Shelf.Spec.SlicesInsert
import Derived.Lib.AppendZerosOnto
import Derived.Maps.OwnSet
import Derived.DeepKeys4
import Derived.LaidMore
import Derived.Laws.AppendOwnNone
import Derived.Laws.Slices
import Derived.Test.YtlcojmligbikoaaGreatDoorPk2
namespace Go.Proofs.YtlcojmligbikoaaGreatDoor
open Go.RowKit
/-- What is shown: where, of which dot, with which digest and size. -/
structure Sh where
  path : List UInt8
  r : Int
  q : Int
  sum : Nat → BitVec 32
  size : Int
def shC (s : Sh) : Array Value := #[.string (str s.path), .int .i64 s.r, .int .i64 s.q] ++ row .u8 32 s.sum ++ #[.int .i64 s.size]
theorem shC_size (s : Sh) : (shC s).size = 36 := by simp [shC, row_size]
theorem shC_len (s : Sh) : (shC s).toList.length = 36 := by rw [Array.length_toList, shC_size]
theorem shC_at (s : Sh) : (shC s)[0]? = some (.string (str s.path)) ∧ (shC s)[1]? = some (.int .i64 s.r) ∧ (shC s)[2]? = some (.int .i64 s.q) ∧ (shC s)[35]? = some (.int .i64 s.size) := by
  refine ⟨?_, ?_, ?_, ?_⟩
  iterate 3 simp [shC, row_size]
  unfold shC
  rw [Array.getElem?_append_right (by simp [row_size])]
  simp [row_size]
theorem shC_one (s : Sh) : (shC s).all (·.oneCell') = true := by
  have hr := row_one .u8 32 s.sum
  rw [Array.all_eq_true_iff_forall_mem] at hr ⊢
  intro x hx
  unfold shC at hx
  rcases Array.mem_append.1 hx with hx | hx
  · rcases Array.mem_append.1 hx with hx | hx
    · simp only [List.mem_toArray, List.mem_cons, List.not_mem_nil, or_false] at hx
      rcases hx with rfl | rfl | rfl <;> rfl
    · exact hr x hx
  · simp only [List.mem_toArray, List.mem_cons, List.not_mem_nil, or_false] at hx
    subst hx; rfl
def shsC : List Sh → List Value
  | [] => []
  | s :: t => (shC s).toList ++ shsC t
theorem shsC_length (l : List Sh) : (shsC l).length = l.length * 36 := by
  induction l with
  | nil => rfl
  | cons x t ih => rw [shsC, List.length_append, shC_len, ih, List.length_cons]; omega
theorem shsC_append (a b : List Sh) : shsC (a ++ b) = shsC a ++ shsC b := by
  induction a with
  | nil => rfl
  | cons x t ih => rw [List.cons_append, shsC, shsC, ih, List.append_assoc]
theorem shsC_one (l : List Sh) : ∀ u ∈ shsC l, u.oneCell' = true := by
  induction l with
  | nil => intro u hu; cases hu
  | cons x t ih =>
    intro u hu
    rw [shsC] at hu
    rcases List.mem_append.1 hu with hu | hu
    · exact (Array.all_eq_true_iff_forall_mem.1 (shC_one x)) u (by simpa using hu)
    · exact ih u hu
theorem shsC_at (l : List Sh) : ∀ k s, l[k]? = some s → ∀ j u, (shC s)[j]? = some u → (shsC l)[k * 36 + j]? = some u := by
  induction l with
  | nil => intro k x h; simp at h
  | cons y t ih =>
    intro k x h j u hu
    rw [shsC]
    cases k with
    | zero =>
      simp at h; subst h
      have hj : j < 36 := by have := (Array.getElem?_eq_some_iff.1 hu).1; rwa [shC_size] at this
      rw [List.getElem?_append_left (by rw [shC_len]; omega), Array.getElem?_toList, show 0 * 36 + j = j by omega]; exact hu
    | succ k =>
      rw [List.getElem?_append_right (by rw [shC_len]; omega), shC_len, show (k + 1) * 36 + j - 36 = k * 36 + j by omega]
      exact ih k x (by simpa using h) j u hu
/-- Whose elements lie where: a slice of any memory. -/
def HoldsS (w : World) (v : Value) (l : List Sh) : Prop :=
  ∃ ao cap, v = .slice ao l.length cap ∧ (ao = none → l = [] ∧ cap = 0) ∧ ∀ ad, ao = some ad → l.length ≤ cap ∧ ∀ j u, (shsC l)[j]? = some u → w.cell? (ad.add j) = some u
theorem holdsS_nil (w : World) : HoldsS w (.slice none 0 0) [] := ⟨none, 0, rfl, fun _ => ⟨rfl, rfl⟩, fun _ h => by cases h⟩
theorem holdsS_below {w w' : World} {v : Value} {l : List Sh} (h : HoldsS w v l) (hb : Below w.heap.size w w') : HoldsS w' v l := by
  obtain ⟨ao, cap, rfl, hnil, hc⟩ := h
  refine ⟨ao, cap, rfl, hnil, fun ad had => ⟨(hc ad had).1, fun j u hu => ?_⟩⟩
  have h1 := (hc ad had).2 j u hu
  exact (World.cell?_of_block (hb.block (ad.add j).block (World.block_lt_of_cell? w _ h1))).trans h1
theorem holdsS_own {B : Nat} {T : TypeId} {w : World} {v : Value} {l : List Sh} (h : w.ownsRow B T 36 v l.length (shsC l)) : HoldsS w v l := by
  rcases h.2 with ⟨rfl, h0⟩ | ⟨g, cap, cur, rfl, rest⟩
  · obtain rfl : l = [] := List.eq_nil_of_length_eq_zero h0
    exact holdsS_nil w
  · exact ⟨some ⟨g, 0, none⟩, cap, rfl, (fun h => by cases h), fun ad had => ⟨rest.2.2.1, fun j u hu => by
      cases had; exact h.cells rfl j u hu⟩⟩
theorem holdsS_shape {w : World} {v : Value} {l : List Sh} (h : HoldsS w v l) (n : Nat) (hn : n = l.length) : ∃ ao cap, v = .slice ao n cap := by
  obtain ⟨ao, cap, rfl, -⟩ := h
  exact ⟨ao, cap, by rw [hn]⟩
theorem holdsS_at {w : World} {v : Value} {l : List Sh} (h : HoldsS w v l) (n k : Nat) (hn : l.length = n) (s : Sh) (hs : l[k]? = some s) : ∃ ad cap, v = .slice (some ad) n cap ∧ ∀ j u, (shC s)[j]? = some u → w.cell? ((ad.add (k * 36)).add j) = some u := by
  obtain ⟨ao, cap, rfl, hnil, hc⟩ := h
  cases ao with
  | none => obtain ⟨rfl, _⟩ := hnil rfl; simp at hs
  | some ad => exact ⟨ad, cap, by rw [hn], fun j y hy => by rw [addr_add2]; exact (hc ad rfl).2 _ _ (shsC_at l k s hs j y hy)⟩
/-- One loaded from wherever its cells lie. -/
theorem sh_run {P : Program} {o : Oper} {a : Act} {w : World} (ty : TypeId) (x : Operand) (ho : o.op = .load ty x) (A : Addr) (hx : a.eval x = .pointer (some A)) {s : Sh} {fs : Array Field} (hu : P.underlying ty = some (.struct fs))
    (hi : (P.info? ty).map (·.size) = some 36) (hc : ∀ j u, (shC s)[j]? = some u → w.cell? (A.add j) = some u) : (execOp a.eval o).run P w = .ok (.value (.agg (shC s))) w := by
  have hl : (loadCells A (shC s).toList.length).run P w = .ok (shC s).toList.toArray w := run_loadCells_list (P := P) w A _ (fun j u hj => hc j u (by rwa [Array.getElem?_toList] at hj))
  rw [shC_len, Array.toArray_toList] at hl
  cases hq : P.info? ty with
  | none => simp [hq] at hi
  | some i =>
    have hs : i.size = 36 := by simpa [hq] using hi
    unfold execOp
    simp [ho, hx, Instr.loadAt, Instr.sureAddr, loadVar, isAgg, run_underlying hu, sizeOf, typeInfo, hq, hs, hl]
theorem shA_yields {P : Program} {ops : Array Oper} {S : World → Prop} {o : Oper} {a : Act} (hw : Region.wanted o (yielded ops a.tmps) = true) (ty : TypeId) (x : Operand) (ho : o.op = .load ty x) (A : Addr) (hx : a.eval x = .pointer (some A)) {s : Sh} {fs : Array Field}
    (hu : P.underlying ty = some (.struct fs)) (hi : (P.info? ty).map (·.size) = some 36) (hS : ∀ w, S w → ∀ j u, (shC s)[j]? = some u → w.cell? (A.add j) = some u) : YieldsIf P ops S o (.agg (shC s)) a :=
  .inl ⟨hw, fun w h => sh_run ty x ho A hx hu hi (hS w h)⟩
theorem load_shA_on {P : Program} {ops : Array Oper} {rest : List Oper} {o : Oper} {a : Act} {w : World} {Q : Exit → Act → World → Prop} (hw : Region.wanted o (yielded ops a.tmps) = true) (ty : TypeId) (x : Operand) (ho : o.op = .load ty x) (A : Addr) (hx : a.eval x = .pointer (some A)) {s : Sh} {fs : Array Field}
    (hu : P.underlying ty = some (.struct fs)) (hi : (P.info? ty).map (·.size) = some 36) (hc : ∀ j u, (shC s)[j]? = some u → w.cell? (A.add j) = some u)
    (h : wpList P ops Q rest (a.put o.dst (.agg (shC s))) w) : wpList P ops Q (o :: rest) a w := by
  refine wpList_step fun K hK => ?_
  rw [if_pos hw]
  unfold Oper.wp
  rw [sh_run ty x ho A hx hu hi hc]
  exact hK _ _ h
/-- Those that are shown, appended to a slice of the call's own. -/
theorem append_shs {P : Program} {w : World} {ops : Array Oper} {rest : List Oper} {o : Oper} {a : Act} {Q : Exit → Act → World → Prop} (hgd : o.guard = none) (s x : Operand) (t : TypeId)
    (ho : o.op = .call { callee := .builtin .append, args := #[s, x], argTypes := #[t, t] })
    (base : Nat) (e : TypeId) (i : TypeInfo) (ht : P.underlying t = some (.slice e)) (hi : P.info? e = some i) (hz : (i.zero.map (·.cells.size), i.size, i.bytes) = (some 36, 36, 72))
    (v : Value) (l ys : List Sh) (hs : a.eval s = v) (hown : w.ownsRow base e 36 v l.length (shsC l)) (ad : Addr) (m c : Nat) (hx : a.eval x = .slice (some ad) m c) (hm : m = ys.length)
    (hc : ∀ j u, (shsC ys)[j]? = some u → w.cell? (ad.add j) = some u) (hlen : l.length + ys.length ≤ 100000) (hbase : base ≤ w.heap.size)
    (h : ∀ v' w', w'.ownsRow base e 36 v' (l ++ ys).length (shsC (l ++ ys)) → w.grownBy w' v.ownBlock → wpList P ops Q rest (a.put o.dst v') w') : wpList P ops Q (o :: rest) a w := by
  simp only [Prod.mk.injEq] at hz
  obtain ⟨hz1, hz2, hz3⟩ := hz
  subst hm
  cases hzz : i.zero with
  | none => rw [hzz] at hz1; cases hz1
  | some z =>
    rw [hzz] at hz1
    simp only [Option.map_some, Option.some.injEq] at hz1
    refine wpList_append_own w hgd s x t ho base e i z 36 72 ht hi hzz hz2 hz3 hz1 (by decide) v l.length (shsC l) hs hown ad ys.length c (shsC ys) hx (by rw [shsC_length]) hc (shsC_one ys)
      (by unfold maxLen; omega) (by omega) hbase fun v' w' h1 h2 _ => h v' w' (by rw [shsC_append, List.length_append]; exact h1) h2
/-- One changed in its place, among the cells. -/
theorem shsC_set : ∀ (l : List Sh) (k : Nat) (s : Sh), k < l.length → splice (shsC l) (k * 36) (shC s).toList = shsC (l.set k s)
  | [], k, _, h => by simp at h
  | y :: t, 0, s, _ => by
    unfold splice
    rw [shsC, Nat.zero_mul, List.take_zero, List.nil_append, Nat.zero_add, List.drop_append, shC_len, shC_len, List.drop_of_length_le (by rw [shC_len]; exact Nat.le_refl _)]
    simp [shsC]
  | y :: t, k + 1, s, h => by
    have ih := shsC_set t k s (by simpa using h)
    unfold splice at ih ⊢
    rw [shsC, show (k + 1) * 36 = (shC y).toList.length + k * 36 by rw [shC_len]; omega, List.take_length_add_append, Nat.add_assoc, List.drop_length_add_append, List.append_assoc, ih]
    rfl
theorem splice_take {α : Type} (L cs : List α) (off m : Nat) (h : off + cs.length ≤ m) (hm : m ≤ L.length) : (splice L off cs).take m = splice (L.take m) off cs := by
  unfold splice
  rw [List.take_append, List.length_take, Nat.min_eq_left (by omega), List.take_append, List.take_take, Nat.min_eq_right (by omega), List.take_of_length_le (l := cs) (by omega), List.take_take, Nat.min_eq_left (by omega), List.drop_take]
  congr 3
  omega
/-- One stored in its place, in a slice of the call's own. -/
theorem store_sh {P : Program} {ops : Array Oper} {rest : List Oper} {o : Oper} {a : Act} {w : World} {Q : Exit → Act → World → Prop} (hgd : o.guard = none) (ty : TypeId) (x y : Operand) (ho : o.op = .store ty x y) (hd : o.dst = none)
    (B : Nat) (T : TypeId) (g n cap k : Nat) (l : List Sh) (hown : w.ownsRow B T 36 (.slice (some ⟨g, 0, none⟩) n cap) n (shsC l)) (hn : n = l.length) (hk : k < n) (off : Nat) (hoff : off = k * 36) (hx : a.eval x = .pointer (some ⟨g, off, none⟩)) (s : Sh) (hy : a.eval y = .agg (shC s))
    (hi : (P.info? ty).map (·.size) = some 36) (h : ∀ w', w'.ownsRow B T 36 (.slice (some ⟨g, 0, none⟩) n cap) n (shsC (l.set k s)) → Solo g w w' → wpList P ops Q rest a w') : wpList P ops Q (o :: rest) a w := by
  subst hoff
  rcases hown.2 with ⟨h0, -⟩ | ⟨g', cap', cur, e, h1, h2, h3, h4, h5, h6⟩
  · cases h0
  · simp only [Value.slice.injEq, Option.some.injEq, Addr.mk.injEq] at e
    obtain ⟨⟨rfl, -⟩, -, rfl⟩ := e
    have hcl : cur.toList.length = cap * 36 := by rw [Array.length_toList, h5]
    have hfit : k * 36 + (shC s).toList.length ≤ cur.toList.length := by rw [shC_len, hcl]; omega
    refine store_in hgd ty x y ho hd g (k * 36) cur.toList (shC s).toList T (by rw [Array.toArray_toList]; exact h2) hx (by rw [hy, Array.toArray_toList]) (by rw [hi, shC_len]) hfit (fun v hv => (Array.all_eq_true_iff_forall_mem.1 (shC_one s)) v (by simpa using hv)) fun w' hg hs => h w' ?_ hs
    refine ⟨by rw [shsC_length, List.length_set, hn], .inr ⟨g, cap, _, rfl, h1, hg, h3, h4, ?_, ?_⟩⟩
    · rw [List.size_toArray, length_splice _ _ _ hfit, hcl]
    · rw [List.toList_toArray, splice_take _ _ _ _ (by rw [shC_len]; omega) (by rw [hcl]; exact Nat.mul_le_mul_right 36 h3), h6, shsC_set l k s (by omega)]
end Go.Proofs.YtlcojmligbikoaaGreatDoor
namespace Go.Proofs.YtlcojmligbikoaaGreatDoor
open Ieee
def frac : Nat := 2 ^ 52
theorem frac_pos : 0 < frac := Nat.two_pow_pos _
/-- What the rungs of double floats stand for, in units of the least. -/
def rungV (r : Nat) : Nat := if r < frac then r else (frac + r % frac) * 2 ^ (r / frac - 1)
def rungExp (r : Nat) : Nat := if r < frac then 0 else r / frac - 1
def rungMant (r : Nat) : Nat := if r < frac then r else frac + r % frac
theorem rungV_eq (r : Nat) : rungV r = rungMant r * 2 ^ rungExp r := by
  unfold rungV rungMant rungExp
  split <;> simp
def sgn (s : Bool) (n : Nat) : Int := if s then -(n : Int) else n
theorem read_word (s : Bool) (r : Nat) (h : r < double.infRung) : double.read (double.word s r) = .number s (rungMant r) (double.leastPlace + (rungExp r : Nat)) := by
  have hw := double.infRung_lt
  have hq : r < double.signWeight := Nat.lt_trans h hw
  have hpos : 0 < double.signWeight := Nat.lt_of_le_of_lt (Nat.zero_le _) hq
  have e1 : (double.word s r / double.signWeight % 2 == 1) = s := by
    cases s with
    | false => simp [Format.word, Nat.div_eq_of_lt hq]
    | true =>
      have : (double.signWeight + r) / double.signWeight = 1 := by rw [Nat.add_div_left _ hpos, Nat.div_eq_of_lt hq]
      simp [Format.word, this]
  have e2 : double.word s r % double.signWeight = r := by
    cases s with
    | false => simp [Format.word, Nat.mod_eq_of_lt hq]
    | true => simp [Format.word, Nat.mod_eq_of_lt hq]
  unfold Format.read
  simp only [e1, e2]
  have hb : double.binade = frac := rfl
  rw [hb]
  unfold rungMant rungExp
  split
  · simp
  · first | rfl | (rw [if_pos h])
theorem order_words (s t : Bool) (r q : Nat) (hr : r < double.infRung) (hq : q < double.infRung) :
    double.order (double.word s r) (double.word t q) = some (compare (sgn s (rungV r)) (sgn t (rungV q))) := by
  unfold Format.order
  rw [read_word s r hr, read_word t q hq, rungV_eq, rungV_eq]
  generalize rungMant r = m
  generalize rungMant q = n
  generalize rungExp r = i
  generalize rungExp q = j
  generalize double.leastPlace = L
  unfold Datum.order
  simp only
  congr 1
  have key : ∀ (c : Nat) (x y : Int), compare x y = compare (x * (2 ^ c : Nat)) (y * (2 ^ c : Nat)) := by
    intro c x y
    have hp : (0 : Int) < ((2 ^ c : Nat) : Int) := by exact_mod_cast Nat.two_pow_pos c
    generalize ((2 ^ c : Nat) : Int) = C at hp
    simp only [compare, compareOfLessAndEq]
    have a : (x * C < y * C) ↔ x < y := Int.mul_lt_mul_right hp
    have b : (x * C = y * C) ↔ x = y := by
      constructor
      · exact fun h => Int.eq_of_mul_eq_mul_right (by omega) h
      · exact fun h => by rw [h]
    simp only [a, b]
  have sg : ∀ (s : Bool) (m k c : Nat), signed s m k * ((2 ^ c : Nat) : Int) = sgn s (m * 2 ^ (k + c)) := by
    intro s m k c
    unfold signed sgn
    rw [Nat.shiftLeft_eq, Nat.pow_add, ← Nat.mul_assoc]
    cases s <;> simp [Int.neg_mul]
  rw [key (min i j), sg, sg]
  have h1 : (L + (i : Int) - min (L + (i : Int)) (L + (j : Int))).toNat + min i j = i := by omega
  have h2 : (L + (j : Int) - min (L + (i : Int)) (L + (j : Int))).toNat + min i j = j := by omega
  rw [h1, h2]
/-- The rung of the float nearest to a number. -/
def kept (n : Nat) : Nat := Toward.even.cut false (n <<< (52 - n.log2)) (n.log2 - 52)
def rungN (n : Nat) : Nat := if n = 0 then 0 else (1022 + n.log2) * frac + kept n
theorem nearest_num (n : Int) (h : rungN n.natAbs < double.infRung) : FloatKind.f64.nearest n = double.word (decide (n < 0)) (rungN n.natAbs) := by
  unfold FloatKind.nearest FloatKind.encode Format.write FloatKind.format
  simp only
  unfold Format.nearest
  by_cases h0 : n.natAbs = 0
  · rw [if_pos h0, h0]; rfl
  · rw [if_neg h0]
    have hl : double.leastPlace = -1074 := by decide
    have hf : double.fractionBits = 52 := rfl
    have hb : double.binade = frac := rfl
    rw [hl, hf, hb]
    have e1 : max (0 + (n.natAbs.log2 : Int) - (52 : Nat)) (-1074) = (n.natAbs.log2 : Int) - 52 := by omega
    simp only [e1]
    have e2 : (0 - ((n.natAbs.log2 : Int) - 52)).toNat = 52 - n.natAbs.log2 := by omega
    have e3 : ((n.natAbs.log2 : Int) - 52 - 0).toNat = n.natAbs.log2 - 52 := by omega
    have e4 : ((n.natAbs.log2 : Int) - 52 - -1074).toNat = 1022 + n.natAbs.log2 := by omega
    rw [e2, e3, e4]
    have h1 : (1022 + n.natAbs.log2) * frac + Toward.even.cut (decide (n < 0)) (n.natAbs <<< (52 - n.natAbs.log2)) (n.natAbs.log2 - 52) = rungN n.natAbs := by
      rw [rungN, if_neg h0]; rfl
    rw [h1, Nat.min_eq_left (Nat.le_of_lt h)]
theorem cut_even (s : Bool) (n d : Nat) (hd : d ≤ n.log2 + 2) : Toward.even.cut s n d = n / 2 ^ d + (decide (2 ^ d < 2 * (n % 2 ^ d)) || (2 ^ d == 2 * (n % 2 ^ d) && n / 2 ^ d % 2 == 1)).toNat := by
  unfold Toward.cut
  simp only [Nat.shiftLeft_eq, Nat.one_mul, Nat.min_eq_left hd]
/-- A number of 53 digits at most is kept whole. -/
theorem kept_small (n : Nat) (h : n.log2 ≤ 52) : kept n = n * 2 ^ (52 - n.log2) := by
  unfold kept
  rw [show n.log2 - 52 = 0 by omega, cut_even _ _ _ (Nat.zero_le _), Nat.shiftLeft_eq]
  simp [Nat.mod_one]
theorem kept_big (n : Nat) (h : 52 ≤ n.log2) : kept n = n / 2 ^ (n.log2 - 52) + (decide (2 ^ (n.log2 - 52) < 2 * (n % 2 ^ (n.log2 - 52))) || (2 ^ (n.log2 - 52) == 2 * (n % 2 ^ (n.log2 - 52)) && n / 2 ^ (n.log2 - 52) % 2 == 1)).toNat := by
  unfold kept
  rw [show 52 - n.log2 = 0 by omega, Nat.shiftLeft_zero, cut_even _ _ _ (by omega)]
theorem kept_bounds (n : Nat) (h0 : n ≠ 0) : frac ≤ kept n ∧ kept n ≤ 2 * frac := by
  have l1 := Nat.log2_self_le h0
  have l2 : n < 2 ^ (n.log2 + 1) := Nat.lt_log2_self
  rcases Nat.le_total n.log2 52 with h | h
  · rw [kept_small n h]
    have e : frac = 2 ^ n.log2 * 2 ^ (52 - n.log2) := by rw [← Nat.pow_add, frac]; congr 1; omega
    have e2 : 2 * frac = 2 ^ (n.log2 + 1) * 2 ^ (52 - n.log2) := by rw [e, Nat.pow_succ, Nat.mul_comm (2 ^ n.log2) 2, Nat.mul_assoc]
    rw [e2, e]
    exact ⟨Nat.mul_le_mul_right _ l1, Nat.mul_le_mul_right _ (Nat.le_of_lt l2)⟩
  · rw [kept_big n h]
    have hp : 0 < 2 ^ (n.log2 - 52) := Nat.two_pow_pos _
    have e : frac * 2 ^ (n.log2 - 52) = 2 ^ n.log2 := by rw [frac, ← Nat.pow_add]; congr 1; omega
    have e2 : (2 * frac) * 2 ^ (n.log2 - 52) = 2 ^ (n.log2 + 1) := by rw [Nat.mul_assoc, e, Nat.pow_succ, Nat.mul_comm]
    have a : frac ≤ n / 2 ^ (n.log2 - 52) := (Nat.le_div_iff_mul_le hp).2 (by rw [e]; exact l1)
    have b : n / 2 ^ (n.log2 - 52) < 2 * frac := (Nat.div_lt_iff_lt_mul hp).2 (by rw [e2]; exact l2)
    have c : ∀ x : Bool, x.toNat ≤ 1 := by decide
    have := c (decide (2 ^ (n.log2 - 52) < 2 * (n % 2 ^ (n.log2 - 52))) || (2 ^ (n.log2 - 52) == 2 * (n % 2 ^ (n.log2 - 52)) && n / 2 ^ (n.log2 - 52) % 2 == 1))
    omega
/-- Rounding rises. -/
theorem round_mono (p n m : Nat) (h : n ≤ m) :
    n / p + (decide (p < 2 * (n % p)) || (p == 2 * (n % p) && n / p % 2 == 1)).toNat ≤ m / p + (decide (p < 2 * (m % p)) || (p == 2 * (m % p) && m / p % 2 == 1)).toNat := by
  have c : ∀ x : Bool, x.toNat ≤ 1 := by decide
  have e : n / p ≤ m / p := Nat.div_le_div_right h
  rcases Nat.lt_or_eq_of_le e with e | e
  · have := c (decide (p < 2 * (n % p)) || (p == 2 * (n % p) && n / p % 2 == 1))
    omega
  · have a := Nat.div_add_mod n p
    have b := Nat.div_add_mod m p
    rw [e] at a ⊢
    have hm : n % p ≤ m % p := by omega
    refine Nat.add_le_add_left ?_ _
    generalize n % p = x at *
    generalize m % p = y at *
    generalize m / p % 2 = z at *
    by_cases h1 : p < 2 * y
    · simp [h1]; exact c _
    · have h2 : ¬ p < 2 * x := by omega
      simp only [h1, h2, decide_false, Bool.false_or]
      by_cases h3 : p = 2 * x
      · have : p = 2 * y := by omega
        rw [show (p == 2 * x) = true from by simpa using h3, show (p == 2 * y) = true from by simpa using this]
        exact Nat.le_refl _
      · rw [show (p == 2 * x) = false from by simpa using h3]; simp
theorem rungN_mono {n m : Nat} (h : n ≤ m) : rungN n ≤ rungN m := by
  unfold rungN
  by_cases h0 : n = 0
  · rw [if_pos h0]; exact Nat.zero_le _
  · rw [if_neg h0, if_neg (by omega)]
    have hm : m ≠ 0 := by omega
    have b1 := kept_bounds n h0
    have b2 := kept_bounds m hm
    have hl : n.log2 ≤ m.log2 := by
      rcases Nat.lt_or_ge m.log2 n.log2 with hc | hc
      · exfalso
        have l1 := Nat.log2_self_le h0
        have l2 : m < 2 ^ (m.log2 + 1) := Nat.lt_log2_self
        have : 2 ^ (m.log2 + 1) ≤ 2 ^ n.log2 := Nat.pow_le_pow_right (by decide) hc
        omega
      · exact hc
    rcases Nat.lt_or_eq_of_le hl with hl | hl
    · have : (1022 + n.log2) * frac + frac ≤ (1022 + m.log2) * frac := by
        rw [← Nat.succ_mul]; exact Nat.mul_le_mul_right _ (by omega)
      omega
    · rw [hl]
      refine Nat.add_le_add_left ?_ _
      rcases Nat.le_total m.log2 52 with h1 | h1
      · rw [kept_small n (by omega), kept_small m h1, hl]; exact Nat.mul_le_mul_right _ h
      · rw [kept_big n (by omega), kept_big m h1, hl]; exact round_mono _ _ _ h
/-- A number of 64 bits has a finite rung. -/
theorem rungN_lt (n : Nat) (h : n ≤ 9223372036854775808) : rungN n < double.infRung := by
  have h1 := rungN_mono h
  have h2 : rungN 9223372036854775808 < double.infRung := by decide +kernel
  omega
/-- What a float of a number stands for, in units of the least. -/
def floatV (a : Int) : Int := sgn (decide (a < 0)) (rungV (rungN a.natAbs))
theorem order_nums (a b : Int) (ha : a.natAbs ≤ 9223372036854775808) (hb : b.natAbs ≤ 9223372036854775808) :
    FloatKind.f64.format.order (FloatKind.f64.nearest a) (FloatKind.f64.nearest b) = some (compare (floatV a) (floatV b)) := by
  have h1 := rungN_lt _ ha
  have h2 := rungN_lt _ hb
  rw [nearest_num a h1, nearest_num b h2]
  exact order_words _ _ _ _ h1 h2
theorem rungV_small (k : Nat) (hk : k = 1074) (n : Nat) (h : n < 9007199254740992) : rungV (rungN n) = n * 2 ^ k := by
  by_cases h0 : n = 0
  · subst h0; simp [rungN, rungV, frac_pos]
  · have l1 := Nat.log2_self_le h0
    have hl : n.log2 ≤ 52 := by
      rcases Nat.lt_or_ge 52 n.log2 with hc | hc
      · exfalso
        have : 2 ^ 53 ≤ 2 ^ n.log2 := Nat.pow_le_pow_right (by decide) hc
        omega
      · exact hc
    have hb : n < 2 ^ (n.log2 + 1) := Nat.lt_log2_self
    have k1 := kept_small n hl
    have kb := kept_bounds n h0
    have k2 : kept n < 2 * frac := by
      have e : frac = 2 ^ n.log2 * 2 ^ (52 - n.log2) := by rw [← Nat.pow_add, frac]; congr 1; omega
      have e2 : 2 * frac = 2 ^ (n.log2 + 1) * 2 ^ (52 - n.log2) := by rw [e, Nat.pow_succ, Nat.mul_comm (2 ^ n.log2) 2, Nat.mul_assoc]
      rw [k1, e2]
      exact Nat.mul_lt_mul_of_pos_right hb (Nat.two_pow_pos _)
    have hp := frac_pos
    obtain ⟨f, hf⟩ : ∃ f, kept n = frac + f := ⟨kept n - frac, by omega⟩
    have hf2 : f < frac := by omega
    have hr : rungN n = f + frac * (1022 + n.log2 + 1) := by
      rw [rungN, if_neg h0, hf, Nat.mul_comm frac, Nat.succ_mul]; omega
    have d1 : rungN n / frac = 1022 + n.log2 + 1 := by rw [hr, Nat.add_mul_div_left _ _ hp, Nat.div_eq_of_lt hf2, Nat.zero_add]
    have d2 : rungN n % frac = f := by rw [hr, Nat.add_mul_mod_self_left, Nat.mod_eq_of_lt hf2]
    have d3 : ¬ rungN n < frac := by
      intro hc
      have := Nat.div_eq_of_lt hc
      omega
    rw [rungV, if_neg d3, d1, d2, ← hf, k1, Nat.mul_assoc, ← Nat.pow_add]
    congr 2
    omega
theorem floatV_small (k : Nat) (hk : k = 1074) (a : Int) (h : a.natAbs < 9007199254740992) : floatV a = a * ((2 ^ k : Nat) : Int) := by
  unfold floatV sgn
  rw [rungV_small k hk _ h]
  generalize (2 : Nat) ^ k = B
  by_cases h1 : a < 0
  · simp only [h1, decide_true, if_true]
    rw [Int.natCast_mul, ← Int.neg_mul]
    congr 1
    omega
  · simp only [h1, decide_false, Bool.false_eq_true, if_false]
    rw [Int.natCast_mul]
    congr 1
    omega
theorem floatV_lt {a b : Int} (ha : a.natAbs < 9007199254740992) (hb : b.natAbs < 9007199254740992) : floatV a < floatV b ↔ a < b := by
  obtain ⟨k, hk⟩ : ∃ k, k = 1074 := ⟨_, rfl⟩
  rw [floatV_small k hk a ha, floatV_small k hk b hb]
  have hp : (0 : Int) < ((2 ^ k : Nat) : Int) := Int.natCast_pos.2 (Nat.two_pow_pos _)
  exact Int.mul_lt_mul_right hp
end Go.Proofs.YtlcojmligbikoaaGreatDoor
namespace Go.Proofs.YtlcojmligbikoaaGreatDoor
open Go.RowKit
/-- A whole number below 2^53. -/
def Sm (a : Int) : Prop := a.natAbs < 9007199254740992
def cmpI (a b : Int) : Int := if a < b then -1 else if b < a then 1 else 0
theorem compare_lt {x y : Int} (h : x < y) : compare x y = .lt := by simp [compare, compareOfLessAndEq, h]
theorem compare_eq (x : Int) : compare x x = .eq := by simp [compare, compareOfLessAndEq]
theorem compare_gt {x y : Int} (h : y < x) : compare x y = .gt := by
  have h1 : ¬ x < y := by omega
  have h2 : ¬ x = y := by omega
  simp [compare, compareOfLessAndEq, h1, h2]
theorem fl_order (a b : Int) (ha : Sm a) (hb : Sm b) : FloatKind.f64.format.order (floatOfInt .f64 a) (floatOfInt .f64 b) = some (compare a b) := by
  unfold Sm at ha hb
  have h := order_nums a b (by omega) (by omega)
  rw [show floatOfInt .f64 a = FloatKind.f64.nearest a from rfl, show floatOfInt .f64 b = FloatKind.f64.nearest b from rfl, h]
  rcases Int.lt_trichotomy a b with c | c | c
  · rw [compare_lt c, compare_lt ((floatV_lt ha hb).2 c)]
  · subst c; rw [compare_eq, compare_eq]
  · rw [compare_gt c, compare_gt ((floatV_lt hb ha).2 c)]
theorem isNaN_num (a : Int) (ha : Sm a) (w : World) : Calls Tryz.prog 121 #[.float .f64 (floatOfInt .f64 a)] w fun e w' => e = .returned (.bool false) ∧ w = w' := by
  have h1 := fl_order a a ha ha
  rw [compare_eq] at h1
  clear ha
  generalize floatOfInt .f64 a = x at *
  go_enter Tryz.func121, Tryz.ntmps121
  go_wp2
  go_ret
  exact ⟨rfl, rfl⟩
theorem cmpFloat_num (a b : Int) (ha : Sm a) (hb : Sm b) (w : World) : Calls Tryz.prog 99 #[.float .f64 (floatOfInt .f64 a), .float .f64 (floatOfInt .f64 b)] w fun e w' => e = .returned (.int .i64 (cmpI a b)) ∧ w = w' := by
  have N1 := Lib.hid (isNaN_num a ha)
  have N2 := Lib.hid (isNaN_num b hb)
  have h1 := fl_order a b ha hb
  clear ha hb
  generalize floatOfInt .f64 a = x at *
  generalize floatOfInt .f64 b = y at *
  rcases Int.lt_trichotomy a b with c | c | c
  · rw [compare_lt c] at h1
    have HR := Lib.hid (show cmpI a b = -1 by rw [cmpI, if_pos c])
    clear c
    go_enter Tryz.func99, Tryz.ntmps99
    go_upto_region 2 with (first | (go_at_call 121; refine (N1.out _).mono ?_; rintro e w1 ⟨rfl, rfl⟩))
    go_wp2_with (first | (go_at_call 121; refine (N2.out _).mono ?_; rintro e w1 ⟨rfl, rfl⟩))
    go_ret
    exact ⟨by rw [HR.out]; try rfl, rfl⟩
  · subst c
    rw [compare_eq] at h1
    have HR := Lib.hid (show cmpI a a = 0 by rw [cmpI, if_neg (by omega), if_neg (by omega)])
    go_enter Tryz.func99, Tryz.ntmps99
    go_upto_region 2 with (first | (go_at_call 121; refine (N1.out _).mono ?_; rintro e w1 ⟨rfl, rfl⟩))
    go_wp2_with (first | (go_at_call 121; refine (N2.out _).mono ?_; rintro e w1 ⟨rfl, rfl⟩))
    go_ret
    exact ⟨by rw [HR.out]; try rfl, rfl⟩
  · rw [compare_gt c] at h1
    have HR := Lib.hid (show cmpI a b = 1 by rw [cmpI, if_neg (by omega), if_pos c])
    clear c
    go_enter Tryz.func99, Tryz.ntmps99
    go_upto_region 2 with (first | (go_at_call 121; refine (N1.out _).mono ?_; rintro e w1 ⟨rfl, rfl⟩))
    go_wp2_with (first | (go_at_call 121; refine (N2.out _).mono ?_; rintro e w1 ⟨rfl, rfl⟩))
    go_ret
    exact ⟨by rw [HR.out]; try rfl, rfl⟩
/-- The first number that isn't 0. -/
def orI (x0 x1 x2 x3 : Int) : Int := if x0 ≠ 0 then x0 else if x1 ≠ 0 then x1 else if x2 ≠ 0 then x2 else x3
def four (x0 x1 x2 x3 : Int) : Array Value := #[.int .i64 x0, .int .i64 x1, .int .i64 x2, .int .i64 x3]
/-- The k-th of four. -/
def nth4 (x0 x1 x2 x3 : Int) (k : Nat) : Int := if k = 0 then x0 else if k = 1 then x1 else if k = 2 then x2 else x3
theorem nth4_cell (x0 x1 x2 x3 : Int) {w : World} {g k : Nat} {T : TypeId} (h : w.heap[g]? = some (.cells (four x0 x1 x2 x3) T (0, 0))) (hk : k < 4) : w.cell? ⟨g, k, none⟩ = some (.int .i64 (nth4 x0 x1 x2 x3 k)) := by
  rw [cell_of_row _ _ k _ _ _ h]
  match k, hk with
  | 0, _ => rfl
  | 1, _ => rfl
  | 2, _ => rfl
  | 3, _ => rfl
set_option maxRecDepth 100000 in
set_option maxHeartbeats 4000000 in
theorem or_any (x0 x1 x2 x3 : Int) (g : Nat) (T : TypeId) (w : World) (h : w.heap[g]? = some (.cells (four x0 x1 x2 x3) T (0, 0))) : Calls Tryz.prog 98 #[.slice (some ⟨g, 0, none⟩) 4 4] w fun e w' => e = .returned (.int .i64 (orI x0 x1 x2 x3)) ∧ w = w' := by
  have HC := Lib.hid (fun k hk => nth4_cell x0 x1 x2 x3 (k := k) h hk)
  clear h
  go_enter Tryz.func98, Tryz.ntmps98
  go_wp2
  go_loopw [8] (fun i wr => w = wr ∧ ∃ k : Nat, k ≤ 4 ∧ i = .int .i64 k ∧ ∀ j, j < k → nth4 x0 x1 x2 x3 j = 0) (fun i _ => 4 - (intOf i).toNat)
  case atStart => exact ⟨rfl, 0, by omega, rfl, fun j hj => by omega⟩
  case round =>
    obtain ⟨rfl, k, hk, rfl, hall⟩ := hrel
    have HA := Lib.hid hall
    clear hall
    by_cases hlt : k < 4
    · have q1 : (k : Int) < 4 := by omega
      have hc := HC.out k hlt
      obtain ⟨x, hx⟩ : ∃ x, nth4 x0 x1 x2 x3 k = x := ⟨_, rfl⟩
      rw [hx] at hc
      have HX := Lib.hid hx
      clear hx
      by_cases h0 : x = 0
      · subst h0
        have hk1 : wrap64 ((k : Int) + 1) = ((k + 1 : Nat) : Int) := by rw [wrap64]; omega
        go_wp2
        go_roundw
        case rel => exact ⟨trivial, k + 1, by omega, by go_num, fun j h2 => by
          rcases Nat.lt_or_ge j k with h | h
          · exact HA.out j h
          · obtain rfl : j = k := by omega
            exact HX.out⟩
        case measure => simp [intOf]; omega
      · have t0 : (x != 0) = true := bne_iff_ne.2 h0
        have HR := Lib.hid (show orI x0 x1 x2 x3 = x by
          have a := HA.out
          have b := HX.out
          unfold nth4 at a b
          unfold orI
          match k, hlt with
          | 0, _ => simp at b; subst b; simp [h0]
          | 1, _ => have a0 := a 0 (by omega); simp at a0 b; subst b; simp [h0, a0]
          | 2, _ => have a0 := a 0 (by omega); have a1 := a 1 (by omega); simp at a0 a1 b; subst b; simp [h0, a0, a1]
          | 3, _ => have a0 := a 0 (by omega); have a1 := a 1 (by omega); have a2 := a 2 (by omega); simp at a0 a1 a2 b; subst b; simp [a0, a1, a2])
        clear h0
        go_wp2
        go_ret
        exact ⟨by rw [HR.out]; try rfl, rfl⟩
    · obtain rfl : k = 4 := by omega
      have HR := Lib.hid (show orI x0 x1 x2 x3 = 0 by
        have a := HA.out
        have a0 := a 0 (by omega)
        have a1 := a 1 (by omega)
        have a2 := a 2 (by omega)
        have a3 := a 3 (by omega)
        unfold nth4 at a0 a1 a2 a3
        simp at a0 a1 a2 a3
        unfold orI
        simp [a0, a1, a2, a3])
      clear hlt
      go_wp2
      go_ret
      exact ⟨by rw [HR.out]; try rfl, rfl⟩
def hiI (a : Int) : Int := a / 4294967296
def loI (a : Int) : Int := a % 4294967296
theorem hiI_sm {a : Int} (h : I64 a) : Sm (hiI a) := by unfold I64 at h; unfold Sm hiI; omega
theorem loI_sm (a : Int) : Sm (loI a) := by unfold Sm loI; omega
set_option maxRecDepth 100000 in
set_option maxHeartbeats 4000000 in
theorem halves_any (r q : Int) (w : World) : Calls Tryz.prog 97 #[.agg #[.int .i64 r, .int .i64 q]] w fun e w' => e = .returned (.tuple #[.complex .f64 (floatOfInt .f64 (hiI r)) (floatOfInt .f64 (hiI q)), .complex .f64 (floatOfInt .f64 (loI r)) (floatOfInt .f64 (loI q))]) ∧ Below w.heap.size w w' := by
  have h1 := one_box w r q
  obtain ⟨c1, c2⟩ := dot_cells h1
  have B0 := Lib.hid ((Below.refl w.heap.size w).alloc (Nat.le_refl _) (dotO r q))
  clear h1
  unfold dotO at *
  go_enter Tryz.func97, Tryz.ntmps97
  go_upto_region 1 with fail
  generalize w.alloc (.cells #[.int .i64 r, .int .i64 q] 29 (0, 0)) = W0 at *
  go_quiet (fail)
  have B1 := Lib.hid (below_draws B0.out nq)
  generalize W0.drewN nq = W1 at *
  clear c1 c2 B0
  go_wp2
  go_ret2
  exact ⟨rfl, B1.out⟩
/-- Halves held against halves are numbers held against each other. -/
theorem hold_or (r q r' q' : Int) : orI (cmpI (hiI r) (hiI r')) (cmpI (loI r) (loI r')) (cmpI (hiI q) (hiI q')) (cmpI (loI q) (loI q')) = cmpD r q r' q' := by
  have key : ∀ a b : Int, (hiI a < hiI b ∧ a < b) ∨ (hiI b < hiI a ∧ b < a) ∨ (hiI a = hiI b ∧ ((loI a < loI b ∧ a < b) ∨ (loI b < loI a ∧ b < a) ∨ (loI a = loI b ∧ a = b))) := by
    intro a b; unfold hiI loI; omega
  have k1 := key r r'
  have k2 := key q q'
  unfold orI cmpI cmpD
  generalize hiI r = a1 at *
  generalize hiI r' = a2 at *
  generalize hiI q = a3 at *
  generalize hiI q' = a4 at *
  generalize loI r = b1 at *
  generalize loI r' = b2 at *
  generalize loI q = b3 at *
  generalize loI q' = b4 at *
  rcases k1 with ⟨h1, h2⟩ | ⟨h1, h2⟩ | ⟨h1, ⟨h3, h2⟩ | ⟨h3, h2⟩ | ⟨h3, h2⟩⟩
  · rw [if_pos h1, if_pos (by decide), if_neg (by omega), if_pos (by omega)]
  · rw [if_neg (show ¬ a1 < a2 by omega), if_pos h1, if_pos (by decide), if_neg (by omega), if_neg (by omega)]
  · subst h1
    rw [if_neg (show ¬ a1 < a1 by omega), if_neg (show ¬ a1 < a1 by omega), if_pos h3, if_neg (by decide), if_pos (by decide), if_neg (by omega), if_pos (by omega)]
  · subst h1
    rw [if_neg (show ¬ a1 < a1 by omega), if_neg (show ¬ a1 < a1 by omega), if_neg (show ¬ b1 < b2 by omega), if_pos h3, if_neg (by decide), if_pos (by decide), if_neg (by omega), if_neg (by omega)]
  · subst h1; subst h3; subst h2
    rw [if_neg (show ¬ a1 < a1 by omega), if_neg (show ¬ a1 < a1 by omega), if_neg (show ¬ b1 < b1 by omega), if_neg (show ¬ b1 < b1 by omega), if_neg (by decide), if_neg (by decide)]
    rcases k2 with ⟨h1, h2⟩ | ⟨h1, h2⟩ | ⟨h1, ⟨h3, h2⟩ | ⟨h3, h2⟩ | ⟨h3, h2⟩⟩
    · rw [if_pos h1, if_pos (by decide), if_neg (by omega), if_pos (by omega)]
    · rw [if_neg (show ¬ a3 < a4 by omega), if_pos h1, if_pos (by decide), if_neg (by omega), if_neg (by omega)]
    · subst h1
      rw [if_neg (show ¬ a3 < a3 by omega), if_neg (show ¬ a3 < a3 by omega), if_pos h3, if_neg (by decide), if_neg (by omega), if_pos (by omega)]
    · subst h1
      rw [if_neg (show ¬ a3 < a3 by omega), if_neg (show ¬ a3 < a3 by omega), if_neg (show ¬ b3 < b4 by omega), if_pos h3, if_neg (by decide), if_neg (by omega), if_neg (by omega)]
    · subst h1; subst h3; subst h2
      rw [if_neg (show ¬ a3 < a3 by omega), if_neg (show ¬ a3 < a3 by omega), if_neg (show ¬ b3 < b3 by omega), if_neg (show ¬ b3 < b3 by omega), if_neg (by decide), if_pos ⟨rfl, rfl⟩]
set_option maxRecDepth 100000 in
set_option maxHeartbeats 8000000 in
theorem compare_any (r q r' q' : Int) (hr : I64 r) (hq : I64 q) (hr' : I64 r') (hq' : I64 q') (w : World) : Calls Tryz.prog 70 #[.agg #[.int .i64 r, .int .i64 q], .agg #[.int .i64 r', .int .i64 q']] w fun e w' => e = .returned (.int .i64 (cmpD r q r' q')) ∧ Below w.heap.size w w' := by
  obtain ⟨h1, h2⟩ := two_boxes w r q r' q'
  have H1 := Lib.hid h1
  have H2 := Lib.hid h2
  have B0 := Lib.hid (((Below.refl w.heap.size w).alloc (Nat.le_refl _) (dotO r q)).alloc (by simp) (dotO r' q'))
  have HO := Lib.hid (hold_or r q r' q')
  have HV1 := Lib.hid (halves_any r q)
  have HV2 := Lib.hid (halves_any r' q')
  have F1 := Lib.hid (cmpFloat_num (hiI r) (hiI r') (hiI_sm hr) (hiI_sm hr'))
  have F2 := Lib.hid (cmpFloat_num (loI r) (loI r') (loI_sm r) (loI_sm r'))
  have F3 := Lib.hid (cmpFloat_num (hiI q) (hiI q') (hiI_sm hq) (hiI_sm hq'))
  have F4 := Lib.hid (cmpFloat_num (loI q) (loI q') (loI_sm q) (loI_sm q'))
  clear h1 h2 hr hq hr' hq'
  generalize cmpI (hiI r) (hiI r') = x0 at *
  generalize cmpI (loI r) (loI r') = x1 at *
  generalize cmpI (hiI q) (hiI q') = x2 at *
  generalize cmpI (loI q) (loI q') = x3 at *
  generalize floatOfInt .f64 (hiI r) = a1 at *
  generalize floatOfInt .f64 (hiI r') = a2 at *
  generalize floatOfInt .f64 (loI r) = a3 at *
  generalize floatOfInt .f64 (loI r') = a4 at *
  generalize floatOfInt .f64 (hiI q) = a5 at *
  generalize floatOfInt .f64 (hiI q') = a6 at *
  generalize floatOfInt .f64 (loI q) = a7 at *
  generalize floatOfInt .f64 (loI q') = a8 at *
  unfold dotO at *
  go_enter Tryz.func70, Tryz.ntmps70
  go_upto_region 1 with fail
  generalize (w.alloc (.cells #[.int .i64 r, .int .i64 q] 29 (0, 0))).alloc (.cells #[.int .i64 r', .int .i64 q'] 29 (0, 0)) = W0 at *
  go_upto_region 2 with (first
    | (refine load_row_on (by rfl) 29 (.tmp 2) rfl w.heap.size rfl 29 _ (0, 0) _ H1.out Tryz.underlying29 rfl (by kernel_rfl) ?_)
    | (go_at_call 97; refine (HV1.out _).mono ?_; rintro e W1 ⟨rfl, hb⟩; have G2 := Lib.hid (row_kept H2.out hb); have B1 := Lib.hid (below_next B0.out hb); clear hb))
  go_upto_region 3 with (first
    | (refine load_row_on (by rfl) 29 (.tmp 3) rfl (w.heap.size + 1) rfl 29 _ (0, 0) _ G2.out Tryz.underlying29 rfl (by kernel_rfl) ?_)
    | (go_at_call 97; refine (HV2.out _).mono ?_; rintro e W2 ⟨rfl, hb⟩; have B2 := Lib.hid (below_next B1.out hb); clear hb))
  have HA := Lib.hid (fun T => heap_last W2 (.cells (four x0 x1 x2 x3) T (0, 0)))
  have BA := Lib.hid (fun T => B2.out.alloc B2.out.size (.cells (four x0 x1 x2 x3) T (0, 0)))
  go_wp2_with (first
    | (go_at_call 99; with_reducible refine (F1.out _).mono ?_; rintro e w1 ⟨rfl, rfl⟩)
    | (go_at_call 99; with_reducible refine (F2.out _).mono ?_; rintro e w1 ⟨rfl, rfl⟩)
    | (go_at_call 99; with_reducible refine (F3.out _).mono ?_; rintro e w1 ⟨rfl, rfl⟩)
    | (go_at_call 99; with_reducible refine (F4.out _).mono ?_; rintro e w1 ⟨rfl, rfl⟩)
    | (go_at_call 98; refine (or_any x0 x1 x2 x3 W2.heap.size _ _ (HA.out _)).mono ?_; rintro e w1 ⟨rfl, rfl⟩))
  go_ret
  exact ⟨by rw [HO.out]; try rfl, BA.out _⟩
end Go.Proofs.YtlcojmligbikoaaGreatDoor
namespace Go.Proofs.YtlcojmligbikoaaGreatDoor
open Go.RowKit
theorem row_yields {P : Program} {ops : Array Oper} {S : World → Prop} {o : Oper} {a : Act} (hw : Region.wanted o (yielded ops a.tmps) = true) (ty : TypeId) (x : Operand) (ho : o.op = .load ty x) (g : Nat) (hx : a.eval x = .pointer (some ⟨g, 0, none⟩)) (t : TypeId) (cs : Array Value) (fr : Nat × Nat) (d : TypeDesc)
    (hu : P.underlying ty = some d) (hd : (match d with | .struct _ | .array _ _ => true | _ => false) = true) (hi : (P.info? ty).map (·.size) = some cs.size) (hS : ∀ w, S w → w.heap[g]? = some (.cells cs t fr)) : YieldsIf P ops S o (.agg cs) a :=
  .inl ⟨hw, fun w h => by
    unfold execOp
    simp [ho, hx, Instr.loadAt, Instr.sureAddr, run_loadVar_row w g t ty cs fr d (hS w h) hu hd hi]⟩
end Go.Proofs.YtlcojmligbikoaaGreatDoor
namespace Go.Proofs.YtlcojmligbikoaaGreatDoor
open Go.RowKit
theorem refAll_V (l : List D2) (hl : l.length < 2000000) (v : Value) (w : World) (hv : HasDots w v l) : Calls Tryz.prog 82 #[v] w fun e w' => e = .returned (numsV 32 (allV l)) ∧ Below w.heap.size w w' := refAll_any l hl v w hv
set_option maxRecDepth 100000 in
set_option maxHeartbeats 4000000 in
theorem refGet_any10 (l : List D2) (hl : l.length < 2000000) (r : Int) (v : Value) (w : World) (hv : HasDots w v l) : Calls Tryz.prog 54 #[v, .int .i64 r] w fun e w' => e = .returned (.int .i64 (getV l r)) ∧ Below w.heap.size w w' := by
  have HV := Lib.hid hv
  have A1 := Lib.hid (fun w v hv => refAll_V l hl v w hv)
  obtain ⟨ao, cap, rfl⟩ := dots_shape hv l.length rfl
  obtain ⟨n, hn⟩ : ∃ n, n = l.length := ⟨_, rfl⟩
  rw [← hn] at HV ⊢
  clear hv hl hn
  by_cases h0 : r < 0
  · have d1 : decide (r < 0) = true := decide_eq_true h0
    have HR := Lib.hid (show getV l r = 0 by rw [getV, if_pos (.inl h0)])
    clear h0
    go_enter Tryz.func54, Tryz.ntmps54
    go_wp2
    go_ret
    exact ⟨by rw [HR.out]; rfl, Below.refl _ _⟩
  · have d1 : decide (r < 0) = false := decide_eq_false h0
    by_cases h1 : 31 < r
    · have d2 : decide (r > 31) = true := decide_eq_true h1
      have HR := Lib.hid (show getV l r = 0 by rw [getV, if_pos (.inr h1)])
      clear h0 h1
      go_enter Tryz.func54, Tryz.ntmps54
      go_wp2
      go_ret
      exact ⟨by rw [HR.out]; rfl, Below.refl _ _⟩
    · have d2 : decide (r > 31) = false := decide_eq_false h1
      obtain ⟨i, hi⟩ : ∃ i : Nat, r = (i : Int) := ⟨r.toNat, by omega⟩
      subst hi
      have ix := fun w => index_nums (P := Tryz.prog) w (t := 137) (n := 32) (allV l) i (by omega) Tryz.underlying137 Tryz.underlying2 (by kernel_rfl)
      replace ix : ∀ w, (Instr.index 137 (numsV 32 (allV l)) (.int .i64 (i : Int))).run Tryz.prog w = .ok (.int .i64 (allV l i)) w := ix
      have HR := Lib.hid (show getV l (i : Int) = allV l i by rw [getV, if_neg (by omega), Int.toNat_natCast])
      clear h0 h1
      go_enter Tryz.func54, Tryz.ntmps54
      go_wp2_with (first
        | (go_at_call 82; refine (A1.out w _ HV.out).mono ?_; rintro e w1 ⟨rfl, hb⟩; have B1 := Lib.hid hb; clear hb))
      go_ret
      exact ⟨by rw [HR.out]; rfl, B1.out⟩
set_option maxRecDepth 100000 in
set_option maxHeartbeats 8000000 in
theorem refHas_any10 (l : List D2) (hl : l.length < 2000000) (r q : Int) (v : Value) (w : World) (hv : HasDots w v l) : Calls Tryz.prog 85 #[v, .agg #[.int .i64 r, .int .i64 q]] w fun e w' => e = .returned (.bool (hasV l r q)) ∧ Below w.heap.size w w' := by
  have HV := Lib.hid hv
  have MY := Lib.hid (fun w => refMay_any9 r q w)
  have GT := Lib.hid (fun w hv => refGet_any10 l hl r v w hv)
  have E0 := Lib.hid (show (w.alloc (.cells #[.int .i64 r, .int .i64 q] 29 (0, 0))).heap[w.heap.size]? = some (.cells #[.int .i64 r, .int .i64 q] 29 (0, 0)) from one_box w r q)
  obtain ⟨c0, c1⟩ := dot_cells (show _ = some (dotO r q) from E0.out)
  have C0 := Lib.hid c0
  have C1 := Lib.hid c1
  have B0 := Lib.hid ((Below.refl w.heap.size w).alloc (Nat.le_refl _) (.cells #[.int .i64 r, .int .i64 q] 29 (0, 0)))
  obtain ⟨ao, cap, rfl⟩ := dots_shape hv l.length rfl
  obtain ⟨n, hn⟩ : ∃ n, n = l.length := ⟨_, rfl⟩
  rw [← hn] at HV GT ⊢
  obtain ⟨G, hG⟩ : ∃ G, G = getV l r := ⟨_, rfl⟩
  rw [← hG] at GT
  have HR := Lib.hid (show hasV l r q = (mayD r q && decide (q ≤ G)) by rw [hasV, hG])
  clear hv hl hn hG c0 c1
  cases hm : mayD r q with
  | true =>
    rw [hm] at MY HR
    clear hm
    go_enter Tryz.func85, Tryz.ntmps85
    go_wp2
    generalize w.alloc (.cells #[.int .i64 r, .int .i64 q] 29 (0, 0)) = W0 at *
    refine wp_region_held_drew (S := fun w' => Below W0.heap.size W0 w') (by kernel_rfl) (drawS (Below.refl _ _)) (fun hHeld => ?_)
    generalize W0.drew = wd at hHeld ⊢
    refine take_at (i := 0) 5 rfl rfl (by kernel_rfl) (by kernel_rfl) (by kernel_rfl) (fun _ _ _ h => h) (row_yields (by rfl) 29 (.tmp 3) rfl w.heap.size rfl 29 _ (0, 0) _ Tryz.underlying29 rfl (by kernel_rfl) (fun _ h => row_kept E0.out h)) hHeld ?_
    simp only [List.setIfInBounds_toArray, List.set_cons_zero, List.set_cons_succ]
    refine wpAnyH_ready (rs := [1]) (by kernel_rfl) (by simp) ?_
    refine AllReadyH.cons rfl (fun K hK => ?_) AllReadyH.nil
    go_simp
    go_at_call 84
    refine (MY.out _).mono ?_
    rintro e w6 ⟨rfl, hb⟩
    dsimp only
    refine hK.out _ _ (below_next hHeld hb) (fun hHeld => ?_)
    clear hK K hb
    refine take_at (i := 2) 7 rfl rfl (by kernel_rfl) (by kernel_rfl) (by kernel_rfl) (fun _ _ _ h => h) (sure_yes (by rfl) (fun w => by go_simp; try with_reducible rfl)) hHeld ?_
    simp only [List.setIfInBounds_toArray, List.set_cons_zero, List.set_cons_succ]
    refine take_at (i := 3) 8 rfl rfl (by kernel_rfl) (by kernel_rfl) (by kernel_rfl) (fun _ _ _ h => h) (sure_yes (by rfl) (fun w => by go_simp; try with_reducible rfl)) hHeld ?_
    simp only [List.setIfInBounds_toArray, List.set_cons_zero, List.set_cons_succ]
    refine take_at (i := 5) 10 rfl rfl (by kernel_rfl) (by kernel_rfl) (by kernel_rfl) (fun _ _ _ h => h) (sure_yes (by rfl) (fun w => by go_simp; try with_reducible rfl)) hHeld ?_
    simp only [List.setIfInBounds_toArray, List.set_cons_zero, List.set_cons_succ]
    refine take_at (i := 6) 11 rfl rfl (by kernel_rfl) (by kernel_rfl) (by kernel_rfl) (fun _ _ _ h => h) (sure_yes (by rfl) (fun w => by go_simp; try with_reducible rfl)) hHeld ?_
    simp only [List.setIfInBounds_toArray, List.set_cons_zero, List.set_cons_succ]
    refine take_at (i := 4) 9 rfl rfl (by kernel_rfl) (by kernel_rfl) (by kernel_rfl) (fun _ _ _ h => h) (cell_yields (by rfl) 2 (.tmp 8) rfl w.heap.size 1 rfl .i64 q Tryz.underlying2 (fun w h => (World.cell?_of_block (h.block _ (World.block_lt_of_cell? _ _ C1.out))).trans C1.out)) hHeld ?_
    simp only [List.setIfInBounds_toArray, List.set_cons_zero, List.set_cons_succ]
    refine take_at (i := 7) 12 rfl rfl (by kernel_rfl) (by kernel_rfl) (by kernel_rfl) (fun _ _ _ h => h) (cell_yields (by rfl) 3 (.tmp 11) rfl w.heap.size 0 rfl .i64 r Tryz.underlying3 (fun w h => (World.cell?_of_block (h.block _ (World.block_lt_of_cell? _ _ C0.out))).trans C0.out)) hHeld ?_
    simp only [List.setIfInBounds_toArray, List.set_cons_zero, List.set_cons_succ]
    refine wpAnyH_ready (rs := [8]) (by kernel_rfl) (by simp) ?_
    refine AllReadyH.cons rfl (fun K hK => ?_) AllReadyH.nil
    go_simp
    go_at_call 54
    refine (GT.out _ (dots_below HV.out (below_next B0.out hHeld))).mono ?_
    rintro e w6 ⟨rfl, hb⟩
    dsimp only
    refine hK.out _ _ (below_next hHeld hb) (fun hHeld => ?_)
    clear hK K hb
    refine take_at (i := 9) 14 rfl rfl (by kernel_rfl) (by kernel_rfl) (by kernel_rfl) (fun _ _ _ h => h) (sure_yes (by rfl) (fun w => by go_simp; try with_reducible rfl)) hHeld ?_
    simp only [List.setIfInBounds_toArray, List.set_cons_zero, List.set_cons_succ]
    refine take_at (i := 10) 15 rfl rfl (by kernel_rfl) (by kernel_rfl) (by kernel_rfl) (fun _ _ _ h => h) (sure_yes (by rfl) (fun w => by go_simp; try with_reducible rfl)) hHeld ?_
    simp only [List.setIfInBounds_toArray, List.set_cons_zero, List.set_cons_succ]
    refine take_at (i := 11) 4 rfl rfl (by kernel_rfl) (by kernel_rfl) (by kernel_rfl) (fun _ _ _ h => h) (sure_yes (by rfl) (fun w => by go_simp; try with_reducible rfl)) hHeld ?_
    simp only [List.setIfInBounds_toArray, List.set_cons_zero, List.set_cons_succ]
    refine wpAnyH_done (by kernel_rfl) ?_ _
    go_wp2
    go_ret
    exact ⟨by rw [HR.out]; rfl, below_next B0.out hHeld⟩
  | false =>
    rw [hm] at MY HR
    clear hm
    go_enter Tryz.func85, Tryz.ntmps85
    go_wp2
    generalize w.alloc (.cells #[.int .i64 r, .int .i64 q] 29 (0, 0)) = W0 at *
    refine wp_region_held_drew (S := fun w' => Below W0.heap.size W0 w') (by kernel_rfl) (drawS (Below.refl _ _)) (fun hHeld => ?_)
    generalize W0.drew = wd at hHeld ⊢
    refine take_at (i := 0) 5 rfl rfl (by kernel_rfl) (by kernel_rfl) (by kernel_rfl) (fun _ _ _ h => h) (row_yields (by rfl) 29 (.tmp 3) rfl w.heap.size rfl 29 _ (0, 0) _ Tryz.underlying29 rfl (by kernel_rfl) (fun _ h => row_kept E0.out h)) hHeld ?_
    simp only [List.setIfInBounds_toArray, List.set_cons_zero, List.set_cons_succ]
    refine wpAnyH_ready (rs := [1]) (by kernel_rfl) (by simp) ?_
    refine AllReadyH.cons rfl (fun K hK => ?_) AllReadyH.nil
    go_simp
    go_at_call 84
    refine (MY.out _).mono ?_
    rintro e w6 ⟨rfl, hb⟩
    dsimp only
    refine hK.out _ _ (below_next hHeld hb) (fun hHeld => ?_)
    clear hK K hb
    refine take_at (i := 2) 7 rfl rfl (by kernel_rfl) (by kernel_rfl) (by kernel_rfl) (fun _ _ _ h => h) (sure_yes (by rfl) (fun w => by go_simp; try with_reducible rfl)) hHeld ?_
    simp only [List.setIfInBounds_toArray, List.set_cons_zero, List.set_cons_succ]
    refine take_at (i := 3) 8 rfl rfl (by kernel_rfl) (by kernel_rfl) (by kernel_rfl) (fun _ _ _ h => h) (.inr ⟨by rfl, rfl⟩) hHeld ?_
    simp only [List.setIfInBounds_toArray, List.set_cons_zero, List.set_cons_succ]
    refine take_at (i := 4) 9 rfl rfl (by kernel_rfl) (by kernel_rfl) (by kernel_rfl) (fun _ _ _ h => h) (.inr ⟨by rfl, rfl⟩) hHeld ?_
    simp only [List.setIfInBounds_toArray, List.set_cons_zero, List.set_cons_succ]
    refine take_at (i := 5) 10 rfl rfl (by kernel_rfl) (by kernel_rfl) (by kernel_rfl) (fun _ _ _ h => h) (.inr ⟨by rfl, rfl⟩) hHeld ?_
    simp only [List.setIfInBounds_toArray, List.set_cons_zero, List.set_cons_succ]
    refine take_at (i := 6) 11 rfl rfl (by kernel_rfl) (by kernel_rfl) (by kernel_rfl) (fun _ _ _ h => h) (.inr ⟨by rfl, rfl⟩) hHeld ?_
    simp only [List.setIfInBounds_toArray, List.set_cons_zero, List.set_cons_succ]
    refine take_at (i := 7) 12 rfl rfl (by kernel_rfl) (by kernel_rfl) (by kernel_rfl) (fun _ _ _ h => h) (.inr ⟨by rfl, rfl⟩) hHeld ?_
    simp only [List.setIfInBounds_toArray, List.set_cons_zero, List.set_cons_succ]
    refine take_at (i := 8) 13 rfl rfl (by kernel_rfl) (by kernel_rfl) (by kernel_rfl) (fun _ _ _ h => h) (.inr ⟨by rfl, rfl⟩) hHeld ?_
    simp only [List.setIfInBounds_toArray, List.set_cons_zero, List.set_cons_succ]
    refine take_at (i := 9) 14 rfl rfl (by kernel_rfl) (by kernel_rfl) (by kernel_rfl) (fun _ _ _ h => h) (.inr ⟨by rfl, rfl⟩) hHeld ?_
    simp only [List.setIfInBounds_toArray, List.set_cons_zero, List.set_cons_succ]
    refine take_at (i := 10) 15 rfl rfl (by kernel_rfl) (by kernel_rfl) (by kernel_rfl) (fun _ _ _ h => h) (sure_yes (by rfl) (fun w => by go_simp; try with_reducible rfl)) hHeld ?_
    simp only [List.setIfInBounds_toArray, List.set_cons_zero, List.set_cons_succ]
    refine take_at (i := 11) 4 rfl rfl (by kernel_rfl) (by kernel_rfl) (by kernel_rfl) (fun _ _ _ h => h) (sure_yes (by rfl) (fun w => by go_simp; try with_reducible rfl)) hHeld ?_
    simp only [List.setIfInBounds_toArray, List.set_cons_zero, List.set_cons_succ]
    refine wpAnyH_done (by kernel_rfl) ?_ _
    go_wp2
    go_ret
    exact ⟨by rw [HR.out]; rfl, below_next B0.out hHeld⟩
end Go.Proofs.YtlcojmligbikoaaGreatDoor
namespace Go.Proofs.YtlcojmligbikoaaGreatDoor
open Go.RowKit
theorem two_evs (w : World) (T : TypeId) (e f : Ev) (v u : Value) : EvAt ((w.alloc (.cells (evC e v) T (0, 0))).alloc (.cells (evC f u) T (0, 0))) w.heap.size T e v ∧ EvAt ((w.alloc (.cells (evC e v) T (0, 0))).alloc (.cells (evC f u) T (0, 0))) (w.heap.size + 1) T f u ∧ Below w.heap.size w ((w.alloc (.cells (evC e v) T (0, 0))).alloc (.cells (evC f u) T (0, 0))) :=
  ⟨evAt_kept (box_ev w T e v) ((Below.refl _ _).alloc (Nat.le_refl _) _), by
    have h := box_ev (w.alloc (.cells (evC e v) T (0, 0))) T f u
    rwa [show (w.alloc (.cells (evC e v) T (0, 0))).heap.size = w.heap.size + 1 by simp] at h, ((Below.refl w.heap.size w).alloc (Nat.le_refl _) _).alloc (by simp) _⟩
end Go.Proofs.YtlcojmligbikoaaGreatDoor
namespace Go.Proofs.YtlcojmligbikoaaGreatDoor
open Go.RowKit
set_option maxRecDepth 100000 in
set_option maxHeartbeats 4000000 in
theorem isNaN_str (s : List UInt8) (w : World) : Calls Tryz.prog 78 #[.string (str s)] w fun e w' => e = .returned (.bool false) ∧ w = w' := by
  go_enter Tryz.func78, Tryz.ntmps78
  go_wp2
  go_ret
  exact ⟨by simp, rfl⟩
set_option maxRecDepth 100000 in
set_option maxHeartbeats 16000000 in
theorem cmpStr_any (a b : List UInt8) (w : World) : Calls Tryz.prog 48 #[.string (str a), .string (str b)] w fun e w' => e = .returned (.int .i64 (cmpB a b)) ∧ w = w' := by
  have N1 := Lib.hid (isNaN_str a)
  have N2 := Lib.hid (isNaN_str b)
  have s1 : (str a).toList = a := str_toList a
  have s2 : (str b).toList = b := str_toList b
  rcases cmpB_cases a b with ⟨hc, he⟩ | ⟨hc, hl, hn⟩ | ⟨hc, hl, hn⟩
  · have q1 : Op.bytesLess a b = false := by rw [he]; exact bytesLess_irrefl b
    have q2 : (a == b) = true := by rw [he]; simp
    clear he
    have HR := Lib.hid (show cmpB a b = 0 by exact hc)
    clear hc
    go_enter Tryz.func48, Tryz.ntmps48
    go_upto_region 2 with (first | (go_at_call 78; refine (N1.out _).mono ?_; rintro e w1 ⟨rfl, rfl⟩))
    go_wp2_with (first | (go_at_call 78; refine (N2.out _).mono ?_; rintro e w1 ⟨rfl, rfl⟩))
    go_ret
    exact ⟨by rw [HR.out]; try rfl, rfl⟩
  · have q1 : Op.bytesLess a b = true := hl
    clear hl hn
    have HR := Lib.hid (show cmpB a b = -1 by exact hc)
    clear hc
    go_enter Tryz.func48, Tryz.ntmps48
    go_upto_region 2 with (first | (go_at_call 78; refine (N1.out _).mono ?_; rintro e w1 ⟨rfl, rfl⟩))
    go_wp2_with (first | (go_at_call 78; refine (N2.out _).mono ?_; rintro e w1 ⟨rfl, rfl⟩))
    go_ret
    exact ⟨by rw [HR.out]; try rfl, rfl⟩
  · have q1 : Op.bytesLess a b = false := bl_asymm hl
    have q2 : (a == b) = false := beq_eq_false_iff_ne.2 hn
    clear hl hn
    have HR := Lib.hid (show cmpB a b = 1 by exact hc)
    clear hc
    go_enter Tryz.func48, Tryz.ntmps48
    go_upto_region 2 with (first | (go_at_call 78; refine (N1.out _).mono ?_; rintro e w1 ⟨rfl, rfl⟩))
    go_wp2_with (first | (go_at_call 78; refine (N2.out _).mono ?_; rintro e w1 ⟨rfl, rfl⟩))
    go_ret
    exact ⟨by rw [HR.out]; try rfl, rfl⟩
end Go.Proofs.YtlcojmligbikoaaGreatDoor
namespace Go.Proofs.YtlcojmligbikoaaGreatDoor
open Go.RowKit
theorem cell_under12 {w w' : World} {A : Addr} {u : Value} (hc : w.cell? A = some u) (hb : Below w.heap.size w w') : w'.cell? A = some u :=
  (World.cell?_of_block (hb.block A.block (World.block_lt_of_cell? w _ hc))).trans hc
theorem ev_fieldM {w : World} {A : Addr} {e : Ev} {v : Value} (hc : ∀ j u, (evC e v)[j]? = some u → w.cell? (A.add j) = some u) (j : Nat) (hj : j ≠ 0) (u : Value) (hu : (evC e v)[j]? = some u) : w.cell? ⟨A.block, A.off + j, none⟩ = some u := by
  have h := hc j u hu
  unfold Addr.add at h
  rw [if_neg hj] at h
  exact h
theorem fst_atM {us : List (Ev × Value)} {k : Nat} {x : Ev × Value} (h : us[k]? = some x) : (us.map (·.1))[k]? = some x.1 := by rw [List.getElem?_map, h]; rfl
end Go.Proofs.YtlcojmligbikoaaGreatDoor
namespace Go.Proofs.YtlcojmligbikoaaGreatDoor
open Go.RowKit
theorem addr_zeroP (a : Addr) : a.add 0 = a := by unfold Addr.add; split <;> simp_all
theorem evsC_take_drop (us : List (Ev × Value)) (i : Nat) : evsC us = evsC (us.take i) ++ evsC (us.drop i) := by rw [← evsC_append, List.take_append_drop]
/-- What lies ahead of a place. -/
theorem slice_lo {P : Program} {w : World} {t : TypeId} (ht : P.underlying t = some (.slice (P.elem t))) (hz : ∀ w, (sizeOf (P.elem t)).run P w = .ok 38 w) {v : Value} {us : List (Ev × Value)} (h : HoldsU w v us) (i : Nat) (hi : i ≤ us.length) :
    ∃ v', (Instr.sliceAt t v none (some (.int .i64 (i : Int))) none).run P w = .ok v' w ∧ HoldsU w v' (us.take i) := by
  obtain ⟨ao, cap, rfl, hnil, hc⟩ := id h
  have hcap : us.length ≤ cap := by
    cases ao with
    | none => obtain ⟨h1, h2⟩ := hnil rfl; rw [h1]; simp
    | some ad => exact (hc ad rfl).1
  refine ⟨sliced ao 0 i cap 38, ?_, ?_⟩
  · rw [run_sliceAt_slice _ _ _ _ _ _ ht, run_slice_h _ _ _ _ _ ht _ _ (by omega) (by omega), hz]
    simp [Result.andThen]
  · unfold sliced
    have e1 : (if cap = 0 then ao else ao.map (·.add (0 * 38))) = ao := by
      split
      · rfl
      · cases ao with
        | none => rfl
        | some ad => simp [addr_zeroP]
    rw [e1]
    have hl : (us.take i).length = i := by rw [List.length_take]; omega
    refine ⟨ao, cap, by rw [hl]; rfl, fun h => ?_, fun ad had => ⟨by omega, fun j u hu => (hc ad had).2 j u ?_⟩⟩
    · obtain ⟨h1, h2⟩ := hnil h
      exact ⟨by rw [h1]; simp, h2⟩
    · rw [evsC_take_drop us i, List.getElem?_append_left (List.getElem?_eq_some_iff.1 hu).1]
      exact hu
/-- What lies behind it. -/
theorem slice_hi {P : Program} {w : World} {t : TypeId} (ht : P.underlying t = some (.slice (P.elem t))) (hz : ∀ w, (sizeOf (P.elem t)).run P w = .ok 38 w) {v : Value} {us : List (Ev × Value)} (h : HoldsU w v us) (i : Nat) (hi : i ≤ us.length) :
    ∃ v', (Instr.sliceAt t v (some (.int .i64 (i : Int))) none none).run P w = .ok v' w ∧ HoldsU w v' (us.drop i) := by
  obtain ⟨ao, cap, rfl, hnil, hc⟩ := id h
  refine ⟨sliced ao i us.length cap 38, ?_, ?_⟩
  · rw [run_sliceAt_slice _ _ _ _ _ _ ht, run_slice_l _ _ _ _ _ ht _ _ (by omega) (by omega), hz]
    simp [Result.andThen]
  · unfold sliced
    have hl : (us.drop i).length = us.length - i := by rw [List.length_drop]
    cases ao with
    | none =>
      obtain ⟨h1, h2⟩ := hnil rfl
      subst h1
      subst h2
      simp only [List.length_nil, Nat.zero_sub, Option.map_none, ite_self, List.drop_nil]
      exact holdsU_nil w
    | some ad =>
      have hcap := (hc ad rfl).1
      by_cases hci : cap = i
      · rw [if_pos hci]
        have h0 : us.drop i = [] := List.drop_eq_nil_of_le (by omega)
        rw [h0]
        exact ⟨some ad, cap - i, by rw [show us.length - i = 0 by omega]; rfl, (fun h => by cases h), fun b hb => ⟨by simp, fun j u hu => by simp [evsC] at hu⟩⟩
      · rw [if_neg hci]
        refine ⟨some (ad.add (i * 38)), cap - i, by rw [hl]; rfl, (fun h => by cases h), fun b hb => ⟨by omega, fun j u hu => ?_⟩⟩
        cases hb
        rw [addr_add2]
        refine (hc ad rfl).2 _ _ ?_
        rw [evsC_take_drop us i, List.getElem?_append_right (by rw [evsC_length, List.length_take]; omega)]
        rw [evsC_length, List.length_take, show i * 38 + j - min i us.length * 38 = j by rw [Nat.min_eq_left hi]; omega]
        exact hu
theorem wpList_slice_lo {P : Program} {w : World} {ops : Array Oper} {rest : List Oper} {o : Oper} {a : Act} {Q : Exit → Act → World → Prop} (hg : o.guard = none) (s x : Operand) (t : TypeId) (ho : o.op = .slice t s none (some x) none)
    (ht : P.underlying t = some (.slice (P.elem t))) (hz : ∀ w, (sizeOf (P.elem t)).run P w = .ok 38 w) (v : Value) (us : List (Ev × Value)) (hs : a.eval s = v) (i : Nat) (hx : a.eval x = .int .i64 (i : Int)) (h : HoldsU w v us) (hi : i ≤ us.length)
    (hK : ∀ v', HoldsU w v' (us.take i) → wpList P ops Q rest (a.put o.dst v') w) : wpList P ops Q (o :: rest) a w := by
  refine wpList_plain hg fun K' hK' => ?_
  obtain ⟨v', hrun, h'⟩ := slice_lo ht hz h i hi
  unfold Oper.wp
  simp [execOp, ho, hs, hx, hrun, Result.andThen]
  exact hK' _ _ (hK v' h')
theorem wpList_slice_hi {P : Program} {w : World} {ops : Array Oper} {rest : List Oper} {o : Oper} {a : Act} {Q : Exit → Act → World → Prop} (hg : o.guard = none) (s x : Operand) (t : TypeId) (ho : o.op = .slice t s (some x) none none)
    (ht : P.underlying t = some (.slice (P.elem t))) (hz : ∀ w, (sizeOf (P.elem t)).run P w = .ok 38 w) (v : Value) (us : List (Ev × Value)) (hs : a.eval s = v) (i : Nat) (hx : a.eval x = .int .i64 (i : Int)) (h : HoldsU w v us) (hi : i ≤ us.length)
    (hK : ∀ v', HoldsU w v' (us.drop i) → wpList P ops Q rest (a.put o.dst v') w) : wpList P ops Q (o :: rest) a w := by
  refine wpList_plain hg fun K' hK' => ?_
  obtain ⟨v', hrun, h'⟩ := slice_hi ht hz h i hi
  unfold Oper.wp
  simp [execOp, ho, hs, hx, hrun, Result.andThen]
  exact hK' _ _ (hK v' h')
/-- Any slice of events appended to one of the call's own. -/
theorem append_us {P : Program} {w : World} {ops : Array Oper} {rest : List Oper} {o : Oper} {a : Act} {Q : Exit → Act → World → Prop} (hgd : o.guard = none) (s x : Operand) (t : TypeId)
    (ho : o.op = .call { callee := .builtin .append, args := #[s, x], argTypes := #[t, t] })
    (base : Nat) (e : TypeId) (i : TypeInfo) (ht : P.underlying t = some (.slice e)) (hi : P.info? e = some i) (hz : (i.zero.map (·.cells.size), i.size, i.bytes) = (some 38, 38, 104))
    (v : Value) (us ys : List (Ev × Value)) (hs : a.eval s = v) (hown : w.ownsRow base e 38 v us.length (evsC us)) (hone : ∀ y ∈ ys, y.2.oneCell' = true) (xv : Value) (hx : a.eval x = xv) (hxs : HoldsU w xv ys)
    (hlen : us.length + ys.length ≤ 100000) (hbase : base ≤ w.heap.size)
    (h : ∀ v' w', w'.ownsRow base e 38 v' (us ++ ys).length (evsC (us ++ ys)) → w.grownBy w' v.ownBlock → wpList P ops Q rest (a.put o.dst v') w') : wpList P ops Q (o :: rest) a w := by
  obtain ⟨ao, cap, rfl, hnil, hc⟩ := hxs
  cases ao with
  | none =>
    obtain ⟨rfl, rfl⟩ := hnil rfl
    refine wpList_append_own_none hgd s x t ho base e i 38 ht hi v us.length (evsC us) hs hown (by simpa using hx) ?_
    have := h v w (by simpa using hown) ⟨rfl, rfl, rfl, Nat.le_refl _, fun k _ _ => rfl⟩
    exact this
  | some ad => exact append_evs hgd s x t ho base e i ht hi hz v us ys hs hown hone ad ys.length cap hx rfl (hc ad rfl).2 hlen hbase h
theorem own_holds {w : World} {base : Nat} {e : TypeId} {v : Value} {us : List (Ev × Value)} (h : w.ownsRow base e 38 v us.length (evsC us)) : HoldsU w v us := by
  rcases h.2 with ⟨rfl, h0⟩ | ⟨g, cap, cur, rfl, h1, h2, h3, h4, h5, h6⟩
  · have h7 := List.eq_nil_of_length_eq_zero h0
    subst h7
    exact holdsU_nil w
  · refine ⟨some ⟨g, 0, none⟩, cap, rfl, (fun h => by cases h), fun ad had => ⟨h3, fun j u hu => ?_⟩⟩
    cases had
    rw [Addr.add_lit, Nat.zero_add]
    simp only [World.cell?, h2]
    rw [← Array.getElem?_toList]
    have hj := (List.getElem?_eq_some_iff.1 hu).1
    rw [← h6, List.getElem?_take_of_lt (by rw [evsC_length] at hj; exact hj)] at hu
    exact hu
theorem own_empty {w : World} {base B : Nat} {e : TypeId} (h : w.heap[B]? = some (.cells #[] e (0, 0))) (hb : base ≤ B) : w.ownsRow base e 38 (.slice (some ⟨B, 0, none⟩) 0 0) ([] : List (Ev × Value)).length (evsC []) :=
  ⟨rfl, .inr ⟨B, 0, #[], rfl, hb, h, Nat.le_refl _, Nat.zero_le _, rfl, rfl⟩⟩
end Go.Proofs.YtlcojmligbikoaaGreatDoor
namespace Go.Proofs.YtlcojmligbikoaaGreatDoor
open Go.RowKit
set_option maxRecDepth 100000 in
set_option maxHeartbeats 16000000 in
theorem refKnows_any12 (e f : Ev) (hl : e.deps.length < 2000000) (v u : Value) (w : World) (hv : HasDots w v e.deps) : Calls Tryz.prog 56 #[.agg (evC e v), .agg (evC f u)] w fun x w' => x = .returned (.bool (hasV e.deps f.r f.q)) ∧ Below w.heap.size w w' := by
  obtain ⟨h1, h2, h3⟩ := two_evs w 62 e f v u
  have E1 := Lib.hid h1
  have E2 := Lib.hid h2
  have B0 := Lib.hid h3
  have HH := Lib.hid (refHas_any10 e.deps hl f.r f.q v _ (dots_below hv h3))
  obtain ⟨-, -, c2, -, -, -⟩ := evAt_cells h1
  obtain ⟨ao, cap, rfl⟩ := dots_shape hv e.deps.length rfl
  clear h1 h2 h3 hv hl
  go_enter Tryz.func56, Tryz.ntmps56
  go_upto_region 1 with fail
  generalize (w.alloc (.cells (evC e (.slice ao e.deps.length cap)) 62 (0, 0))).alloc (.cells (evC f u) 62 (0, 0)) = W0 at *
  go_wp2_with (first
    | (refine load_dot10 (by rfl) 29 (.tmp 7) rfl ⟨w.heap.size + 1, 0, none⟩ rfl f.r f.q Tryz.underlying29 (by kernel_rfl) (evAt_dot E2.out) ?_)
    | (go_at_call 85; refine HH.out.mono ?_; rintro x w1 ⟨rfl, hb⟩; have B1 := Lib.hid (below_next B0.out hb); clear hb))
  go_ret
  exact ⟨rfl, B1.out⟩
set_option maxRecDepth 100000 in
set_option maxHeartbeats 16000000 in
theorem refCmp_any12 (e f : Ev) (v u : Value) (w : World) : Calls Tryz.prog 58 #[.agg (evC e v), .agg (evC f u)] w fun x w' => x = .returned (.int .i64 (cmpE e f)) ∧ Below w.heap.size w w' := by
  obtain ⟨h1, h2, h3⟩ := two_evs w 62 e f v u
  have E1 := Lib.hid h1
  have E2 := Lib.hid h2
  have B0 := Lib.hid h3
  obtain ⟨-, -, -, -, d4, -⟩ := evAt_cells h1
  obtain ⟨-, -, -, -, f4, -⟩ := evAt_cells h2
  have CD := Lib.hid (fun w => refCompare_any e.r e.q f.r f.q w)
  have s1 : (str e.path).toList = e.path := str_toList _
  have s2 : (str f.path).toList = f.path := str_toList _
  rcases cmpB_cases e.path f.path with ⟨hc, he⟩ | ⟨hc, hl, hn⟩ | ⟨hc, hl, hn⟩
  · have HR := Lib.hid (show cmpE e f = cmpD e.r e.q f.r f.q by rw [cmpE, if_pos hc])
    have q1 : Op.bytesLess e.path f.path = false := by rw [he]; exact bytesLess_irrefl _
    have q2 : (e.path == f.path) = true := by rw [he]; simp
    clear h1 h2 h3 hc he
    go_enter Tryz.func58, Tryz.ntmps58
    go_upto_region 1 with fail
    generalize (w.alloc (.cells (evC e v) 62 (0, 0))).alloc (.cells (evC f u) 62 (0, 0)) = W0 at *
    go_wp2_with (first
      | (refine load_dot10 (by rfl) 29 (.tmp 15) rfl ⟨w.heap.size, 0, none⟩ rfl e.r e.q Tryz.underlying29 (by kernel_rfl) (evAt_dot E1.out) ?_)
      | (refine load_dot10 (by rfl) 29 (.tmp 17) rfl ⟨w.heap.size + 1, 0, none⟩ rfl f.r f.q Tryz.underlying29 (by kernel_rfl) (evAt_dot E2.out) ?_)
      | (go_at_call 57; refine (CD.out _).mono ?_; rintro x w1 ⟨rfl, hb⟩; have B1 := Lib.hid (below_next B0.out hb); clear hb))
    go_ret
    exact ⟨by rw [HR.out]; rfl, B1.out⟩
  · have HR := Lib.hid (show cmpE e f = -1 by rw [cmpE, if_neg (by omega), hc])
    have q1 : Op.bytesLess e.path f.path = true := hl
    clear h1 h2 h3 hc hl hn
    go_enter Tryz.func58, Tryz.ntmps58
    go_upto_region 1 with fail
    generalize (w.alloc (.cells (evC e v) 62 (0, 0))).alloc (.cells (evC f u) 62 (0, 0)) = W0 at *
    go_wp2_with (first
      | (refine load_dot10 (by rfl) 29 (.tmp 15) rfl ⟨w.heap.size, 0, none⟩ rfl e.r e.q Tryz.underlying29 (by kernel_rfl) (evAt_dot E1.out) ?_)
      | (refine load_dot10 (by rfl) 29 (.tmp 17) rfl ⟨w.heap.size + 1, 0, none⟩ rfl f.r f.q Tryz.underlying29 (by kernel_rfl) (evAt_dot E2.out) ?_)
      | (go_at_call 57; refine (CD.out _).mono ?_; rintro x w1 ⟨rfl, hb⟩; have B1 := Lib.hid (below_next B0.out hb); clear hb))
    go_ret
    exact ⟨by rw [HR.out]; rfl, B0.out⟩
  · have HR := Lib.hid (show cmpE e f = 1 by rw [cmpE, if_neg (by omega), hc])
    have q1 : Op.bytesLess e.path f.path = false := bl_asymm hl
    have q2 : (e.path == f.path) = false := beq_eq_false_iff_ne.2 hn
    clear h1 h2 h3 hc hl hn
    go_enter Tryz.func58, Tryz.ntmps58
    go_upto_region 1 with fail
    generalize (w.alloc (.cells (evC e v) 62 (0, 0))).alloc (.cells (evC f u) 62 (0, 0)) = W0 at *
    go_wp2_with (first
      | (refine load_dot10 (by rfl) 29 (.tmp 15) rfl ⟨w.heap.size, 0, none⟩ rfl e.r e.q Tryz.underlying29 (by kernel_rfl) (evAt_dot E1.out) ?_)
      | (refine load_dot10 (by rfl) 29 (.tmp 17) rfl ⟨w.heap.size + 1, 0, none⟩ rfl f.r f.q Tryz.underlying29 (by kernel_rfl) (evAt_dot E2.out) ?_)
      | (go_at_call 57; refine (CD.out _).mono ?_; rintro x w1 ⟨rfl, hb⟩; have B1 := Lib.hid (below_next B0.out hb); clear hb))
    go_ret
    exact ⟨by rw [HR.out]; rfl, B0.out⟩
end Go.Proofs.YtlcojmligbikoaaGreatDoor
