/-
Texts that all claims of this seat share, part 1: VecMore, HexaFace, Event, Ref06Copy, Ref09, Ref09Parse, Mark, Ref10, Ref10Of, Events, Open12, EventOrd, RawMap, KeyMap, Stable, Hist.
-/
import Derived.Deep.SlicePairs
import Derived.Test.YtppmbdpfledejaaGreatDoorProg
import Derived.WalkKit
import Derived.Lib.Hide
import Derived.WalkLawsBesides
import Derived.Lib.ItoaNum
import Derived.Lib.LaidTab
import Derived.Lib.Split
import Derived.Lib.IndexBytes
import Derived.Lib.IndexLaws
import Derived.Laws.DeepStrings4
import Derived.BigQuiet
import Derived.Deep.QuietTactic
import Derived.Deep.DeepCutAuto
import Derived.Laws.AppendOwn
import Derived.Laws.IdiomStrings
import Derived.StillTailTactics
import Derived.Deep.MidRow
import Derived.Sort.Walk0
import Derived.Maps.OwnSet
import Derived.Sort.KeysCollected
import Derived.DeepKeys4
import Derived.Test.YtppmbdpfledejaaGreatDoorPk0
namespace Go.Proofs.YtppmbdpfledejaaGreatDoor
/-- Whether a dot may stand next behind others. -/
def fol (l : List D2) (d : D2) : Bool := mayT d && (l.isEmpty || decide ((l.getLastD (0, 0)).1 < d.1))
/-- Dots that may be, of rising replicas. -/
def Rising (l : List D2) : Prop := l.Pairwise (fun a b => a.1 < b.1) ∧ ∀ d ∈ l, mayT d = true
theorem rising_nil : Rising [] := ⟨List.Pairwise.nil, fun _ h => by cases h⟩
theorem rising_snoc (l : List D2) (d : D2) : Rising (l ++ [d]) ↔ Rising l ∧ fol l d = true := by
  unfold Rising fol
  rw [List.pairwise_append, Bool.and_eq_true, Bool.or_eq_true, decide_eq_true_eq]
  constructor
  · rintro ⟨⟨h1, -, h2⟩, h3⟩
    refine ⟨⟨h1, fun x hx => h3 x (List.mem_append.2 (.inl hx))⟩, h3 d (by simp), ?_⟩
    by_cases h : l = []
    · left; rw [h]; rfl
    · right
      obtain ⟨a, b, rfl⟩ := list_snoc l h
      rw [List.getLastD_concat]; exact h2 b (by simp) d (by simp)
  · rintro ⟨⟨h1, h2⟩, h3, h4⟩
    refine ⟨⟨h1, List.pairwise_singleton _ _, fun x hx y hy => ?_⟩, fun x hx => ?_⟩
    · rw [List.mem_singleton.1 hy]
      rcases h4 with h4 | h4
      · rw [List.isEmpty_iff.1 h4] at hx; cases hx
      · obtain ⟨a, b, rfl⟩ := list_snoc l (fun e => by rw [e] at hx; cases hx)
        rw [List.getLastD_concat] at h4
        rcases List.mem_append.1 hx with hx | hx
        · have := (List.pairwise_append.1 h1).2.2 x hx b (by simp); omega
        · rw [List.mem_singleton.1 hx]; exact h4
    · rcases List.mem_append.1 hx with hx | hx
      · exact h2 x hx
      · rw [List.mem_singleton.1 hx]; exact h3
theorem allV_none {l : List D2} {i : Nat} (h : ∀ d ∈ l, d.1 ≠ (i : Int)) : allV l i = 0 := by
  revert h
  refine snoc_ind (P := fun l => (∀ d ∈ l, d.1 ≠ (i : Int)) → allV l i = 0) (fun _ => rfl) ?_ l
  intro l a ih h
  rw [allV_snoc, ih (fun d hd => h d (List.mem_append.2 (.inl hd))), seen, if_neg (fun hh => h a (by simp) hh.2.1)]
theorem ofN_stay {n : Nat → Int} {k : Nat} : ∀ m, k ≤ m → (∀ i, k ≤ i → i < m → n i = 0) → ofN n m = ofN n k := by
  intro m
  induction m with
  | zero => intro h _; rw [show k = 0 by omega]
  | succ m ih =>
    intro h h0
    by_cases e : k = m + 1
    · rw [e]
    · rw [ofN, ih (by omega) (fun i h1 h2 => h0 i h1 (by omega)), h0 m (by omega) (by omega), if_neg (by omega), List.append_nil]
theorem rising_of {l : List D2} (h : Rising l) : ∀ N : Nat, (∀ d ∈ l, d.1 < (N : Int)) → ofN (allV l) N = l := by
  revert h
  refine snoc_ind (P := fun l => Rising l → ∀ N : Nat, (∀ d ∈ l, d.1 < (N : Int)) → ofN (allV l) N = l) ?_ ?_ l
  · intro _ N _
    exact ofN_stay (n := allV []) (k := 0) N (Nat.zero_le _) (fun i _ _ => rfl)
  · intro l d ih h N hN
    have hh := (rising_snoc l d).1 h
    have hm := mayT_bd (h.2 d (by simp))
    have hlt : ∀ x ∈ l, x.1 < d.1 := fun x hx => (List.pairwise_append.1 h.1).2.2 x hx d (by simp)
    obtain ⟨k, hk⟩ : ∃ k : Nat, d.1 = (k : Int) := ⟨d.1.toNat, by omega⟩
    have hkN : k < N := by have := hN d (by simp); omega
    have h0 : allV l k = 0 := allV_none fun x hx => by have := hlt x hx; omega
    have hbig : ∀ i, k + 1 ≤ i → i < N → allV (l ++ [d]) i = 0 := fun i h1 _ => allV_none fun x hx => by
      rcases List.mem_append.1 hx with hx | hx
      · have := hlt x hx; omega
      · rw [List.mem_singleton.1 hx]; omega
    have hd : allV (l ++ [d]) k = d.2 := by
      rw [allV_snoc, h0, seen, if_pos ⟨h.2 d (by simp), hk, by omega⟩]
    rw [ofN_stay (k := k + 1) N (by omega) hbig, ofN, hd, if_pos (by omega)]
    rw [ofN_congr (m := allV l) (fun i hi => by rw [allV_snoc, seen, if_neg (fun hh => by have := hh.2.1; omega)]), ih hh.1 k (fun x hx => by have := hlt x hx; omega), ← hk]
theorem ofN_rising {n : Nat → Int} (h : Cnt n) : ∀ k, k ≤ 32 → Rising (ofN n k) := by
  intro k
  induction k with
  | zero => intro _; exact rising_nil
  | succ k ih =>
    intro hk
    rw [ofN]
    by_cases hp : 0 < n k
    · rw [if_pos hp, rising_snoc]
      refine ⟨ih (by omega), ?_⟩
      have hc := h k (by omega)
      have hm : mayT ((k : Int), n k) = true := decide_eq_true (by simp only; omega)
      rw [fol, hm, Bool.true_and, Bool.or_eq_true, decide_eq_true_eq]
      by_cases e : ofN n k = []
      · left; rw [e]; rfl
      · right
        obtain ⟨a, b, hab⟩ := list_snoc _ e
        rw [hab, List.getLastD_concat]
        obtain ⟨i, h1, h2, -⟩ := ofN_mem (n := n) (k := k) (d := b) (by rw [hab]; simp)
        rw [h2]; simp only; omega
    · rw [if_neg hp, List.append_nil]; exact ih (by omega)
theorem mayV_rising (l : List D2) : mayV l = true ↔ Rising l := by
  rw [mayV, beq_iff_eq]
  constructor
  · intro h; rw [h]; exact ofN_rising (allV_cnt l) 32 (Nat.le_refl _)
  · intro h; exact (rising_of h 32 (fun d hd => by have := mayT_bd (h.2 d hd); omega)).symm
theorem mayV_nil : mayV [] = true := (mayV_rising []).2 rising_nil
theorem rising_length {l : List D2} (h : mayV l = true) : l.length ≤ 32 := by
  rw [mayV, beq_iff_eq] at h
  rw [h]; exact ofN_length _ 32
end Go.Proofs.YtppmbdpfledejaaGreatDoor
namespace Go.Proofs.YtppmbdpfledejaaGreatDoor
open Go.RowKit
/-- The table of the powers of ten, as strconv lays it. -/
def PowTab (w : World) : Prop := Lib.TabIs Tryz.prog w "internal/strconv.uint64pow10" .u64 Lib.pow10Tab
theorem gPow : Tryz.prog.globalNamed "internal/strconv.uint64pow10" = some 1 := by kernel_rfl
theorem powTab_below {w w' : World} (h : PowTab w) (hb : Below w.heap.size w w') : PowTab w' := by
  unfold PowTab Lib.TabIs World.var? at h ⊢
  rw [gPow] at h ⊢
  simp only [Option.bind_some] at h ⊢
  have hlt : 1 < w.heap.size := by
    rcases Nat.lt_or_ge 1 w.heap.size with h' | h'
    · exact h'
    · rw [Array.getElem?_eq_none h'] at h; cases h
  rw [hb.block _ hlt]
  exact h
end Go.Proofs.YtppmbdpfledejaaGreatDoor
namespace Go.Proofs.YtppmbdpfledejaaGreatDoor
open Go.RowKit
/-- An event: its dot, what was known, its kind, its path, the digest, the size. -/
structure Ev where
  r : Int
  q : Int
  deps : List D2
  kind : Int
  path : List UInt8
  sum : Nat → BitVec 32
  size : Int
def zeroF : Nat → BitVec 32 := fun _ => 0#32
theorem zeroF_byt (i : Nat) : u32 (zeroF i) < 256 := by unfold zeroF; decide
def noEv : Ev := ⟨0, 0, [], 0, [], zeroF, 0⟩
def mayH (e : Ev) : Bool := if e.kind = 1 then decide (0 ≤ e.size) && decide (e.size ≤ 65536) else if e.kind = 2 then decide (e.size = 0) && sameRow 32 e.sum zeroF else false
def knownE (e : Ev) : Bool := mayV e.deps && decide (getV e.deps e.r = e.q - 1)
def mayE (e : Ev) : Bool := mayD e.r e.q && (knownE e && (ownP e.path && mayH e))
/-- The k-th word of a text, by its blanks. -/
def wd (s : List UInt8) (k : Nat) : List UInt8 := (piecesB 32 s).getD k []
end Go.Proofs.YtppmbdpfledejaaGreatDoor
namespace Go.Proofs.YtppmbdpfledejaaGreatDoor
open Go.RowKit
/-- Two texts one behind the other, as an operation, the whole under a name. -/
theorem add_as {P : Program} {o : Oper} {a : Act} {t rt : TypeId} {x y : Operand} {l m r : List UInt8} (ho : o.op = .binOp .add t x y rt) (hx : a.eval x = .string (str l)) (hy : a.eval y = .string (str m)) (hn : l.length + m.length ≤ 4611686018427387904) (hr : l ++ m = r) :
    ∀ w, (execOp a.eval o).run P w = .ok (.value (.string (str r))) w := by subst hr; exact add_op ho hx hy hn
end Go.Proofs.YtppmbdpfledejaaGreatDoor
namespace Go.Proofs.YtppmbdpfledejaaGreatDoor
open Go.RowKit
/-- A dot's cells, just boxed. -/
def dotO (r q : Int) : Obj := .cells #[.int .i64 r, .int .i64 q] 29 (0, 0)
theorem dot_cells {w : World} {g : Nat} {r q : Int} (h : w.heap[g]? = some (dotO r q)) : w.cell? ⟨g, 0, none⟩ = some (.int .i64 r) ∧ w.cell? ⟨g, 1, none⟩ = some (.int .i64 q) :=
  ⟨by rw [cell_of_row _ _ 0 _ _ _ h]; rfl, by rw [cell_of_row _ _ 1 _ _ _ h]; rfl⟩
theorem two_boxes (w : World) (r q r' q' : Int) : ((w.alloc (dotO r q)).alloc (dotO r' q')).heap[w.heap.size]? = some (dotO r q) ∧ ((w.alloc (dotO r q)).alloc (dotO r' q')).heap[w.heap.size + 1]? = some (dotO r' q') := by
  constructor
  · rw [heap_at_alloc, if_neg (by simp)]; exact heap_last _ _
  · have := heap_last (w.alloc (dotO r q)) (dotO r' q'); rwa [World.size_alloc] at this
set_option maxRecDepth 100000 in
set_option maxHeartbeats 4000000 in
theorem refCompare_any (r q r' q' : Int) (w : World) : Calls Tryz.prog 62 #[.agg #[.int .i64 r, .int .i64 q], .agg #[.int .i64 r', .int .i64 q']] w fun e w' => e = .returned (.int .i64 (cmpD r q r' q')) ∧ Below w.heap.size w w' := by
  obtain ⟨h1, h2⟩ := two_boxes w r q r' q'
  obtain ⟨c1, c2⟩ := dot_cells h1
  obtain ⟨d1, d2⟩ := dot_cells h2
  have H1 := Lib.hid h1
  have H2 := Lib.hid h2
  have B0 := Lib.hid (((Below.refl w.heap.size w).alloc (Nat.le_refl _) (dotO r q)).alloc (by simp) (dotO r' q'))
  have HC := Lib.hid (cmp_cases r q r' q')
  clear h1 h2
  unfold dotO at *
  go_enter Tryz.func62, Tryz.ntmps62
  go_upto_region 1 with fail
  generalize (w.alloc (.cells #[.int .i64 r, .int .i64 q] 29 (0, 0))).alloc (.cells #[.int .i64 r', .int .i64 q'] 29 (0, 0)) = W0 at *
  clear HC
  go_wp2_with (first
    | (refine load_row_on (by rfl) 29 (.tmp 2) rfl w.heap.size rfl 29 _ (0, 0) _ H1.out Tryz.underlying29 rfl (by kernel_rfl) ?_)
    | (refine load_row_on (by rfl) 29 (.tmp 3) rfl (w.heap.size + 1) rfl 29 _ (0, 0) _ H2.out Tryz.underlying29 rfl (by kernel_rfl) ?_))
  all_goals
    go_ret
    refine ⟨congrArg Ending.returned (show Value.int .i64 _ = Value.int .i64 _ from congrArg _ ?_), B0.out⟩
    unfold cmpD
    split <;> (try split) <;> (try omega)
  all_goals trace_state
/-- A dot's own box. -/
theorem one_box (w : World) (r q : Int) : (w.alloc (dotO r q)).heap[w.heap.size]? = some (dotO r q) := heap_last _ _
set_option maxRecDepth 100000 in
set_option maxHeartbeats 4000000 in
theorem refMay_any9 (r q : Int) (w : World) : Calls Tryz.prog 89 #[.agg #[.int .i64 r, .int .i64 q]] w fun e w' => e = .returned (.bool (mayD r q)) ∧ Below w.heap.size w w' := by
  have h1 := one_box w r q
  obtain ⟨c1, c2⟩ := dot_cells h1
  have B0 := Lib.hid ((Below.refl w.heap.size w).alloc (Nat.le_refl _) (dotO r q))
  clear h1
  unfold dotO at *
  go_enter Tryz.func89, Tryz.ntmps89
  go_wp2
  all_goals
    go_ret
    refine ⟨congrArg Ending.returned (show Value.bool _ = Value.bool _ from congrArg Value.bool ?_), B0.out⟩
    unfold mayD
    rw [Bool.eq_iff_iff]
    simp
    try omega
end Go.Proofs.YtppmbdpfledejaaGreatDoor
namespace Go.Proofs.YtppmbdpfledejaaGreatDoor
open Go.RowKit
theorem row_kept {g : Nat} {A B : World} {o : Obj} (h : A.heap[g]? = some o) (hb : Below A.heap.size A B) : B.heap[g]? = some o := (hb.block g (Array.getElem?_eq_some_iff.1 h).1).trans h
end Go.Proofs.YtppmbdpfledejaaGreatDoor
namespace Go.Proofs.YtppmbdpfledejaaGreatDoor
open Go.RowKit
theorem solo_below {g B : Nat} {w0 w w' : World} (hb : Below B w0 w) (h : Solo g w w') (hg : B ≤ g) : Below B w0 w' :=
  hb.trans ⟨h.os, h.tape, h.output, Nat.le_of_eq h.size.symm, fun j hj => h.block j (by omega)⟩
end Go.Proofs.YtppmbdpfledejaaGreatDoor
namespace Go.Proofs.YtppmbdpfledejaaGreatDoor
open Go.RowKit
/-- A number loaded from an address that is known in every world at hand. -/
theorem addr_yields {P : Program} {ops : Array Oper} {S : World → Prop} {o : Oper} {a : Act} (hw : Region.wanted o (yielded ops a.tmps) = true) (ty : TypeId) (x : Operand) (ho : o.op = .load ty x)
    (A : Addr) (hx : a.eval x = .pointer (some A)) (k : IntKind) (z : Int) (hu : P.underlying ty = some (.int k)) (hS : ∀ w, S w → w.cell? A = some (.int k z)) : YieldsIf P ops S o (.int k z) a :=
  .inl ⟨hw, fun w h => by
    have hc := hS w h
    unfold execOp
    simp [ho, hx, Instr.loadAt, Instr.sureAddr, loadVar, isAgg, run_underlying hu, hc]⟩
/-- A dot loaded from an address whose two cells are known in every world at hand. -/
theorem dot_yields {P : Program} {ops : Array Oper} {S : World → Prop} {o : Oper} {a : Act} (hw : Region.wanted o (yielded ops a.tmps) = true) (ty : TypeId) (x : Operand) (ho : o.op = .load ty x)
    (A : Addr) (hx : a.eval x = .pointer (some A)) (r q : Int) {fs : Array Field} (hu : P.underlying ty = some (.struct fs)) (hi : (P.info? ty).map (·.size) = some 2) (hS : ∀ w, S w → w.cell? A = some (.int .i64 r) ∧ w.cell? ⟨A.block, A.off + 1, none⟩ = some (.int .i64 q)) : YieldsIf P ops S o (.agg #[.int .i64 r, .int .i64 q]) a :=
  .inl ⟨hw, fun w h => by
    obtain ⟨h1, h2⟩ := hS w h
    have h3 : w.cell? (A.add 1) = some (.int .i64 q) := by rw [addr_next2 A 0]; simpa [Addr.add] using h2
    have h0 : A.add 0 = A := by unfold Addr.add; split <;> simp_all
    have hl : (loadCells A [Value.int .i64 r, Value.int .i64 q].length).run P w = .ok [Value.int .i64 r, Value.int .i64 q].toArray w :=
      run_loadCells_list (P := P) w A [Value.int .i64 r, Value.int .i64 q] (fun j v hv => by
        match j, hv with
        | 0, hv => rw [h0, h1]; exact hv
        | 1, hv => rw [h3]; exact hv)
    cases hq : P.info? ty with
    | none => simp [hq] at hi
    | some i =>
      have hs : i.size = 2 := by simpa [hq] using hi
      have hl2 : (loadCells A 2).run P w = .ok #[Value.int .i64 r, Value.int .i64 q] w := hl
      unfold execOp
      simp [ho, hx, Instr.loadAt, Instr.sureAddr, loadVar, isAgg, run_underlying hu, sizeOf, typeInfo, hq, hs, hl2]⟩

theorem zero32 : (Tryz.prog.info? 142).map (fun i => i.zero) = some (some (.agg (nums 32 fun _ => 0))) := by kernel_rfl
theorem allV_at {l : List D2} {k : Nat} {d : D2} (hd : l[k]? = some d) (i : Nat) : allV (l.take (k + 1)) i = seen i (allV (l.take k) i) d := by
  obtain ⟨h, rfl⟩ := List.getElem?_eq_some_iff.1 hd
  exact allV_take h i
theorem drawS {W w : World} (h : Below W.heap.size W w) : Below W.heap.size W w.drew := ⟨h.os, h.tape, h.output, h.size, h.block⟩
set_option maxRecDepth 100000 in
set_option maxHeartbeats 16000000 in
theorem refAll_any (l : List D2) (hl : l.length < 2000000) (v : Value) (w : World) (hv : HasDots w v l) : Calls Tryz.prog 87 #[v] w fun e w' => e = .returned (.agg (nums 32 (allV l))) ∧ Below w.heap.size w w' := by
  have HV := Lib.hid hv
  obtain ⟨n, hn⟩ : ∃ n, n = l.length := ⟨_, rfl⟩
  obtain ⟨ao, cap, rfl⟩ := dots_shape hv n hn
  have HN := Lib.hid hn
  have hn4 : n < 2000000 := by omega
  have Z0 := heap_last w (.cells (nums 32 fun _ => 0) 142 (0, 0))
  have Z1 := heap_last (w.alloc (.cells (nums 32 fun _ => 0) 142 (0, 0))) (.cells (nums 32 fun _ => 0) 142 (0, 0))
  have HZ := Lib.hid (And.intro (show ((w.alloc (.cells (nums 32 fun _ => 0) 142 (0, 0))).alloc (.cells (nums 32 fun _ => 0) 142 (0, 0))).heap[w.heap.size]? = some (.cells (nums 32 fun _ => 0) 142 (0, 0)) by rw [heap_at_alloc, if_neg (by simp)]; exact Z0) (by rwa [World.size_alloc] at Z1))
  have HB := Lib.hid (((Below.refl w.heap.size w).alloc (Nat.le_refl _) (.cells (nums 32 fun _ => 0) 142 (0, 0))).alloc (by simp) (.cells (nums 32 fun _ => 0) 142 (0, 0)))
  clear hn hv hl Z0 Z1
  go_enter Tryz.func87, Tryz.ntmps87
  go_wp2_with (first | (refine alloc_as rfl 142 rfl _ zero32 ?_))
  go_loopw [4] (fun c wr => ∃ k : Nat, k ≤ n ∧ c = .int .i64 (k : Int) ∧ wr.heap[w.heap.size]? = some (.cells (nums 32 fun _ => 0) 142 (0, 0)) ∧ wr.heap[w.heap.size + 1]? = some (.cells (nums 32 (allV (l.take k))) 142 (0, 0)) ∧ Below w.heap.size w wr) (fun c _ => n - (intOf c).toNat)
  case atStart => exact ⟨0, Nat.zero_le _, rfl, HZ.out.1, HZ.out.2, HB.out⟩
  case round =>
    clear HZ HB
    obtain ⟨k, hk, rfl, hz, ho, hb⟩ := hrel
    by_cases hlt : k < n
    · have q0 : (k : Int) < (n : Int) := by omega
      have hkl : k < l.length := by rw [← HN.out]; exact hlt
      obtain ⟨d, hd⟩ : ∃ d, l[k]? = some d := ⟨_, List.getElem?_eq_getElem hkl⟩
      have HA := Lib.hid (allV_at hd)
      obtain ⟨r, q⟩ := d
      obtain ⟨ad, cap', e, c0, c1⟩ := dots_at (dots_below HV.out hb) n k HN.out.symm _ hd
      cases e
      have C0 := Lib.hid c0
      have C1 := Lib.hid c1
      have HZ := Lib.hid hz
      have HO := Lib.hid ho
      have HB := Lib.hid hb
      have MY := Lib.hid (fun w => refMay_any9 r q w)
      have KK := Lib.hid (show k + 1 ≤ n ∧ n - (k + 1) < n - k by omega)
      clear c0 c1 hz ho hb hd hkl
      cases hm : mayD r q with
      | false =>
        rw [hm] at MY
        have HS := Lib.hid (show nums 32 (allV (l.take (k + 1))) = nums 32 (allV (l.take k)) from nums_congr _ _ _ fun i _ => by
          rw [HA.out i, seen, if_neg (fun h => by have h2 := h.1; rw [mayT, hm] at h2; cases h2)])
        clear hm HA
        go_wp2
        refine wp_region_held_drew (S := fun w' => Below wr.heap.size wr w') (by kernel_rfl) (drawS (Below.refl _ _)) (fun hHeld => ?_)
        generalize wr.drew = wd at hHeld ⊢
        refine take_at (i := 0) 11 rfl rfl (by kernel_rfl) (by kernel_rfl) (by kernel_rfl) (fun _ _ _ h => h) (sure_yes (by rfl) (fun w => by go_simp; try with_reducible rfl)) hHeld ?_
        simp only [List.setIfInBounds_toArray, List.set_cons_zero, List.set_cons_succ]
        refine take_at (i := 1) 12 rfl rfl (by kernel_rfl) (by kernel_rfl) (by kernel_rfl) (fun _ _ _ h => h) (sure_yes (by rfl) (fun w => by go_simp; try with_reducible rfl)) hHeld ?_
        simp only [List.setIfInBounds_toArray, List.set_cons_zero, List.set_cons_succ]
        refine take_at (i := 2) 13 rfl rfl (by kernel_rfl) (by kernel_rfl) (by kernel_rfl) (fun _ _ _ h => h) (sure_yes (by rfl) (fun w => by go_simp; try with_reducible rfl)) hHeld ?_
        simp only [List.setIfInBounds_toArray, List.set_cons_zero, List.set_cons_succ]
        refine take_at (i := 3) 14 rfl rfl (by kernel_rfl) (by kernel_rfl) (by kernel_rfl) (fun _ _ _ h => h) (dot_yields (by rfl) 29 (.tmp 13) rfl (ad.add (k * 2)) rfl r q Tryz.underlying29 (by kernel_rfl) (fun w h => ⟨(World.cell?_of_block (h.block _ (World.block_lt_of_cell? _ _ C0.out))).trans C0.out, (World.cell?_of_block (h.block _ (World.block_lt_of_cell? _ _ C1.out))).trans C1.out⟩)) hHeld ?_
        simp only [List.setIfInBounds_toArray, List.set_cons_zero, List.set_cons_succ]
        refine wpAnyH_ready (rs := [4]) (by kernel_rfl) (by simp) ?_
        refine AllReadyH.cons rfl (fun K hK => ?_) AllReadyH.nil
        go_simp
        go_at_call 89
        refine (MY.out _).mono ?_
        rintro e w6 ⟨rfl, hb⟩
        dsimp only
        refine hK.out _ _ (below_next hHeld hb) (fun hHeld => ?_)
        clear hK K hb
        refine take_at (i := 5) 16 rfl rfl (by kernel_rfl) (by kernel_rfl) (by kernel_rfl) (fun _ _ _ h => h) (sure_yes (by rfl) (fun w => by go_simp; try with_reducible rfl)) hHeld ?_
        simp only [List.setIfInBounds_toArray, List.set_cons_zero, List.set_cons_succ]
        refine take_at (i := 6) 17 rfl rfl (by kernel_rfl) (by kernel_rfl) (by kernel_rfl) (fun _ _ _ h => h) (.inr ⟨by rfl, rfl⟩) hHeld ?_
        simp only [List.setIfInBounds_toArray, List.set_cons_zero, List.set_cons_succ]
        refine take_at (i := 7) 18 rfl rfl (by kernel_rfl) (by kernel_rfl) (by kernel_rfl) (fun _ _ _ h => h) (.inr ⟨by rfl, rfl⟩) hHeld ?_
        simp only [List.setIfInBounds_toArray, List.set_cons_zero, List.set_cons_succ]
        refine take_at (i := 8) 19 rfl rfl (by kernel_rfl) (by kernel_rfl) (by kernel_rfl) (fun _ _ _ h => h) (.inr ⟨by rfl, rfl⟩) hHeld ?_
        simp only [List.setIfInBounds_toArray, List.set_cons_zero, List.set_cons_succ]
        refine take_at (i := 9) 20 rfl rfl (by kernel_rfl) (by kernel_rfl) (by kernel_rfl) (fun _ _ _ h => h) (.inr ⟨by rfl, rfl⟩) hHeld ?_
        simp only [List.setIfInBounds_toArray, List.set_cons_zero, List.set_cons_succ]
        refine take_at (i := 10) 21 rfl rfl (by kernel_rfl) (by kernel_rfl) (by kernel_rfl) (fun _ _ _ h => h) (.inr ⟨by rfl, rfl⟩) hHeld ?_
        simp only [List.setIfInBounds_toArray, List.set_cons_zero, List.set_cons_succ]
        refine take_at (i := 11) 22 rfl rfl (by kernel_rfl) (by kernel_rfl) (by kernel_rfl) (fun _ _ _ h => h) (.inr ⟨by rfl, rfl⟩) hHeld ?_
        simp only [List.setIfInBounds_toArray, List.set_cons_zero, List.set_cons_succ]
        refine take_at (i := 12) 23 rfl rfl (by kernel_rfl) (by kernel_rfl) (by kernel_rfl) (fun _ _ _ h => h) (.inr ⟨by rfl, rfl⟩) hHeld ?_
        simp only [List.setIfInBounds_toArray, List.set_cons_zero, List.set_cons_succ]
        refine take_at (i := 13) 24 rfl rfl (by kernel_rfl) (by kernel_rfl) (by kernel_rfl) (fun _ _ _ h => h) (.inr ⟨by rfl, rfl⟩) hHeld ?_
        simp only [List.setIfInBounds_toArray, List.set_cons_zero, List.set_cons_succ]
        refine take_at (i := 14) 25 rfl rfl (by kernel_rfl) (by kernel_rfl) (by kernel_rfl) (fun _ _ _ h => h) (.inr ⟨by rfl, rfl⟩) hHeld ?_
        simp only [List.setIfInBounds_toArray, List.set_cons_zero, List.set_cons_succ]
        refine take_at (i := 15) 26 rfl rfl (by kernel_rfl) (by kernel_rfl) (by kernel_rfl) (fun _ _ _ h => h) (.inr ⟨by rfl, rfl⟩) hHeld ?_
        simp only [List.setIfInBounds_toArray, List.set_cons_zero, List.set_cons_succ]
        refine take_at (i := 16) 27 rfl rfl (by kernel_rfl) (by kernel_rfl) (by kernel_rfl) (fun _ _ _ h => h) (.inr ⟨by rfl, rfl⟩) hHeld ?_
        simp only [List.setIfInBounds_toArray, List.set_cons_zero, List.set_cons_succ]
        refine take_at (i := 17) 28 rfl rfl (by kernel_rfl) (by kernel_rfl) (by kernel_rfl) (fun _ _ _ h => h) (.inr ⟨by rfl, rfl⟩) hHeld ?_
        simp only [List.setIfInBounds_toArray, List.set_cons_zero, List.set_cons_succ]
        refine take_at (i := 18) 29 rfl rfl (by kernel_rfl) (by kernel_rfl) (by kernel_rfl) (fun _ _ _ h => h) (.inr ⟨by rfl, rfl⟩) hHeld ?_
        simp only [List.setIfInBounds_toArray, List.set_cons_zero, List.set_cons_succ]
        refine take_at (i := 19) 30 rfl rfl (by kernel_rfl) (by kernel_rfl) (by kernel_rfl) (fun _ _ _ h => h) (sure_yes (by rfl) (fun w => by go_simp; try with_reducible rfl)) hHeld ?_
        simp only [List.setIfInBounds_toArray, List.set_cons_zero, List.set_cons_succ]
        refine wpAnyH_done (by kernel_rfl) ?_ _
        go_wp2
        refine ⟨⟨k + 1, KK.out.1, by simp, row_kept HZ.out hHeld, by rw [HS.out]; exact row_kept HO.out hHeld, below_next HB.out hHeld⟩, ?_⟩
        simp [intOf]; exact KK.out.2
      | true =>
        rw [hm] at MY
        have hb := mayT_bd (d := (r, q)) hm
        simp only at hb
        obtain ⟨i, hi⟩ : ∃ i : Nat, r = (i : Int) := ⟨r.toNat, by omega⟩
        subst hi
        have hi32 : i < 32 := by omega
        have qi : (i : Int) < 32 := by omega
        obtain ⟨m, hme⟩ : ∃ m, m = allV (l.take k) i := ⟨_, rfl⟩
        have CM := Lib.hid (show wr.cell? ⟨w.heap.size + 1, i, none⟩ = some (.int .i64 m) by rw [hme]; exact nums_cell HO.out i hi32)
        by_cases hgt : m < q
        · have d1 : decide (q > m) = true := decide_eq_true hgt
          have HS := Lib.hid (show (nums 32 (allV (l.take k))).setIfInBounds i (.int .i64 q) = nums 32 (allV (l.take (k + 1))) from nums_set _ _ _ _ _ fun j _ => by
            rw [HA.out j, seen]
            by_cases hj : j = i
            · subst hj; rw [if_pos rfl, if_pos ⟨hm, rfl, by rw [← hme]; exact hgt⟩]
            · rw [if_neg hj, if_neg (fun h => hj (by have := h.2.1; simp only at this; omega))])
          clear hm HA hb hgt hme hi32
          go_wp2
          refine wp_region_held_drew (S := fun w' => Below wr.heap.size wr w') (by kernel_rfl) (drawS (Below.refl _ _)) (fun hHeld => ?_)
          generalize wr.drew = wd at hHeld ⊢
          refine take_at (i := 0) 11 rfl rfl (by kernel_rfl) (by kernel_rfl) (by kernel_rfl) (fun _ _ _ h => h) (sure_yes (by rfl) (fun w => by go_simp; try with_reducible rfl)) hHeld ?_
          simp only [List.setIfInBounds_toArray, List.set_cons_zero, List.set_cons_succ]
          refine take_at (i := 1) 12 rfl rfl (by kernel_rfl) (by kernel_rfl) (by kernel_rfl) (fun _ _ _ h => h) (sure_yes (by rfl) (fun w => by go_simp; try with_reducible rfl)) hHeld ?_
          simp only [List.setIfInBounds_toArray, List.set_cons_zero, List.set_cons_succ]
          refine take_at (i := 2) 13 rfl rfl (by kernel_rfl) (by kernel_rfl) (by kernel_rfl) (fun _ _ _ h => h) (sure_yes (by rfl) (fun w => by go_simp; try with_reducible rfl)) hHeld ?_
          simp only [List.setIfInBounds_toArray, List.set_cons_zero, List.set_cons_succ]
          refine take_at (i := 3) 14 rfl rfl (by kernel_rfl) (by kernel_rfl) (by kernel_rfl) (fun _ _ _ h => h) (dot_yields (by rfl) 29 (.tmp 13) rfl (ad.add (k * 2)) rfl (i : Int) q Tryz.underlying29 (by kernel_rfl) (fun w h => ⟨(World.cell?_of_block (h.block _ (World.block_lt_of_cell? _ _ C0.out))).trans C0.out, (World.cell?_of_block (h.block _ (World.block_lt_of_cell? _ _ C1.out))).trans C1.out⟩)) hHeld ?_
          simp only [List.setIfInBounds_toArray, List.set_cons_zero, List.set_cons_succ]
          refine wpAnyH_ready (rs := [4]) (by kernel_rfl) (by simp) ?_
          refine AllReadyH.cons rfl (fun K hK => ?_) AllReadyH.nil
          go_simp
          go_at_call 89
          refine (MY.out _).mono ?_
          rintro e w6 ⟨rfl, hb⟩
          dsimp only
          refine hK.out _ _ (below_next hHeld hb) (fun hHeld => ?_)
          clear hK K hb
          refine take_at (i := 5) 16 rfl rfl (by kernel_rfl) (by kernel_rfl) (by kernel_rfl) (fun _ _ _ h => h) (sure_yes (by rfl) (fun w => by go_simp; try with_reducible rfl)) hHeld ?_
          simp only [List.setIfInBounds_toArray, List.set_cons_zero, List.set_cons_succ]
          refine take_at (i := 6) 17 rfl rfl (by kernel_rfl) (by kernel_rfl) (by kernel_rfl) (fun _ _ _ h => h) (sure_yes (by rfl) (fun w => by go_simp; try with_reducible rfl)) hHeld ?_
          simp only [List.setIfInBounds_toArray, List.set_cons_zero, List.set_cons_succ]
          refine take_at (i := 7) 18 rfl rfl (by kernel_rfl) (by kernel_rfl) (by kernel_rfl) (fun _ _ _ h => h) (sure_yes (by rfl) (fun w => by go_simp; try with_reducible rfl)) hHeld ?_
          simp only [List.setIfInBounds_toArray, List.set_cons_zero, List.set_cons_succ]
          refine take_at (i := 8) 19 rfl rfl (by kernel_rfl) (by kernel_rfl) (by kernel_rfl) (fun _ _ _ h => h) (sure_yes (by rfl) (fun w => by go_simp; try with_reducible rfl)) hHeld ?_
          simp only [List.setIfInBounds_toArray, List.set_cons_zero, List.set_cons_succ]
          refine take_at (i := 9) 20 rfl rfl (by kernel_rfl) (by kernel_rfl) (by kernel_rfl) (fun _ _ _ h => h) (sure_yes (by rfl) (fun w => by go_simp; try with_reducible rfl)) hHeld ?_
          simp only [List.setIfInBounds_toArray, List.set_cons_zero, List.set_cons_succ]
          refine take_at (i := 11) 22 rfl rfl (by kernel_rfl) (by kernel_rfl) (by kernel_rfl) (fun _ _ _ h => h) (sure_yes (by rfl) (fun w => by go_simp; try with_reducible rfl)) hHeld ?_
          simp only [List.setIfInBounds_toArray, List.set_cons_zero, List.set_cons_succ]
          refine take_at (i := 12) 23 rfl rfl (by kernel_rfl) (by kernel_rfl) (by kernel_rfl) (fun _ _ _ h => h) (sure_yes (by rfl) (fun w => by go_simp; try with_reducible rfl)) hHeld ?_
          simp only [List.setIfInBounds_toArray, List.set_cons_zero, List.set_cons_succ]
          refine take_at (i := 13) 24 rfl rfl (by kernel_rfl) (by kernel_rfl) (by kernel_rfl) (fun _ _ _ h => h) (sure_yes (by rfl) (fun w => by go_simp; try with_reducible rfl)) hHeld ?_
          simp only [List.setIfInBounds_toArray, List.set_cons_zero, List.set_cons_succ]
          refine take_at (i := 14) 25 rfl rfl (by kernel_rfl) (by kernel_rfl) (by kernel_rfl) (fun _ _ _ h => h) (sure_yes (by rfl) (fun w => by go_simp; try with_reducible rfl)) hHeld ?_
          simp only [List.setIfInBounds_toArray, List.set_cons_zero, List.set_cons_succ]
          refine take_at (i := 10) 21 rfl rfl (by kernel_rfl) (by kernel_rfl) (by kernel_rfl) (fun _ _ _ h => h) (addr_yields (by rfl) 2 (.tmp 20) rfl (⟨(ad.add (k * 2)).block, (ad.add (k * 2)).off + 1, none⟩) rfl .i64 (q) Tryz.underlying2 (fun w h => (World.cell?_of_block (h.block _ (World.block_lt_of_cell? _ _ C1.out))).trans C1.out)) hHeld ?_
          simp only [List.setIfInBounds_toArray, List.set_cons_zero, List.set_cons_succ]
          refine take_at (i := 15) 26 rfl rfl (by kernel_rfl) (by kernel_rfl) (by kernel_rfl) (fun _ _ _ h => h) (addr_yields (by rfl) 3 (.tmp 25) rfl (ad.add (k * 2)) rfl .i64 ((i : Int)) Tryz.underlying3 (fun w h => (World.cell?_of_block (h.block _ (World.block_lt_of_cell? _ _ C0.out))).trans C0.out)) hHeld ?_
          simp only [List.setIfInBounds_toArray, List.set_cons_zero, List.set_cons_succ]
          refine take_at (i := 16) 27 rfl rfl (by kernel_rfl) (by kernel_rfl) (by kernel_rfl) (fun _ _ _ h => h) (sure_yes (by rfl) (fun w => by go_simp; try with_reducible rfl)) hHeld ?_
          simp only [List.setIfInBounds_toArray, List.set_cons_zero, List.set_cons_succ]
          refine take_at (i := 17) 28 rfl rfl (by kernel_rfl) (by kernel_rfl) (by kernel_rfl) (fun _ _ _ h => h) (addr_yields (by rfl) 2 (.tmp 27) rfl (⟨w.heap.size + 1, i, none⟩) rfl .i64 (m) Tryz.underlying2 (fun w h => (World.cell?_of_block (h.block _ (World.block_lt_of_cell? _ _ CM.out))).trans CM.out)) hHeld ?_
          simp only [List.setIfInBounds_toArray, List.set_cons_zero, List.set_cons_succ]
          refine take_at (i := 18) 29 rfl rfl (by kernel_rfl) (by kernel_rfl) (by kernel_rfl) (fun _ _ _ h => h) (sure_yes (by rfl) (fun w => by go_simp; try with_reducible rfl)) hHeld ?_
          simp only [List.setIfInBounds_toArray, List.set_cons_zero, List.set_cons_succ]
          refine take_at (i := 19) 30 rfl rfl (by kernel_rfl) (by kernel_rfl) (by kernel_rfl) (fun _ _ _ h => h) (sure_yes (by rfl) (fun w => by go_simp; try with_reducible rfl)) hHeld ?_
          simp only [List.setIfInBounds_toArray, List.set_cons_zero, List.set_cons_succ]
          refine wpAnyH_done (by kernel_rfl) ?_ _
          have c0 := (World.cell?_of_block (hHeld.block _ (World.block_lt_of_cell? _ _ C0.out))).trans C0.out
          have c1 := (World.cell?_of_block (hHeld.block _ (World.block_lt_of_cell? _ _ C1.out))).trans C1.out
          have HO6 := Lib.hid (row_kept HO.out hHeld)
          have HZ6 := Lib.hid (row_kept HZ.out hHeld)
          have HB6 := Lib.hid (below_next HB.out hHeld)
          clear hHeld C0 C1 CM HO HZ HB
          go_wp2
          go_still_tail 11, (by kernel_rfl)
          change wpList _ _ _ _ _ w6.drew
          have hz : w6.drew.heap[w.heap.size]? = _ := HZ6.out
          have ho : w6.drew.heap[w.heap.size + 1]? = _ := HO6.out
          have hb := below_draws HB6.out 1
          change Below _ _ w6.drew at hb
          clear HO6 HZ6 HB6 c0 c1
          generalize w6.drew = w7 at *
          go_wp2_with (first
            | (refine store_cell rfl 2 (.tmp 41) (.tmp 40) rfl rfl .i64 (w.heap.size + 1) i _ q 142 ho rfl rfl (by rw [nums_size]; omega) (by kernel_rfl) ?_; intro w8 hg8 hs8; rw [HS.out] at hg8; have H8 := Lib.hid (And.intro hg8 (And.intro ((hs8.block w.heap.size (by omega)).trans hz) (solo_below hb hs8 (by omega)))); clear hg8 hs8 hz ho hb))
          refine ⟨⟨k + 1, KK.out.1, by simp, H8.out.2.1, H8.out.1, H8.out.2.2⟩, ?_⟩
          simp [intOf]; exact KK.out.2
        · have d1 : decide (q > m) = false := decide_eq_false (by omega)
          have HS := Lib.hid (show nums 32 (allV (l.take (k + 1))) = nums 32 (allV (l.take k)) from nums_congr _ _ _ fun j _ => by
            rw [HA.out j, seen, if_neg (fun h => by
              obtain rfl : j = i := by have := h.2.1; simp only at this; omega
              rw [← hme] at h; exact hgt h.2.2)])
          clear hm HA hb hgt hme hi32
          go_wp2
          refine wp_region_held_drew (S := fun w' => Below wr.heap.size wr w') (by kernel_rfl) (drawS (Below.refl _ _)) (fun hHeld => ?_)
          generalize wr.drew = wd at hHeld ⊢
          refine take_at (i := 0) 11 rfl rfl (by kernel_rfl) (by kernel_rfl) (by kernel_rfl) (fun _ _ _ h => h) (sure_yes (by rfl) (fun w => by go_simp; try with_reducible rfl)) hHeld ?_
          simp only [List.setIfInBounds_toArray, List.set_cons_zero, List.set_cons_succ]
          refine take_at (i := 1) 12 rfl rfl (by kernel_rfl) (by kernel_rfl) (by kernel_rfl) (fun _ _ _ h => h) (sure_yes (by rfl) (fun w => by go_simp; try with_reducible rfl)) hHeld ?_
          simp only [List.setIfInBounds_toArray, List.set_cons_zero, List.set_cons_succ]
          refine take_at (i := 2) 13 rfl rfl (by kernel_rfl) (by kernel_rfl) (by kernel_rfl) (fun _ _ _ h => h) (sure_yes (by rfl) (fun w => by go_simp; try with_reducible rfl)) hHeld ?_
          simp only [List.setIfInBounds_toArray, List.set_cons_zero, List.set_cons_succ]
          refine take_at (i := 3) 14 rfl rfl (by kernel_rfl) (by kernel_rfl) (by kernel_rfl) (fun _ _ _ h => h) (dot_yields (by rfl) 29 (.tmp 13) rfl (ad.add (k * 2)) rfl (i : Int) q Tryz.underlying29 (by kernel_rfl) (fun w h => ⟨(World.cell?_of_block (h.block _ (World.block_lt_of_cell? _ _ C0.out))).trans C0.out, (World.cell?_of_block (h.block _ (World.block_lt_of_cell? _ _ C1.out))).trans C1.out⟩)) hHeld ?_
          simp only [List.setIfInBounds_toArray, List.set_cons_zero, List.set_cons_succ]
          refine wpAnyH_ready (rs := [4]) (by kernel_rfl) (by simp) ?_
          refine AllReadyH.cons rfl (fun K hK => ?_) AllReadyH.nil
          go_simp
          go_at_call 89
          refine (MY.out _).mono ?_
          rintro e w6 ⟨rfl, hb⟩
          dsimp only
          refine hK.out _ _ (below_next hHeld hb) (fun hHeld => ?_)
          clear hK K hb
          refine take_at (i := 5) 16 rfl rfl (by kernel_rfl) (by kernel_rfl) (by kernel_rfl) (fun _ _ _ h => h) (sure_yes (by rfl) (fun w => by go_simp; try with_reducible rfl)) hHeld ?_
          simp only [List.setIfInBounds_toArray, List.set_cons_zero, List.set_cons_succ]
          refine take_at (i := 6) 17 rfl rfl (by kernel_rfl) (by kernel_rfl) (by kernel_rfl) (fun _ _ _ h => h) (sure_yes (by rfl) (fun w => by go_simp; try with_reducible rfl)) hHeld ?_
          simp only [List.setIfInBounds_toArray, List.set_cons_zero, List.set_cons_succ]
          refine take_at (i := 7) 18 rfl rfl (by kernel_rfl) (by kernel_rfl) (by kernel_rfl) (fun _ _ _ h => h) (sure_yes (by rfl) (fun w => by go_simp; try with_reducible rfl)) hHeld ?_
          simp only [List.setIfInBounds_toArray, List.set_cons_zero, List.set_cons_succ]
          refine take_at (i := 8) 19 rfl rfl (by kernel_rfl) (by kernel_rfl) (by kernel_rfl) (fun _ _ _ h => h) (sure_yes (by rfl) (fun w => by go_simp; try with_reducible rfl)) hHeld ?_
          simp only [List.setIfInBounds_toArray, List.set_cons_zero, List.set_cons_succ]
          refine take_at (i := 9) 20 rfl rfl (by kernel_rfl) (by kernel_rfl) (by kernel_rfl) (fun _ _ _ h => h) (sure_yes (by rfl) (fun w => by go_simp; try with_reducible rfl)) hHeld ?_
          simp only [List.setIfInBounds_toArray, List.set_cons_zero, List.set_cons_succ]
          refine take_at (i := 11) 22 rfl rfl (by kernel_rfl) (by kernel_rfl) (by kernel_rfl) (fun _ _ _ h => h) (sure_yes (by rfl) (fun w => by go_simp; try with_reducible rfl)) hHeld ?_
          simp only [List.setIfInBounds_toArray, List.set_cons_zero, List.set_cons_succ]
          refine take_at (i := 12) 23 rfl rfl (by kernel_rfl) (by kernel_rfl) (by kernel_rfl) (fun _ _ _ h => h) (sure_yes (by rfl) (fun w => by go_simp; try with_reducible rfl)) hHeld ?_
          simp only [List.setIfInBounds_toArray, List.set_cons_zero, List.set_cons_succ]
          refine take_at (i := 13) 24 rfl rfl (by kernel_rfl) (by kernel_rfl) (by kernel_rfl) (fun _ _ _ h => h) (sure_yes (by rfl) (fun w => by go_simp; try with_reducible rfl)) hHeld ?_
          simp only [List.setIfInBounds_toArray, List.set_cons_zero, List.set_cons_succ]
          refine take_at (i := 14) 25 rfl rfl (by kernel_rfl) (by kernel_rfl) (by kernel_rfl) (fun _ _ _ h => h) (sure_yes (by rfl) (fun w => by go_simp; try with_reducible rfl)) hHeld ?_
          simp only [List.setIfInBounds_toArray, List.set_cons_zero, List.set_cons_succ]
          refine take_at (i := 10) 21 rfl rfl (by kernel_rfl) (by kernel_rfl) (by kernel_rfl) (fun _ _ _ h => h) (addr_yields (by rfl) 2 (.tmp 20) rfl (⟨(ad.add (k * 2)).block, (ad.add (k * 2)).off + 1, none⟩) rfl .i64 (q) Tryz.underlying2 (fun w h => (World.cell?_of_block (h.block _ (World.block_lt_of_cell? _ _ C1.out))).trans C1.out)) hHeld ?_
          simp only [List.setIfInBounds_toArray, List.set_cons_zero, List.set_cons_succ]
          refine take_at (i := 15) 26 rfl rfl (by kernel_rfl) (by kernel_rfl) (by kernel_rfl) (fun _ _ _ h => h) (addr_yields (by rfl) 3 (.tmp 25) rfl (ad.add (k * 2)) rfl .i64 ((i : Int)) Tryz.underlying3 (fun w h => (World.cell?_of_block (h.block _ (World.block_lt_of_cell? _ _ C0.out))).trans C0.out)) hHeld ?_
          simp only [List.setIfInBounds_toArray, List.set_cons_zero, List.set_cons_succ]
          refine take_at (i := 16) 27 rfl rfl (by kernel_rfl) (by kernel_rfl) (by kernel_rfl) (fun _ _ _ h => h) (sure_yes (by rfl) (fun w => by go_simp; try with_reducible rfl)) hHeld ?_
          simp only [List.setIfInBounds_toArray, List.set_cons_zero, List.set_cons_succ]
          refine take_at (i := 17) 28 rfl rfl (by kernel_rfl) (by kernel_rfl) (by kernel_rfl) (fun _ _ _ h => h) (addr_yields (by rfl) 2 (.tmp 27) rfl (⟨w.heap.size + 1, i, none⟩) rfl .i64 (m) Tryz.underlying2 (fun w h => (World.cell?_of_block (h.block _ (World.block_lt_of_cell? _ _ CM.out))).trans CM.out)) hHeld ?_
          simp only [List.setIfInBounds_toArray, List.set_cons_zero, List.set_cons_succ]
          refine take_at (i := 18) 29 rfl rfl (by kernel_rfl) (by kernel_rfl) (by kernel_rfl) (fun _ _ _ h => h) (sure_yes (by rfl) (fun w => by go_simp; try with_reducible rfl)) hHeld ?_
          simp only [List.setIfInBounds_toArray, List.set_cons_zero, List.set_cons_succ]
          refine take_at (i := 19) 30 rfl rfl (by kernel_rfl) (by kernel_rfl) (by kernel_rfl) (fun _ _ _ h => h) (sure_yes (by rfl) (fun w => by go_simp; try with_reducible rfl)) hHeld ?_
          simp only [List.setIfInBounds_toArray, List.set_cons_zero, List.set_cons_succ]
          refine wpAnyH_done (by kernel_rfl) ?_ _
          go_wp2
          refine ⟨⟨k + 1, KK.out.1, by simp, row_kept HZ.out hHeld, by rw [HS.out]; exact row_kept HO.out hHeld, below_next HB.out hHeld⟩, ?_⟩
          simp [intOf]; exact KK.out.2
    · have q0 : ¬ (k : Int) < (n : Int) := by omega
      have HE := Lib.hid (show l.take k = l by rw [show k = l.length by rw [← HN.out]; omega, List.take_length])
      rw [HE.out] at ho
      have HZ := Lib.hid hz
      have HO := Lib.hid ho
      have HB := Lib.hid hb
      clear hz ho hb
      go_wp2_with (first
        | (refine wpList_load_row rfl 142 (.tmp 3) rfl (w.heap.size + 1) rfl 142 _ (0, 0) _ HO.out Tryz.underlying142 rfl (by rw [nums_size]; kernel_rfl) ?_)
        | (refine wpList_store_row rfl 142 (.tmp 2) (.tmp 42) rfl w.heap.size _ rfl rfl 142 _ HZ.out (by rw [nums_size]; kernel_rfl) (by rw [nums_size, nums_size]) (nums_one _ _) ?_))
      exact bodyPost_ret (results_cell_row Tryz.results87 _ _ w.heap.size 142 _ (0, 0) _ rfl (setRow_heap _ _ _ _ _ _ HZ.out) Tryz.underlying142 rfl (by rw [nums_size]; kernel_rfl)) rfl ⟨rfl, below_setRow HB.out (Nat.le_refl _) _⟩
end Go.Proofs.YtppmbdpfledejaaGreatDoor
namespace Go.Proofs.YtppmbdpfledejaaGreatDoor
open Go.RowKit
/-- A dot loaded from an address whose two cells are known. -/
theorem load_dot10 {P : Program} {ops : Array Oper} {rest : List Oper} {o : Oper} {a : Act} {w : World} {Q : Exit → Act → World → Prop} (hw : Region.wanted o (yielded ops a.tmps) = true) (ty : TypeId) (x : Operand) (ho : o.op = .load ty x)
    (A : Addr) (hx : a.eval x = .pointer (some A)) (r q : Int) {fs : Array Field} (hu : P.underlying ty = some (.struct fs)) (hi : (P.info? ty).map (·.size) = some 2) (hc : w.cell? A = some (.int .i64 r) ∧ w.cell? ⟨A.block, A.off + 1, none⟩ = some (.int .i64 q))
    (h : wpList P ops Q rest (a.put o.dst (.agg #[.int .i64 r, .int .i64 q])) w) : wpList P ops Q (o :: rest) a w := by
  rcases dot_yields (S := fun w' => w' = w) hw ty x ho A hx r q hu hi (fun w' e => by rw [e]; exact hc) with ⟨-, hy⟩ | ⟨hn, -⟩
  · refine wpList_step fun K hK => ?_
    rw [if_pos hw]
    unfold Oper.wp
    rw [hy w rfl]
    exact hK _ _ h
  · rw [hw] at hn; cases hn
theorem infoDot : ∃ i, Tryz.prog.info? 29 = some i ∧ (i.zero.map (·.cells.size), i.size, i.bytes) = (some 2, 2, 16) := by
  have h : (Tryz.prog.info? 29).map (fun i => (i.zero.map (·.cells.size), i.size, i.bytes)) = some (some 2, 2, 16) := by kernel_rfl
  cases hi : Tryz.prog.info? 29 with
  | none => rw [hi] at h; cases h
  | some i => rw [hi] at h; exact ⟨i, rfl, Option.some.inj h⟩
set_option maxRecDepth 100000 in
theorem dot_built2 (r q : Int) : Tryz.prog.built 29 [(0, .int .i64 r), (1, .int .i64 q)] = some #[.int .i64 r, .int .i64 q] := by rfl
set_option maxRecDepth 100000 in
set_option maxHeartbeats 16000000 in
theorem refOf_typ (f : Nat → Int) (w : World) : Calls Tryz.prog 88 #[.agg (nums 32 f)] w fun e w' => ∃ v, e = .returned v ∧ TypDots w' v (ofV f) ∧ Below w.heap.size w w' := by
  obtain ⟨i0, hi, hz⟩ := infoDot
  have HX := Lib.hid (heap_last w (.cells (nums 32 f) 142 (0, 0)))
  have HB := Lib.hid ((Below.refl w.heap.size w).alloc (Nat.le_refl _) (.cells (nums 32 f) 142 (0, 0)))
  have HW := Lib.hid (show w.heap.size < (w.alloc (.cells (nums 32 f) 142 (0, 0))).heap.size by simp)
  go_enter Tryz.func88, Tryz.ntmps88
  go_wp2
  go_loopw [3, 4] (fun v c wr => ∃ k : Nat, k ≤ 32 ∧ c = .int .i64 (k : Int) ∧ wr.ownsRow (w.heap.size + 1) 29 2 v (ofN f k).length (dotsC (ofN f k)) ∧ wr.heap[w.heap.size]? = some (.cells (nums 32 f) 142 (0, 0)) ∧ w.heap.size < wr.heap.size ∧ Below w.heap.size w wr) (fun _ c _ => 32 - (intOf c).toNat)
  case atStart => exact ⟨0, by omega, rfl, dots_own_nil _ _ _, HX.out, HW.out, HB.out⟩
  case round =>
    clear HX HB HW
    obtain ⟨k, hk, rfl, ho, hx, hs, hb⟩ := hrel
    have HO := Lib.hid ho
    have HX := Lib.hid hx
    have HB := Lib.hid hb
    have HS := Lib.hid hs
    by_cases hlt : k < 32
    · have q0 : (k : Int) < 32 := by omega
      have c0 := nums_cell HX.out k hlt
      have HL := Lib.hid (ofN_length f k)
      have KK := Lib.hid (show k + 1 ≤ 32 ∧ 32 - (k + 1) < 32 - k by omega)
      obtain ⟨m, hm⟩ : ∃ m, m = f k := ⟨_, rfl⟩
      rw [← hm] at c0
      by_cases hp : 0 < m
      · have d1 : decide (m > 0) = true := decide_eq_true hp
        have HN := Lib.hid (show ofN f (k + 1) = ofN f k ++ [((k : Int), m)] by rw [ofN, if_pos (by rw [← hm]; exact hp), ← hm])
        clear hp hm ho hx hb hs hlt
        go_wp2_with (first
          | (refine build_on (by rfl) 29 #[(0, .tmp 14), (1, .tmp 17)] rfl _ _ (dot_built2 (k : Int) m) (by simp [Act.eval]) ?_)
          | (at_builtin; refine append_dot rfl (.tmp 13) (.tmp 19) 75 rfl (w.heap.size + 1) 29 i0 Tryz.underlying75 hi hz _ (ofN f k) ((k : Int), m) rfl (HO.out.alloc _) ⟨wr.heap.size, 0, none⟩ 1 rfl ⟨(cell_of_row _ _ 0 _ _ _ (heap_last wr _)).trans rfl, by rw [Addr.add_lit]; exact (cell_of_row _ _ (0 + 1) _ _ _ (heap_last wr _)).trans rfl⟩ (by have := HL.out; have := KK.out.1; omega) (by have := HS.out; simp <;> omega) ?_; intro v1 w1 ho hg; rw [← HN.out] at ho; have HO1 := Lib.hid ho; have HB1 := Lib.hid (below_grown (HB.out.alloc HB.out.size _) hg (by have := HS.out; simp <;> omega) (fun j hj => by have := (HO.out.lt j hj).1; omega)); have HX1 := Lib.hid (show w1.heap[w.heap.size]? = some (.cells (nums 32 f) 142 (0, 0)) from (hg.block w.heap.size (by have := HS.out; simp <;> omega) (fun h => by have := (HO.out.lt _ h.symm).1; omega)).trans (by rw [heap_at_alloc, if_neg (by have := HS.out; omega)]; exact HX.out)); have HS1 := Lib.hid (show w.heap.size < w1.heap.size from Nat.lt_of_lt_of_le HS.out (Nat.le_trans (by simp) hg.size)); clear ho hg))
        refine ⟨⟨k + 1, KK.out.1, by simp, HO1.out, HX1.out, HS1.out, HB1.out⟩, ?_⟩
        have := KK.out.2; simp [intOf]; omega
      · have d1 : decide (m > 0) = false := decide_eq_false hp
        have HN := Lib.hid (show ofN f (k + 1) = ofN f k by rw [ofN, if_neg (by rw [← hm]; exact hp), List.append_nil])
        clear hp hm ho hx hb hs hlt
        go_wp2
        refine ⟨⟨k + 1, KK.out.1, by simp, by rw [HN.out]; exact HO.out, HX.out, HS.out, HB.out⟩, ?_⟩
        have := KK.out.2; simp [intOf]; omega
    · have q0 : ¬ (k : Int) < 32 := by omega
      obtain rfl : k = 32 := by omega
      have HD := Lib.hid (typ_of_own HO.out)
      clear ho hx hb hs hlt
      go_wp2
      go_ret
      exact ⟨_, rfl, HD.out, HB.out⟩
end Go.Proofs.YtppmbdpfledejaaGreatDoor
namespace Go.Proofs.YtppmbdpfledejaaGreatDoor
open Go.RowKit
/-- The cells of an event; v is the slice of what was known. -/
def evC (e : Ev) (v : Value) : Array Value := #[.int .i64 e.r, .int .i64 e.q, v, .int .i64 e.kind, .string (str e.path)] ++ row .u8 32 e.sum ++ #[.int .i64 e.size]
theorem evC_size (e : Ev) (v : Value) : (evC e v).size = 38 := by simp [evC, row_size]
theorem evC_at (e : Ev) (v : Value) : (evC e v)[0]? = some (.int .i64 e.r) ∧ (evC e v)[1]? = some (.int .i64 e.q) ∧ (evC e v)[2]? = some v ∧ (evC e v)[3]? = some (.int .i64 e.kind) ∧ (evC e v)[4]? = some (.string (str e.path)) ∧ (evC e v)[37]? = some (.int .i64 e.size) := by
  refine ⟨?_, ?_, ?_, ?_, ?_, ?_⟩
  iterate 5 simp [evC, row_size]
  unfold evC
  rw [Array.getElem?_append_right (by simp [row_size])]
  simp [row_size]
theorem evC_sum (e : Ev) (v : Value) (j : Nat) (u : Value) (h : (row .u8 32 e.sum).toList[j]? = some u) : (evC e v)[5 + j]? = some u := by
  have hj : j < 32 := by have := (List.getElem?_eq_some_iff.1 h).1; simpa [row_size] using this
  rw [Array.getElem?_toList] at h
  unfold evC
  rw [Array.getElem?_append_left (by simp [row_size]; omega), Array.getElem?_append_right (by simp)]
  simpa using h
theorem evC_one (e : Ev) (v : Value) (hv : v.oneCell' = true) : (evC e v).all (·.oneCell') = true := by
  have hr := row_one .u8 32 e.sum
  rw [Array.all_eq_true_iff_forall_mem] at hr ⊢
  intro x hx
  unfold evC at hx
  rcases Array.mem_append.1 hx with hx | hx
  · rcases Array.mem_append.1 hx with hx | hx
    · simp only [List.mem_toArray, List.mem_cons, List.not_mem_nil, or_false] at hx
      rcases hx with rfl | rfl | rfl | rfl | rfl
      · rfl
      · rfl
      · exact hv
      · rfl
      · rfl
    · exact hr x hx
  · simp only [List.mem_toArray, List.mem_cons, List.not_mem_nil, or_false] at hx
    subst hx; rfl
/-- A block that is an event. -/
def EvAt (w : World) (B : Nat) (T : TypeId) (e : Ev) (v : Value) : Prop := w.heap[B]? = some (.cells (evC e v) T (0, 0))
theorem evAt_kept {w w' : World} {B : Nat} {T : TypeId} {e : Ev} {v : Value} (h : EvAt w B T e v) (hb : Below w.heap.size w w') : EvAt w' B T e v :=
  (hb.block B (Array.getElem?_eq_some_iff.1 h).1).trans h
theorem evAt_cell {w : World} {B : Nat} {T : TypeId} {e : Ev} {v : Value} (h : EvAt w B T e v) (j : Nat) (u : Value) (hu : (evC e v)[j]? = some u) : w.cell? ⟨B, j, none⟩ = some u := by
  unfold EvAt at h
  simp only [World.cell?, h]
  exact hu
theorem evAt_cells {w : World} {B : Nat} {T : TypeId} {e : Ev} {v : Value} (h : EvAt w B T e v) :
    w.cell? ⟨B, 0, none⟩ = some (.int .i64 e.r) ∧ w.cell? ⟨B, 1, none⟩ = some (.int .i64 e.q) ∧ w.cell? ⟨B, 2, none⟩ = some v ∧ w.cell? ⟨B, 3, none⟩ = some (.int .i64 e.kind) ∧ w.cell? ⟨B, 4, none⟩ = some (.string (str e.path)) ∧ w.cell? ⟨B, 37, none⟩ = some (.int .i64 e.size) := by
  obtain ⟨h0, h1, h2, h3, h4, h5⟩ := evC_at e v
  exact ⟨evAt_cell h _ _ h0, evAt_cell h _ _ h1, evAt_cell h _ _ h2, evAt_cell h _ _ h3, evAt_cell h _ _ h4, evAt_cell h _ _ h5⟩
theorem evAt_dot {w : World} {B : Nat} {T : TypeId} {e : Ev} {v : Value} (h : EvAt w B T e v) : w.cell? ⟨B, 0, none⟩ = some (.int .i64 e.r) ∧ w.cell? ⟨(⟨B, 0, none⟩ : Addr).block, (⟨B, 0, none⟩ : Addr).off + 1, none⟩ = some (.int .i64 e.q) := ⟨(evAt_cells h).1, (evAt_cells h).2.1⟩
theorem evAt_sum {w : World} {B : Nat} {T : TypeId} {e : Ev} {v : Value} (h : EvAt w B T e v) : w.rangeAt B 5 (row .u8 32 e.sum).toList := fun j u hu => evAt_cell h _ _ (evC_sum e v j u hu)
theorem box_ev (w : World) (T : TypeId) (e : Ev) (v : Value) : EvAt (w.alloc (.cells (evC e v) T (0, 0))) w.heap.size T e v := heap_last _ _
/-- A row loaded out of the middle of a block, where the operation's guard lets it run. -/
theorem load_mid_on {P : Program} {ops : Array Oper} {rest : List Oper} {o : Oper} {a : Act} {w : World} {Q : Exit → Act → World → Prop} (hw : Region.wanted o (yielded ops a.tmps) = true) (ty : TypeId) (x : Operand) (ho : o.op = .load ty x)
    (b n : Nat) (hx : a.eval x = .pointer (some ⟨b, n, none⟩)) (cs : List Value) (d : TypeDesc) (hc : w.rangeAt b n cs) (hu : P.underlying ty = some d) (hd : d.isRow = true) (hi : (P.info? ty).map (·.size) = some cs.length)
    (h : wpList P ops Q rest (a.put o.dst (.agg cs.toArray)) w) : wpList P ops Q (o :: rest) a w := by
  rcases yieldsIf_load_mid (S := fun w' => w' = w) hw ty x ho b n hx cs d (fun w' e => by rw [e]; exact hc) hu hd hi with ⟨-, hy⟩ | ⟨hn, -⟩
  · refine wpList_step fun K hK => ?_
    rw [if_pos hw]
    unfold Oper.wp
    rw [hy w rfl]
    exact hK _ _ h
  · rw [hw] at hn; cases hn
theorem load_sum_on {P : Program} {ops : Array Oper} {rest : List Oper} {o : Oper} {a : Act} {w : World} {Q : Exit → Act → World → Prop} (hw : Region.wanted o (yielded ops a.tmps) = true) (ty : TypeId) (x : Operand) (ho : o.op = .load ty x)
    (b : Nat) (hx : a.eval x = .pointer (some ⟨b, 5, none⟩)) {T : TypeId} {e : Ev} {v : Value} {n : Nat} {u : TypeId} (hc : EvAt w b T e v) (hu : P.underlying ty = some (.array n u)) (hi : (P.info? ty).map (·.size) = some 32)
    (h : wpList P ops Q rest (a.put o.dst (rowV .u8 32 e.sum)) w) : wpList P ops Q (o :: rest) a w :=
  load_mid_on hw ty x ho b 5 hx (row .u8 32 e.sum).toList _ (evAt_sum hc) hu rfl (by rw [hi]; simp [row_size]) (by rwa [Array.toArray_toList])
/-- A whole event loaded. -/
theorem load_ev_on {P : Program} {ops : Array Oper} {rest : List Oper} {o : Oper} {a : Act} {w : World} {Q : Exit → Act → World → Prop} (hw : Region.wanted o (yielded ops a.tmps) = true) (ty : TypeId) (x : Operand) (ho : o.op = .load ty x)
    (b : Nat) (hx : a.eval x = .pointer (some ⟨b, 0, none⟩)) {T : TypeId} {e : Ev} {v : Value} {fs : Array Field} (hc : EvAt w b T e v) (hu : P.underlying ty = some (.struct fs)) (hi : (P.info? ty).map (·.size) = some 38)
    (h : wpList P ops Q rest (a.put o.dst (.agg (evC e v))) w) : wpList P ops Q (o :: rest) a w :=
  load_row_on hw ty x ho b hx T _ (0, 0) _ hc hu rfl (by rw [hi, evC_size]) h
end Go.Proofs.YtppmbdpfledejaaGreatDoor
namespace Go.Proofs.YtppmbdpfledejaaGreatDoor
open Go.ChangeShapes Go.WideShapes Go.ChangeAt Go.RowKit
theorem open_digest_cells {H : Type} {enc : TypeId × Value → H} {P : Program} {w : World} {base : Nat} {sp : Nat → Bool} {held : Bool} {t e : TypeId} {cs : List Value} {x : DataW H × List MemPlace} {fuel : Nat}
    (ht : P.underlying t = some (.array 32 e)) (he : P.underlying e = some (.int .u8)) (hce : P.cellsOf e = 1) (hct : P.cellsOf t = 32) (h : DataW.trod enc P w base sp held fuel t cs = some x) :
    ∃ f : Nat → BitVec 32, (∀ i, u32 (f i) < 256) ∧ cs = (row .u8 32 f).toList := by
  obtain ⟨xs, m, -, -, hl, hxl, hel⟩ := DataW.trod_array ht h
  rw [hct] at hl
  have each : ∀ i, i < 32 → ∃ z : Int, cs[i]? = some (.int .u8 z) ∧ (Lit.int .u8 z).wf = true := fun i hi => by
    have g := hel i hi
    rw [hce, Nat.mul_one, List.getElem?_eq_getElem (by omega)] at g
    have e1 : (cs.drop i).take 1 = [cs[i]] := by rw [List.drop_eq_getElem_cons (by omega)]; rfl
    rw [e1] at g
    obtain ⟨z, ez, -, wz⟩ := DataW.trod_int he g
    simp only [List.cons.injEq, and_true] at ez
    exact ⟨z, by rw [List.getElem?_eq_getElem (by omega), ez], wz⟩
  obtain ⟨y, hy⟩ := Go.Deep.choose_lt each
  obtain ⟨f, h1, h2⟩ := bytes_fn (n := 32) (zs := (List.range 32).map y) (by simp) (fun z hz => by
    obtain ⟨i, hi, rfl⟩ := List.mem_map.1 hz
    exact (hy i (by simpa using hi)).2)
  refine ⟨f, h1, ?_⟩
  rw [← h2]
  apply List.ext_getElem?
  intro i
  by_cases hi : i < 32
  · rw [(hy i hi).1]; simp [List.getElem?_range hi]
  · rw [List.getElem?_eq_none (by omega), List.getElem?_eq_none (by simp; omega)]
end Go.Proofs.YtppmbdpfledejaaGreatDoor
namespace Go.Proofs.YtppmbdpfledejaaGreatDoor
open Go.RowKit
theorem bl_trans : ∀ (a b c : List UInt8), Op.bytesLess a b = true → Op.bytesLess b c = true → Op.bytesLess a c = true
  | [], [], _, h, _ => by simp [Op.bytesLess] at h
  | _ :: _, [], _, h, _ => by simp [Op.bytesLess] at h
  | _, _ :: _, [], _, h => by simp [Op.bytesLess] at h
  | [], _ :: _, _ :: _, _, _ => by simp [Op.bytesLess]
  | x :: a, y :: b, z :: c, h, h' => by
    simp only [Op.bytesLess, Bool.or_eq_true, decide_eq_true_eq, Bool.and_eq_true, beq_iff_eq] at h h' ⊢
    rcases h with h | ⟨rfl, h⟩
    · rcases h' with h' | ⟨rfl, h'⟩
      · exact .inl (UInt8.lt_trans h h')
      · exact .inl h
    · rcases h' with h' | ⟨rfl, h'⟩
      · exact .inl h'
      · exact .inr ⟨rfl, bl_trans a b c h h'⟩
theorem bl_asymm {a b : List UInt8} (h : Op.bytesLess a b = true) : Op.bytesLess b a = false := by
  cases h' : Op.bytesLess b a with
  | false => rfl
  | true => have := bl_trans a b a h h'; rw [bytesLess_irrefl] at this; cases this
theorem bl_tri : ∀ (a b : List UInt8), Op.bytesLess a b = false → Op.bytesLess b a = false → a = b
  | [], [], _, _ => rfl
  | [], _ :: _, h, _ => by simp [Op.bytesLess] at h
  | _ :: _, [], _, h => by simp [Op.bytesLess] at h
  | x :: a, y :: b, h, h' => by
    simp only [Op.bytesLess, Bool.or_eq_false_iff, decide_eq_false_iff_not, Bool.and_eq_false_iff, beq_eq_false_iff_ne] at h h'
    have hxy : x = y := by
      apply UInt8.toNat_inj.1
      have h1 := h.1; have h2 := h'.1
      rw [UInt8.lt_iff_toNat_lt] at h1 h2
      omega
    subst hxy
    rw [bl_tri a b (h.2.resolve_left fun k => k rfl) (h'.2.resolve_left fun k => k rfl)]
/-- Which of two texts is ahead. -/
def cmpB (a b : List UInt8) : Int := if Op.bytesLess a b then -1 else if Op.bytesLess b a then 1 else 0
theorem cmpB_cases (a b : List UInt8) : (cmpB a b = 0 ∧ a = b) ∨ (cmpB a b = -1 ∧ Op.bytesLess a b = true ∧ a ≠ b) ∨ (cmpB a b = 1 ∧ Op.bytesLess b a = true ∧ a ≠ b) := by
  unfold cmpB
  cases h : Op.bytesLess a b with
  | true => exact .inr (.inl ⟨by simp, rfl, fun e => by rw [e, bytesLess_irrefl] at h; cases h⟩)
  | false =>
    cases h' : Op.bytesLess b a with
    | true => exact .inr (.inr ⟨by simp, rfl, fun e => by rw [e, bytesLess_irrefl] at h'; cases h'⟩)
    | false => exact .inl ⟨by simp, bl_tri a b h h'⟩
def cmpE (e f : Ev) : Int := if cmpB e.path f.path = 0 then cmpD e.r e.q f.r f.q else cmpB e.path f.path
end Go.Proofs.YtppmbdpfledejaaGreatDoor
namespace Go.Proofs.YtppmbdpfledejaaGreatDoor
open Go.RowKit Go.Maps
/-- An element as it stands. -/
def rawR (v : Value) : Option (DataW Value × List MemPlace) := some (.held v, [])
/-- Block b is a map by text of at most n entries; what each text has. -/
def RawM (P : Program) (k : TypeId) (w : World) (b n : Nat) (m : List UInt8 → Option Value) : Prop :=
  ∃ D : DataW Value, w.ownsMap P k rawR b n D ∧ (∀ p, has D (.string p) = (m p).isSome) ∧ ∀ p v z, m p = some v → D.atKey (.string p) z = .held v
def putM (m : List UInt8 → Option Value) (p : List UInt8) (v : Value) : List UInt8 → Option Value := fun q => if q = p then some v else m q
theorem rawM_made (P : Program) (k : TypeId) (w : World) : RawM P k (w.alloc (.map #[] 0)) w.heap.size 0 fun _ => none :=
  ⟨.map [], World.ownsMap_made w _ _ _, fun p => by simp [has], fun p v z h => by cases h⟩
theorem rawM_block {P : Program} {k : TypeId} {w w' : World} {b n : Nat} {m : List UInt8 → Option Value} (h : RawM P k w b n m) (hb : w'.heap[b]? = w.heap[b]?) : RawM P k w' b n m := by
  obtain ⟨D, ⟨es, clock, h1, h2⟩, h3⟩ := h
  exact ⟨D, ⟨es, clock, hb.trans h1, h2⟩, h3⟩
theorem rawM_lt {P : Program} {k : TypeId} {w : World} {b n : Nat} {m : List UInt8 → Option Value} (h : RawM P k w b n m) : b < w.heap.size := by
  obtain ⟨D, h1, -⟩ := h; exact h1.lt
theorem str_key {P : Program} {k : TypeId} (hk : P.underlying k = some .string) (p : List UInt8) (hp : p.length ≤ maxLen) : keyOf P k (.string (str p)) = some (.string p) := by
  have h := WideMaps.keyOf_string_mk hk (s := str p) (by rw [str_size]; exact hp)
  exact h
theorem rawM_look {P : Program} {k t e : TypeId} {w : World} {b n : Nat} {m : List UInt8 → Option Value} (h : RawM P k w b n m) (hk : P.underlying k = some .string) (ht : P.underlying t = some (.map k e)) {z : Value} (hz : (zeroValue e).run P w = .ok z w) (p : List UInt8) (hp : p.length ≤ maxLen) :
    (Instr.lookup t (.map (some b)) (.string (str p)) false).run P w = .ok ((m p).getD z) w := by
  obtain ⟨D, hown, h1, h2⟩ := h
  obtain ⟨v, ps, hr, hv⟩ := hown.lookup (string_keyed hk) ht hz (show rawR z = some (.held z, []) from rfl) (str_key hk p hp)
  rw [hr]
  simp only [rawR, Option.some.injEq, Prod.mk.injEq] at hv
  cases hm : m p with
  | some u => rw [h2 p u _ hm] at hv; rw [DataW.held.inj hv.1]; rfl
  | none =>
    rw [atKey_of_not_has (by rw [h1, hm]; rfl)] at hv
    rw [DataW.held.inj hv.1]; rfl
theorem rawM_look_ok {P : Program} {k t e : TypeId} {w : World} {b n : Nat} {m : List UInt8 → Option Value} (h : RawM P k w b n m) (hk : P.underlying k = some .string) (ht : P.underlying t = some (.map k e)) {z : Value} (hz : (zeroValue e).run P w = .ok z w) (p : List UInt8) (hp : p.length ≤ maxLen) :
    (Instr.lookup t (.map (some b)) (.string (str p)) true).run P w = .ok (.tuple #[(m p).getD z, .bool (m p).isSome]) w := by
  obtain ⟨D, hown, h1, h2⟩ := h
  obtain ⟨v, ps, hr, hv⟩ := hown.look_ok (string_keyed hk) ht hz (show rawR z = some (.held z, []) from rfl) (str_key hk p hp)
  rw [hr, h1]
  simp only [rawR, Option.some.injEq, Prod.mk.injEq] at hv
  cases hm : m p with
  | some u => rw [h2 p u _ hm] at hv; rw [DataW.held.inj hv.1]; rfl
  | none =>
    rw [atKey_of_not_has (by rw [h1, hm]; rfl)] at hv
    rw [DataW.held.inj hv.1]; rfl
theorem rawM_put {P : Program} {k t e : TypeId} {w : World} {b n : Nat} {m : List UInt8 → Option Value} (h : RawM P k w b n m) (hk : P.underlying k = some .string) (ht : P.underlying t = some (.map k e)) (hn : n < maxLen) (p : List UInt8) (hp : p.length ≤ maxLen) (v : Value) :
    ∃ w', (Instr.mapUpdate t (.map (some b)) (.string (str p)) v).run P w = .ok () w' ∧ RawM P k w' b (n + 1) (putM m p v) ∧ w.grownBy w' (some b) := by
  obtain ⟨D, hown, h1, h2⟩ := h
  obtain ⟨w', hr, ho, hg⟩ := hown.update (string_keyed hk) ht hn (str_key hk p hp) (show rawR v = some (.held v, []) from rfl)
  refine ⟨w', hr, ⟨_, ho, fun q => ?_, fun q u z hq => ?_⟩, hg⟩
  · unfold putM
    by_cases hqp : q = p
    · subst hqp; rw [if_pos rfl, has_put_same hown.isMap ((string_keyed hk).key (str_key hk q hp))]; rfl
    · rw [if_neg hqp, has_put_other (fun e => hqp (by injection e)), h1]
  · unfold putM at hq
    by_cases hqp : q = p
    · subst hqp
      rw [if_pos rfl] at hq
      rw [atKey_put_same hown.isMap ((string_keyed hk).key (str_key hk q hp)), Option.some.inj hq]
    · rw [if_neg hqp] at hq
      rw [atKey_put_other (fun e => hqp (by injection e)), h2 q u z hq]
/-- The texts of a map, each once. -/
theorem rawM_keys {P : Program} {k : TypeId} {w : World} {b n : Nat} {m : List UInt8 → Option Value} (h : RawM P k w b n m) (hk : P.underlying k = some .string) :
    ∃ D : DataW Value, w.ownsMap P k rawR b n D ∧ (strKeys D).Nodup ∧ (∀ p, p ∈ strKeys D ↔ (m p).isSome = true) ∧ Maps.size D ≤ n ∧ ∀ p ∈ strKeys D, p.length ≤ maxLen := by
  obtain ⟨D, hown, h1, h2⟩ := h
  refine ⟨D, hown, ?_, fun p => ?_, hown.size_le, strKeys_le hown hk⟩
  · obtain ⟨es, hD, hpw, _⟩ := hown.entries (string_keyed hk)
    obtain ⟨es', hD', hko⟩ := hown.keysOf
    obtain rfl : es = es' := by rw [hD] at hD'; simpa using hD'
    subst hD
    show (es.map fun p => strOf p.1).Nodup
    refine List.pairwise_map.2 (hpw.imp_of_mem fun {x y} hx hy hne e => hne ?_)
    obtain ⟨v, hv⟩ := hko x hx
    obtain ⟨u, hu⟩ := hko y hy
    obtain ⟨a, -, ha, -⟩ := Maps.keyOf_str hk hv
    obtain ⟨c, -, hc, -⟩ := Maps.keyOf_str hk hu
    rw [ha, hc] at e ⊢
    exact congrArg _ e
  · rw [← h1 p]
    obtain ⟨es, hD, hko⟩ := hown.keysOf
    subst hD
    rw [has_eq, List.any_eq_true]
    show p ∈ es.map (fun p => strOf p.1) ↔ _
    constructor
    · intro hp
      obtain ⟨x, hx, rfl⟩ := List.mem_map.1 hp
      obtain ⟨v, hv⟩ := hko x hx
      obtain ⟨a, -, ha, -⟩ := Maps.keyOf_str hk hv
      exact ⟨x, hx, by rw [ha]; simp [strOf, Lit.sameKey]⟩
    · rintro ⟨x, hx, hs⟩
      exact List.mem_map.2 ⟨x, hx, by rw [WideAt.sameKey_eq hs]; rfl⟩
/-- What is sorted rises, if no text stands twice. -/
theorem sorted_rises {ss : List (List UInt8)} (h : ss.Nodup) : (ss.mergeSort (fun x y => decide (x ≤ y))).Pairwise fun a b => Op.bytesLess a b = true := by
  have tr : ∀ a b c : List UInt8, leB a b = true → leB b c = true → leB a c = true := fun a b c h1 h2 => by simp only [leB, decide_eq_true_eq] at *; exact List.le_trans h1 h2
  have tot : ∀ a b : List UInt8, (leB a b || leB b a) = true := fun a b => by simp only [leB, Bool.or_eq_true, decide_eq_true_eq]; exact List.le_total a b
  have h1 := List.pairwise_mergeSort tr tot ss
  have h2 : (ss.mergeSort leB).Nodup := (List.mergeSort_perm ss leB).nodup_iff.2 h
  refine (h1.and h2).imp fun {a b} ⟨x, y⟩ => ?_
  have h3 : Op.bytesLess b a = false := by
    rw [Go.Proofs.bytesLess_eq]
    simp only [leB, decide_eq_true_eq] at x
    exact decide_eq_false fun h => (List.not_lt.2 x) h
  cases h4 : Op.bytesLess a b with
  | true => rfl
  | false => exact absurd (bl_tri a b h4 h3) y
end Go.Proofs.YtppmbdpfledejaaGreatDoor
namespace Go.Proofs.YtppmbdpfledejaaGreatDoor
open Go.RowKit Go.Maps
/-- A key as its type reads it. -/
def KeyV (P : Program) (k : TypeId) (x : Value) : Prop := ∃ l, keyOf P k x = some l
/-- Block b is a map of at most n entries; what each key has. -/
def KeyM (P : Program) (k : TypeId) (w : World) (b n : Nat) (m : Value → Option Value) : Prop :=
  ∃ D : DataW Value, w.ownsMap P k rawR b n D ∧ (∀ x l, keyOf P k x = some l → has D l = (m x).isSome) ∧ ∀ x l v z, keyOf P k x = some l → m x = some v → D.atKey l z = .held v
open Classical in
noncomputable def putKey (m : Value → Option Value) (x : Value) (v : Value) : Value → Option Value := fun y => if y = x then some v else m y
theorem putKey_same (m : Value → Option Value) (x v : Value) : putKey m x v x = some v := if_pos rfl
theorem putKey_other {m : Value → Option Value} {x v y : Value} (h : y ≠ x) : putKey m x v y = m y := if_neg h
theorem keyM_made (P : Program) (k : TypeId) (w : World) : KeyM P k (w.alloc (.map #[] 0)) w.heap.size 0 fun _ => none :=
  ⟨.map [], World.ownsMap_made w _ _ _, fun x l _ => by simp [has], fun x l v z _ h => by cases h⟩
theorem keyM_block {P : Program} {k : TypeId} {w w' : World} {b n : Nat} {m : Value → Option Value} (h : KeyM P k w b n m) (hb : w'.heap[b]? = w.heap[b]?) : KeyM P k w' b n m := by
  obtain ⟨D, ⟨es, clock, h1, h2⟩, h3⟩ := h
  exact ⟨D, ⟨es, clock, hb.trans h1, h2⟩, h3⟩
theorem keyM_lt {P : Program} {k : TypeId} {w : World} {b n : Nat} {m : Value → Option Value} (h : KeyM P k w b n m) : b < w.heap.size := by
  obtain ⟨D, h1, -⟩ := h; exact h1.lt
theorem keyM_look {P : Program} {k t e : TypeId} {w : World} {b n : Nat} {m : Value → Option Value} (h : KeyM P k w b n m) (K : Keyed P k) (ht : P.underlying t = some (.map k e)) {z : Value} (hz : (zeroValue e).run P w = .ok z w) (x : Value) (hx : KeyV P k x) :
    (Instr.lookup t (.map (some b)) x false).run P w = .ok ((m x).getD z) w := by
  obtain ⟨D, hown, h1, h2⟩ := h
  obtain ⟨l, hl⟩ := hx
  obtain ⟨v, ps, hr, hv⟩ := hown.lookup K ht hz (show rawR z = some (.held z, []) from rfl) hl
  rw [hr]
  simp only [rawR, Option.some.injEq, Prod.mk.injEq] at hv
  cases hm : m x with
  | some u => rw [h2 x l u _ hl hm] at hv; rw [DataW.held.inj hv.1]; rfl
  | none =>
    rw [atKey_of_not_has (by rw [h1 x l hl, hm]; rfl)] at hv
    rw [DataW.held.inj hv.1]; rfl
theorem keyM_look_ok {P : Program} {k t e : TypeId} {w : World} {b n : Nat} {m : Value → Option Value} (h : KeyM P k w b n m) (K : Keyed P k) (ht : P.underlying t = some (.map k e)) {z : Value} (hz : (zeroValue e).run P w = .ok z w) (x : Value) (hx : KeyV P k x) :
    (Instr.lookup t (.map (some b)) x true).run P w = .ok (.tuple #[(m x).getD z, .bool (m x).isSome]) w := by
  obtain ⟨D, hown, h1, h2⟩ := h
  obtain ⟨l, hl⟩ := hx
  obtain ⟨v, ps, hr, hv⟩ := hown.look_ok K ht hz (show rawR z = some (.held z, []) from rfl) hl
  rw [hr, h1 x l hl]
  simp only [rawR, Option.some.injEq, Prod.mk.injEq] at hv
  cases hm : m x with
  | some u => rw [h2 x l u _ hl hm] at hv; rw [DataW.held.inj hv.1]; rfl
  | none =>
    rw [atKey_of_not_has (by rw [h1 x l hl, hm]; rfl)] at hv
    rw [DataW.held.inj hv.1]; rfl
theorem keyM_put {P : Program} {k t e : TypeId} {w : World} {b n : Nat} {m : Value → Option Value} (h : KeyM P k w b n m) (K : Keyed P k) (ht : P.underlying t = some (.map k e)) (hn : n < maxLen) (x : Value) (hx : KeyV P k x) (v : Value) :
    ∃ w', (Instr.mapUpdate t (.map (some b)) x v).run P w = .ok () w' ∧ KeyM P k w' b (n + 1) (putKey m x v) ∧ w.grownBy w' (some b) := by
  obtain ⟨D, hown, h1, h2⟩ := h
  obtain ⟨l, hl⟩ := hx
  obtain ⟨w', hr, ho, hg⟩ := hown.update K ht hn hl (show rawR v = some (.held v, []) from rfl)
  refine ⟨w', hr, ⟨_, ho, fun y ly hy => ?_, fun y ly u z hy hq => ?_⟩, hg⟩
  · by_cases hyx : y = x
    · subst hyx
      rw [hl] at hy; obtain rfl := Option.some.inj hy
      rw [putKey_same, has_put_same hown.isMap (K.key hl)]; rfl
    · have hne : ly ≠ l := fun e => hyx (K.inj hy (by rw [e]; exact hl))
      rw [putKey_other hyx, has_put_other (by first | exact hne | exact hne.symm), h1 y ly hy]
  · by_cases hyx : y = x
    · subst hyx
      rw [hl] at hy; obtain rfl := Option.some.inj hy
      rw [putKey_same] at hq
      rw [atKey_put_same hown.isMap (K.key hl), Option.some.inj hq]
    · have hne : ly ≠ l := fun e => hyx (K.inj hy (by rw [e]; exact hl))
      rw [putKey_other hyx] at hq
      rw [atKey_put_other (by first | exact hne | exact hne.symm), h2 y ly u z hy hq]
end Go.Proofs.YtppmbdpfledejaaGreatDoor
namespace Go.Proofs.YtppmbdpfledejaaGreatDoor
section
variable {α : Type} (key : α → List UInt8)
def ltK (x y : α) : Bool := Op.bytesLess (key x) (key y)
def leK (x y : α) : Prop := ltK key y x = false
def SortedK (l : List α) : Prop := l.Pairwise (leK key)
def fltK (l : List α) (p : List UInt8) : List α := l.filter fun x => key x == p
/-- Sorted, and of each key in turn as they stood. -/
def StableK (l l' : List α) : Prop := SortedK key l' ∧ (∀ p, fltK key l' p = fltK key l p) ∧ l'.length = l.length
variable {key}
theorem leK_refl (x : α) : leK key x x := bytesLess_irrefl _
theorem leK_trans {x y z : α} (h1 : leK key x y) (h2 : leK key y z) : leK key x z := by
  unfold leK ltK at *
  cases h : Op.bytesLess (key z) (key x) with
  | false => rfl
  | true =>
    rcases cmpB_cases (key x) (key y) with ⟨-, e⟩ | ⟨-, h3, -⟩ | ⟨-, h3, -⟩
    · rw [e] at h; rw [h] at h2; cases h2
    · have := bl_trans _ _ _ h h3; rw [h2] at this; cases this
    · rw [h1] at h3; cases h3
theorem ltK_le {x y : α} (h : ltK key x y = true) : leK key x y := bl_asymm h
theorem ltK_leK {x y z : α} (h1 : ltK key x y = true) (h2 : leK key y z) : ltK key x z = true := by
  unfold leK ltK at *
  rcases cmpB_cases (key y) (key z) with ⟨-, e⟩ | ⟨-, h3, -⟩ | ⟨-, h3, -⟩
  · rw [← e]; exact h1
  · exact bl_trans _ _ _ h1 h3
  · rw [h2] at h3; cases h3
theorem leK_ltK {x y z : α} (h1 : leK key x y) (h2 : ltK key y z = true) : ltK key x z = true := by
  unfold leK ltK at *
  rcases cmpB_cases (key x) (key y) with ⟨-, e⟩ | ⟨-, h3, -⟩ | ⟨-, h3, -⟩
  · rw [e]; exact h2
  · exact bl_trans _ _ _ h3 h2
  · rw [h1] at h3; cases h3
theorem leK_anti {x y : α} (h1 : leK key x y) (h2 : leK key y x) : key x = key y := bl_tri _ _ h2 h1
theorem fltK_append (a b : List α) (p : List UInt8) : fltK key (a ++ b) p = fltK key a p ++ fltK key b p := List.filter_append ..
theorem fltK_cons_eq (x : α) (l : List α) : fltK key (x :: l) (key x) = x :: fltK key l (key x) := by unfold fltK; rw [List.filter_cons]; simp
theorem mem_fltK {l : List α} {p : List UInt8} {x : α} : x ∈ fltK key l p ↔ x ∈ l ∧ key x = p := by unfold fltK; rw [List.mem_filter]; simp
theorem mem_of_flt {a b : List α} (h : ∀ p, fltK key a p = fltK key b p) {x : α} (hx : x ∈ a) : x ∈ b := by
  have h1 : x ∈ fltK key a (key x) := mem_fltK.2 ⟨hx, rfl⟩
  rw [h] at h1
  exact (mem_fltK.1 h1).1
theorem sorted_one : ∀ {a b : List α}, SortedK key a → SortedK key b → (∀ p, fltK key a p = fltK key b p) → a = b
  | [], [], _, _, _ => rfl
  | [], y :: b, _, _, h => by have := mem_of_flt (fun p => (h p).symm) (x := y) (by simp); cases this
  | x :: a, [], _, _, h => by have := mem_of_flt h (x := x) (by simp); cases this
  | x :: a, y :: b, ha, hb, h => by
    obtain ⟨a1, a2⟩ := List.pairwise_cons.1 ha
    obtain ⟨b1, b2⟩ := List.pairwise_cons.1 hb
    have le1 : leK key x y := by
      rcases List.mem_cons.1 (mem_of_flt (fun p => (h p).symm) (x := y) (by simp)) with e | e
      · rw [e]; exact leK_refl _
      · exact a1 y e
    have le2 : leK key y x := by
      rcases List.mem_cons.1 (mem_of_flt h (x := x) (by simp)) with e | e
      · rw [e]; exact leK_refl _
      · exact b1 x e
    have hk := leK_anti le1 le2
    have h1 := h (key x)
    have h2 : fltK key (y :: b) (key x) = y :: fltK key b (key x) := by rw [hk]; exact fltK_cons_eq y b
    rw [fltK_cons_eq, h2] at h1
    obtain ⟨rfl, -⟩ := List.cons.inj h1
    refine congrArg (x :: ·) (sorted_one a2 b2 fun p => ?_)
    have h3 := h p
    unfold fltK at h3 ⊢
    rw [List.filter_cons, List.filter_cons] at h3
    split at h3
    · exact (List.cons.inj h3).2
    · exact h3
theorem stable_one {l a b : List α} (ha : StableK key l a) (hb : StableK key l b) : a = b := sorted_one ha.1 hb.1 fun p => (ha.2.1 p).trans (hb.2.1 p).symm
theorem stable_mem {l a : List α} (h : StableK key l a) {x : α} : x ∈ a ↔ x ∈ l := ⟨mem_of_flt h.2.1, mem_of_flt fun p => (h.2.1 p).symm⟩
theorem stable_nil : StableK key ([] : List α) [] := ⟨List.Pairwise.nil, fun _ => rfl, rfl⟩
theorem stable_sorted {l : List α} (h : SortedK key l) : StableK key l l := ⟨h, fun _ => rfl, rfl⟩
/-- What is strictly above may be passed. -/
theorem flt_pass {a b : List α} (h : ∀ x ∈ a, ∀ y ∈ b, ltK key y x = true) (p : List UInt8) : fltK key (a ++ b) p = fltK key (b ++ a) p := by
  rw [fltK_append, fltK_append]
  by_cases ha : fltK key a p = []
  · rw [ha]; simp
  · have hb : fltK key b p = [] := by
      cases hq : fltK key b p with
      | nil => rfl
      | cons y t =>
        obtain ⟨x, hx⟩ := List.exists_mem_of_ne_nil _ ha
        have h1 := mem_fltK.1 hx
        have h2 := mem_fltK.1 (show y ∈ fltK key b p by rw [hq]; simp)
        have h3 := h x h1.1 y h2.1
        unfold ltK at h3
        rw [h1.2, h2.2, bytesLess_irrefl] at h3; cases h3
    rw [hb]; simp
theorem sorted_append {a b : List α} : SortedK key (a ++ b) ↔ SortedK key a ∧ SortedK key b ∧ ∀ x ∈ a, ∀ y ∈ b, leK key x y := by
  unfold SortedK; rw [List.pairwise_append]
/-- Two sorted lists, cut so that what stands behind the one's cut is above what stands ahead of the other one's. -/
theorem stable_cut {L1 L2 R1 R2 S1 S2 : List α} (h1 : SortedK key (L1 ++ L2)) (h2 : SortedK key (R1 ++ R2)) (h3 : ∀ x ∈ L2, ∀ y ∈ R1, ltK key y x = true) (h4 : ∀ x ∈ L1, ∀ y ∈ R2, leK key x y) (s1 : StableK key (L1 ++ R1) S1) (s2 : StableK key (L2 ++ R2) S2) :
    StableK key (L1 ++ L2 ++ (R1 ++ R2)) (S1 ++ S2) := by
  obtain ⟨a1, a2, a3⟩ := sorted_append.1 h1
  obtain ⟨b1, b2, b3⟩ := sorted_append.1 h2
  refine ⟨sorted_append.2 ⟨s1.1, s2.1, fun x hx y hy => ?_⟩, fun p => ?_, ?_⟩
  · have hx := List.mem_append.1 ((stable_mem s1).1 hx)
    have hy := List.mem_append.1 ((stable_mem s2).1 hy)
    rcases hx with hx | hx <;> rcases hy with hy | hy
    · exact a3 x hx y hy
    · exact h4 x hx y hy
    · exact ltK_le (h3 y hy x hx)
    · exact b3 x hx y hy
  · rw [fltK_append, s1.2.1, s2.2.1]
    have := flt_pass h3 p
    simp only [fltK_append] at this ⊢
    simp only [List.append_assoc]
    rw [← List.append_assoc (fltK key R1 p), ← this]
    simp only [List.append_assoc]
  · rw [List.length_append, s1.2.2, s2.2.2]; simp only [List.length_append]; omega
/-- One, put into what is sorted behind it. -/
theorem stable_left {x : α} {A B : List α} (h : SortedK key (A ++ B)) (h1 : ∀ y ∈ A, ltK key y x = true) (h2 : ∀ y ∈ B, leK key x y) : StableK key (x :: (A ++ B)) (A ++ x :: B) := by
  obtain ⟨a1, a2, a3⟩ := sorted_append.1 h
  refine ⟨sorted_append.2 ⟨a1, List.pairwise_cons.2 ⟨h2, a2⟩, fun y hy z hz => ?_⟩, fun p => ?_, by simp; omega⟩
  · rcases List.mem_cons.1 hz with rfl | hz
    · exact ltK_le (h1 y hy)
    · exact a3 y hy z hz
  · have := flt_pass (a := [x]) (b := A) (fun u hu y hy => by rw [List.mem_singleton.1 hu]; exact h1 y hy) p
    rw [show A ++ x :: B = (A ++ [x]) ++ B by simp, show x :: (A ++ B) = ([x] ++ A) ++ B by simp, fltK_append (A ++ [x]) B, fltK_append ([x] ++ A) B, this]
/-- One, put into what is sorted ahead of it. -/
theorem stable_right {y : α} {A B : List α} (h : SortedK key (A ++ B)) (h1 : ∀ x ∈ A, leK key x y) (h2 : ∀ x ∈ B, ltK key y x = true) : StableK key (A ++ B ++ [y]) (A ++ y :: B) := by
  obtain ⟨a1, a2, a3⟩ := sorted_append.1 h
  refine ⟨sorted_append.2 ⟨a1, List.pairwise_cons.2 ⟨fun z hz => ltK_le (h2 z hz), a2⟩, fun x hx z hz => ?_⟩, fun p => ?_, by simp⟩
  · rcases List.mem_cons.1 hz with rfl | hz
    · exact h1 x hx
    · exact a3 x hx z hz
  · have := flt_pass (a := B) (b := [y]) (fun x hx u hu => by rw [List.mem_singleton.1 hu]; exact h2 x hx) p
    rw [List.append_assoc, fltK_append A (y :: B), fltK_append A (B ++ [y]), this]; rfl
end
end Go.Proofs.YtppmbdpfledejaaGreatDoor
namespace Go.Proofs.YtppmbdpfledejaaGreatDoor
open Go.RowKit
/-- What somebody does. -/
structure DeedT where
  who : Nat
  other : Nat
  path : Nat
  learns : Bool
  gone : Bool
  size : Nat
structure Hist where
  know : Nat → List D2
  out : List Ev
def pathsH : List (List UInt8) := [[97], [97, 47, 98], [99], [100]]
def sizeF (n : Nat) : Nat → BitVec 32 := fun i => if i = 0 then BitVec.ofNat 32 n else 0#32
def evH (h : Hist) (d : DeedT) : Ev :=
  ⟨(d.who % 3 : Nat), getV (h.know (d.who % 3)) (d.who % 3 : Nat) + 1, h.know (d.who % 3), if d.gone then 2 else 1, pathsH.getD (d.path % 4) [], if d.gone then zeroF else sizeF d.size, if d.gone then 0 else (d.size : Int)⟩
def putK (k : Nat → List D2) (w : Nat) (l : List D2) : Nat → List D2 := fun i => if i = w then l else k i
def stepH (h : Hist) (d : DeedT) : Hist :=
  if d.learns then ⟨putK h.know (d.who % 3) (joinV (h.know (d.who % 3)) (h.know (d.other % 3))), h.out⟩
  else ⟨putK h.know (d.who % 3) (withV (h.know (d.who % 3)) (evH h d).r (evH h d).q), h.out ++ [evH h d]⟩
def hist0 : Hist := ⟨fun _ => [], []⟩
def histN (l : List DeedT) : Hist := (l.take 40).foldl stepH hist0
theorem getV_nat (l : List D2) {a : Nat} (h : a < 32) : getV l (a : Int) = allV l a := by
  unfold getV; rw [if_neg (by omega)]; rfl
structure InvH (h : Hist) (n : Nat) : Prop where
  vec : ∀ i, i < 3 → mayV (h.know i) = true
  top : ∀ i j, i < 3 → j < 3 → allV (h.know i) j ≤ allV (h.know j) j
  cnt : ∀ i, i < 3 → allV (h.know i) i ≤ n
  evs : ∀ e ∈ h.out, mayE e = true ∧ (∀ i, u32 (e.sum i) < 256) ∧ ∃ a : Nat, a < 3 ∧ e.r = (a : Int) ∧ 1 ≤ e.q ∧ e.q ≤ allV (h.know a) a ∧ allV e.deps a = e.q - 1 ∧ ∀ j, j < 3 → allV e.deps j ≤ allV (h.know j) j
  clos : ∀ i a : Nat, i < 3 → a < 3 → ∀ e ∈ h.out, e.r = (a : Int) → e.q ≤ allV (h.know i) a → leqV e.deps (h.know i) = true
  trans : ∀ e ∈ h.out, ∀ f ∈ h.out, ∀ a : Nat, a < 3 → f.r = (a : Int) → f.q ≤ allV e.deps a → leqV f.deps e.deps = true
  rise : h.out.Pairwise fun e f => e.r = f.r → e.q < f.q
theorem inv0 : InvH hist0 0 where
  vec := fun _ _ => mayV_nil
  top := fun _ _ _ _ => by simp [hist0]
  cnt := fun _ _ => by simp [hist0, allV_nil]
  evs := fun e he => by simp [hist0] at he
  clos := fun _ _ _ _ e he => by simp [hist0] at he
  trans := fun e he => by simp [hist0] at he
  rise := List.Pairwise.nil
theorem sizeF_lt {n : Nat} (hn : n < 256) (i : Nat) : u32 (sizeF n i) < 256 := by
  unfold sizeF; split
  · unfold u32; rw [BitVec.toNat_ofNat]; omega
  · decide
theorem path_own {k : Nat} (hk : k < 4) : ownP (pathsH.getD k []) = true := by
  match k, hk with
  | 0, _ => decide +kernel
  | 1, _ => decide +kernel
  | 2, _ => decide +kernel
  | 3, _ => decide +kernel
theorem leq_refl (a : List D2) : leqV a a = true := (leqV_iff a a).2 fun _ _ => Int.le_refl _
theorem inv_learn {h : Hist} {n : Nat} (H : InvH h n) {w o : Nat} (hw : w < 3) (ho : o < 3) : InvH ⟨putK h.know w (joinV (h.know w) (h.know o)), h.out⟩ (n + 1) := by
  have hd : ∀ i j, i < 3 → j < 32 → allV (putK h.know w (joinV (h.know w) (h.know o)) i) j = if i = w then max (allV (h.know w) j) (allV (h.know o) j) else allV (h.know i) j := fun i j hi hj => by
    unfold putK; split
    · rw [all_join _ _ hj]
    · rfl
  have hdi : ∀ j, j < 3 → allV (putK h.know w (joinV (h.know w) (h.know o)) j) j = allV (h.know j) j := fun j hj => by
    rw [hd j j hj (by omega)]
    split
    · rename_i e; subst e
      have := H.top o j ho hj; omega
    · rfl
  refine ⟨fun i hi => ?_, fun i j hi hj => ?_, fun i hi => ?_, fun e he => ?_, fun i a hi ha e he hr hq => ?_, H.trans, H.rise⟩
  · show mayV (putK h.know w _ i) = true
    unfold putK; split
    · exact mayV_join _ _
    · exact H.vec i hi
  · show allV (putK h.know w _ i) j ≤ allV (putK h.know w _ j) j
    rw [hdi j hj, hd i j hi (by omega)]
    have h1 := H.top w j hw hj
    have h2 := H.top o j ho hj
    have h3 := H.top i j hi hj
    split <;> omega
  · show allV (putK h.know w _ i) i ≤ ((n + 1 : Nat) : Int)
    rw [hdi i hi]; have := H.cnt i hi; omega
  · obtain ⟨h1, h2, a, h3, h4, h5, h6, h7, h8⟩ := H.evs e he
    refine ⟨h1, h2, a, h3, h4, h5, ?_, h7, fun j hj => ?_⟩
    · show e.q ≤ allV (putK h.know w _ a) a
      rw [hdi a h3]; exact h6
    · show allV e.deps j ≤ allV (putK h.know w _ j) j
      rw [hdi j hj]; exact h8 j hj
  · have hq' : e.q ≤ allV (putK h.know w (joinV (h.know w) (h.know o)) i) a := hq
    show leqV e.deps (putK h.know w _ i) = true
    rw [hd i a hi (by omega)] at hq'
    unfold putK
    by_cases hiw : i = w
    · rw [if_pos hiw] at hq' ⊢
      rcases Int.le_total (allV (h.know w) a) (allV (h.know o) a) with hc | hc
      · exact leq_trans (H.clos o a ho ha e he hr (by omega)) (leq_join _ _).2
      · exact leq_trans (H.clos w a hw ha e he hr (by omega)) (leq_join _ _).1
    · rw [if_neg hiw] at hq' ⊢
      exact H.clos i a hi ha e he hr hq'
theorem inv_event {h : Hist} {n : Nat} (H : InvH h n) (hn : n < 1000) {w : Nat} (hw : w < 3) (e : Ev) (er : e.r = (w : Int)) (eq : e.q = allV (h.know w) w + 1) (ed : e.deps = h.know w) (ep : ownP e.path = true) (eh : mayH e = true) (es : ∀ i, u32 (e.sum i) < 256) :
    InvH ⟨putK h.know w (withV (h.know w) e.r e.q), h.out ++ [e]⟩ (n + 1) := by
  have hc := H.cnt w hw
  have hp := (allV_bd (h.know w) w).1
  have hmd : mayD e.r e.q = true := by rw [er, eq]; unfold mayD; rw [decide_eq_true_eq]; omega
  have hd : ∀ i j, i < 3 → j < 32 → allV (putK h.know w (withV (h.know w) e.r e.q) i) j = if i = w then (if j = w then e.q else allV (h.know w) j) else allV (h.know i) j := fun i j hi hj => by
    unfold putK; split
    · rw [all_with _ _ _ hj, withN_max, hmd, er]
      by_cases hjw : j = w
      · subst hjw; rw [if_pos ⟨rfl, rfl⟩, if_pos rfl]; omega
      · rw [if_neg (by omega), if_neg hjw]
    · rfl
  have hle : ∀ i j, i < 3 → j < 32 → allV (h.know i) j ≤ allV (putK h.know w (withV (h.know w) e.r e.q) i) j := fun i j hi hj => by
    rw [hd i j hi hj]
    by_cases hiw : i = w
    · subst hiw; rw [if_pos rfl]; split
      · rename_i e'; subst e'; omega
      · omega
    · rw [if_neg hiw]; omega
  have hnew : mayE e = true := by
    simp only [mayE, knownE, Bool.and_eq_true, decide_eq_true_eq]
    refine ⟨hmd, ⟨by rw [ed]; exact H.vec w hw, ?_⟩, ep, eh⟩
    rw [ed, er, eq, getV_nat _ (by omega)]; omega
  have htop : ∀ i j, i < 3 → j < 3 → allV (putK h.know w (withV (h.know w) e.r e.q) i) j ≤ allV (putK h.know w (withV (h.know w) e.r e.q) j) j := fun i j hi hj => by
    have h3 := H.top i j hi hj
    have h4 := hle j j hj (by omega)
    rw [hd i j hi (by omega)]
    by_cases hiw : i = w
    · subst hiw; rw [if_pos rfl]; split
      · rename_i e'; subst e'; rw [hd j j hj (by omega), if_pos rfl, if_pos rfl]; omega
      · omega
    · rw [if_neg hiw]; omega
  have hclos : ∀ i a : Nat, i < 3 → a < 3 → ∀ f ∈ h.out ++ [e], f.r = (a : Int) → f.q ≤ allV (putK h.know w (withV (h.know w) e.r e.q) i) a → leqV f.deps (putK h.know w (withV (h.know w) e.r e.q) i) = true := fun i a hi ha f hf hr hq => by
    rcases List.mem_append.1 hf with hf | hf
    · obtain ⟨-, -, a', h3, h4, h5, h6, h7, h8⟩ := H.evs f hf
      obtain rfl : a' = a := by omega
      have hq' : f.q ≤ allV (h.know i) a' := by
        rw [hd i a' hi (by omega)] at hq
        by_cases hiw : i = w
        · subst hiw; rw [if_pos rfl] at hq
          by_cases hjw : a' = i
          · subst hjw; exact h6
          · rwa [if_neg hjw] at hq
        · rwa [if_neg hiw] at hq
      have hl := H.clos i a' hi ha f hf hr hq'
      rw [leqV_iff] at hl ⊢
      exact fun j hj => Int.le_trans (hl j hj) (hle i j hi hj)
    · obtain rfl : f = e := by simpa using hf
      obtain rfl : w = a := by omega
      rw [hd i w hi (by omega)] at hq
      by_cases hiw : i = w
      · subst hiw
        rw [leqV_iff, ed]
        exact fun j hj => hle i j hi hj
      · rw [if_neg hiw] at hq
        have := H.top i w hi hw; omega
  refine ⟨fun i hi => ?_, htop, fun i hi => ?_, fun f hf => ?_, hclos, fun f hf g hg a ha hr hq => ?_, ?_⟩
  · show mayV (putK h.know w _ i) = true
    unfold putK; split
    · exact mayV_with _ _ _
    · exact H.vec i hi
  · show allV (putK h.know w _ i) i ≤ ((n + 1 : Nat) : Int)
    have := H.cnt i hi
    rw [hd i i hi (by omega)]
    by_cases hiw : i = w
    · subst hiw; rw [if_pos rfl, if_pos rfl]; omega
    · rw [if_neg hiw]; omega
  · rcases List.mem_append.1 hf with hf | hf
    · obtain ⟨h1, h2, a, h3, h4, h5, h6, h7, h8⟩ := H.evs f hf
      refine ⟨h1, h2, a, h3, h4, h5, Int.le_trans h6 (hle a a h3 (by omega)), h7, fun j hj => Int.le_trans (h8 j hj) (hle j j hj (by omega))⟩
    · obtain rfl : f = e := by simpa using hf
      refine ⟨hnew, es, w, hw, er, by omega, ?_, by rw [ed]; omega, fun j hj => ?_⟩
      · show f.q ≤ allV (putK h.know w _ w) w
        rw [hd w w hw (by omega), if_pos rfl, if_pos rfl]; omega
      · show allV f.deps j ≤ allV (putK h.know w _ j) j
        rw [ed]
        exact Int.le_trans (H.top w j hw hj) (hle j j hj (by omega))
  · rcases List.mem_append.1 hf with hf1 | hf1
    · rcases List.mem_append.1 hg with hg1 | hg1
      · exact H.trans f hf1 g hg1 a ha hr hq
      · obtain ⟨-, -, -, -, -, -, -, -, h8⟩ := H.evs f hf1
        obtain rfl : g = e := by simpa using hg1
        obtain rfl : w = a := by omega
        have := h8 w hw; omega
    · obtain rfl : f = e := by simpa using hf1
      rcases List.mem_append.1 hg with hg1 | hg1
      · rw [ed] at hq ⊢
        exact H.clos w a hw ha g hg1 hr hq
      · obtain rfl : g = f := by simpa using hg1
        exact leq_refl _
  · show List.Pairwise _ (h.out ++ [e])
    rw [List.pairwise_append]
    refine ⟨H.rise, List.pairwise_singleton _ _, fun f hf g hg hrr => ?_⟩
    obtain rfl : g = e := by simpa using hg
    obtain ⟨-, -, a, h3, h4, h5, h6, h7, h8⟩ := H.evs f hf
    obtain rfl : a = w := by omega
    omega
theorem evH_may (h : Hist) (d : DeedT) (hs : d.size < 256) : mayH (evH h d) = true ∧ ∀ i, u32 ((evH h d).sum i) < 256 := by
  cases hg : d.gone with
  | true => exact ⟨by simp [mayH, evH, hg, sameRow_self], fun i => by simp only [evH, hg]; exact zeroF_byt i⟩
  | false => exact ⟨by simp [mayH, evH, hg]; omega, fun i => by simp only [evH, hg]; exact sizeF_lt hs i⟩
theorem inv_step {h : Hist} {n : Nat} (H : InvH h n) (hn : n < 1000) {d : DeedT} (hs : d.size < 256) : InvH (stepH h d) (n + 1) := by
  have hw : d.who % 3 < 3 := Nat.mod_lt _ (by decide)
  unfold stepH
  split
  · exact inv_learn H hw (Nat.mod_lt _ (by decide))
  · obtain ⟨h1, h2⟩ := evH_may h d hs
    exact inv_event H hn hw (evH h d) rfl (by show getV _ _ + 1 = _; rw [getV_nat _ (by omega)]) rfl (path_own (Nat.mod_lt _ (by decide))) h1 h2
theorem inv_fold : ∀ (l : List DeedT) (h : Hist) (n : Nat), InvH h n → n + l.length ≤ 1000 → (∀ d ∈ l, d.size < 256) → InvH (l.foldl stepH h) (n + l.length)
  | [], h, n, H, _, _ => H
  | d :: t, h, n, H, hn, hs => by
    rw [List.length_cons] at hn ⊢
    have := inv_fold t (stepH h d) (n + 1) (inv_step H (by omega) (hs d (by simp))) (by omega) (fun x hx => hs x (by simp [hx]))
    rw [show n + (t.length + 1) = n + 1 + t.length by omega]
    exact this
end Go.Proofs.YtppmbdpfledejaaGreatDoor
