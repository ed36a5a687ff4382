/-
Texts: lists of bytes as strings and as slices of bytes in memory; the order of texts. No program is named here.
-/
import Derived.Test.YtfechljjkblkhaaDoorBytes
import Derived.Test.YtfechljjkblkhaaDoorCells
import Derived.Laws.Concat
import Derived.Laws.IdiomStrings
import Derived.Laws.ResultCell
namespace Go.Proofs.YtfechljjkblkhaaDoor
open Go.RowKit
/-- A byte as a word. -/
def w8 (b : UInt8) : BitVec 32 := BitVec.ofNat 32 b.toNat
theorem u32_w8 (b : UInt8) : u32 (w8 b) = (b.toNat : Int) := by
  have := UInt8.toNat_lt b
  unfold u32 w8
  rw [BitVec.toNat_ofNat, Nat.mod_eq_of_lt (by omega)]
theorem w8_lt (b : UInt8) : u32 (w8 b) < 256 := by have := UInt8.toNat_lt b; rw [u32_w8]; omega
/-- A list of bytes as a string. -/
def str (l : List UInt8) : ByteArray := ⟨l.toArray⟩
theorem str_size (l : List UInt8) : (str l).size = l.length := by simp [str, ByteArray.size]
theorem str_toList (l : List UInt8) : (str l).toList = l := ByteArray.toList_mk l
theorem str_append (x y : List UInt8) : str x ++ str y = str (x ++ y) := ByteArray.mk_append_mk x y
theorem str_of (s : ByteArray) : ∃ l, s = str l := ⟨s.data.toList, by cases s; simp [str]⟩
/-- A slice of bytes in memory has this text. -/
def HasText (w : World) (v : Value) (l : List UInt8) : Prop := HasBytes w v (l.map w8)
theorem bytesL_map (l : List UInt8) : bytesL (l.map w8) = l.map fun b => Value.int .u8 b.toNat := by
  simp [bytesL, u32_w8, Function.comp_def]
theorem conv_text {P : Program} {src dst e : TypeId} (hs : P.underlying src = some (.slice e)) (he : P.underlying e = some (.int .u8)) (hd : P.underlying dst = some .string) {w : World} {v : Value} {l : List UInt8} (h : HasText w v l) :
    (convert src dst v).run P w = .ok (.string (str l)) w := by
  obtain ⟨ao, cap, rfl, hnil, hc⟩ := h
  rw [List.length_map]
  cases ao with
  | none =>
    obtain ⟨hl, rfl⟩ := hnil rfl
    obtain rfl : l = [] := by simpa using hl
    rw [show ([] : List UInt8).length = 0 from rfl, run_convert_bytes_string w src dst e none 0 0 hs he hd]; rfl
  | some ad =>
    refine run_convert_bytes_back (P := P) w src dst e ad cap l hs he hd fun j hj => ?_
    refine (hc ad rfl).2 j _ ?_
    rw [bytesL_map]; simp [hj]
theorem add_str {P : Program} (x y : List UInt8) (h : x.length + y.length ≤ 4611686018427387904) (w : World) : (Op.stringOp .add (str x) (str y)).run P w = .ok (.string (str (x ++ y))) w := by
  rw [run_string_add_sum w _ _ (by rw [str_size, str_size]; omega), str_append]
/-- What is read off a slice of bytes, as a string, within a region. -/
theorem conv_step {P : Program} {o : Oper} {ts : Array Value} {ds : List Deferred} {w : World} {K : Act → World → Prop} {Q : Exit → Act → World → Prop} {E : Prop} {ops : Array Oper} (d : Nat) (hd : o.dst = some d) (hw : Region.wanted o (yielded ops ts) = true) (src dst e : TypeId) (x : Operand) (v : Value) (ho : o.op = .convert src dst x) (hx : Act.eval { tmps := ts, defers := ds } x = v)
    (hs : P.underlying src = some (.slice e)) (he : P.underlying e = some (.int .u8)) (ht : P.underlying dst = some .string) (l : List UInt8) (h : HasText w v l)
    (hK : K { tmps := ts.setIfInBounds d (.string (str l)), defers := ds } w) : if Region.wanted o (yielded ops ts) = true then Oper.wp P o { tmps := ts, defers := ds } w K Q else E :=
  conv_wp d hd hw ho hx (conv_text hs he ht h) hK
/-- A slice of one byte that was just made. -/
theorem text_byte (w : World) (t : TypeId) (c : UInt8) (n : Nat) (hn : c.toNat = n) : HasText (w.alloc (.cells #[.int .u8 (n : Int)] t (0, 0))) (.slice (some ⟨w.heap.size, 0, none⟩) 1 1) [c] := by
  subst hn
  have h := has_new w t (0, 0) ([c].map w8)
  rw [show (bytesL ([c].map w8)).toArray = #[.int .u8 (c.toNat : Int)] by rw [bytesL_map]; rfl] at h
  exact h
theorem index_str {P : Program} (w : World) {t : TypeId} (l : List UInt8) (k : IntKind) (i : Nat) (c : UInt8) (hi : l[i]? = some c) (ht : P.underlying t = some .string) :
    (Instr.index t (.string (str l)) (.int k (i : Int))).run P w = .ok (.int .u8 (c.toNat : Int)) w := by
  obtain ⟨h, rfl⟩ := List.getElem?_eq_some_iff.1 hi
  rw [run_index_string w t (str l) k i ht, dif_pos ⟨by omega, by rw [str_size]; omega⟩]
  simp [str, ByteArray.getElem_eq_getElem_data]
/-- The beginning of a text, as an operation. -/
theorem to_op {P : Program} {o : Oper} {a : Act} {t : TypeId} {x hi : Operand} {l : List UInt8} {n : Nat} (ho : o.op = .slice t x none (some hi) none) (hx : a.eval x = .string (str l)) (hh : a.eval hi = .int .i64 (n : Int)) (hn : n ≤ l.length) (ht : P.underlying t = some .string) :
    ∀ w, (execOp a.eval o).run P w = .ok (.value (.string (str (l.take n)))) w := fun w => by
  have h := run_slice_string_h w t (str l) ht .i64 n (by omega) (by rw [str_size]; omega)
  have e : (str l).extract 0 (n : Int).toNat = str (l.take n) := by unfold str; rw [ByteArray.extract_mk]; simp
  rw [e] at h
  simp only [execOp, ho, hx, hh, Option.map, Sem.run_bind]
  rw [run_sliceAt_string w t _ _ _ _ ht, h]
  rfl
/-- The rest of a text, as an operation. -/
theorem from_op {P : Program} {o : Oper} {a : Act} {t : TypeId} {x lo : Operand} {l : List UInt8} {n : Nat} (ho : o.op = .slice t x (some lo) none none) (hx : a.eval x = .string (str l)) (hh : a.eval lo = .int .i64 (n : Int)) (hn : n ≤ l.length) (ht : P.underlying t = some .string) :
    ∀ w, (execOp a.eval o).run P w = .ok (.value (.string (str (l.drop n)))) w := fun w => by
  have h := run_slice_string_l w t (str l) ht .i64 n (by omega) (by rw [str_size]; omega)
  have e : (str l).extract (n : Int).toNat (str l).size = str (l.drop n) := by
    rw [str_size]; unfold str; rw [ByteArray.extract_mk, List.take_of_length_le (by simp)]; simp
  rw [e] at h
  simp only [execOp, ho, hx, hh, Option.map, Sem.run_bind]
  rw [run_sliceAt_string w t _ _ _ _ ht, h]
  rfl
/-- Two texts one behind the other, as an operation. -/
theorem add_op {P : Program} {o : Oper} {a : Act} {t rt : TypeId} {x y : Operand} {l m : List UInt8} (ho : o.op = .binOp .add t x y rt) (hx : a.eval x = .string (str l)) (hy : a.eval y = .string (str m)) (hn : l.length + m.length ≤ 4611686018427387904) :
    ∀ w, (execOp a.eval o).run P w = .ok (.value (.string (str (l ++ m)))) w := fun w => by
  simp only [execOp, ho, hx, hy, Sem.run_bind, eqGuard_add, Sem.run_pure, Result.andThen_ok, binOp_string_add, add_str l m hn]
theorem bd_i64 {a : Int} (h : (Lit.int .i64 a).wf = true) : -9223372036854775808 ≤ a ∧ a < 9223372036854775808 := by
  simp [Lit.wf, IntKind.min, IntKind.max, IntKind.signed, IntKind.bits] at h; omega
theorem u8_of {a : Int} (h : (Lit.int .u8 a).wf = true) : ∃ c : UInt8, a = (c.toNat : Int) := by
  have := wf_u8_bd h
  refine ⟨UInt8.ofNat a.toNat, ?_⟩
  rw [UInt8.toNat_ofNat', Nat.mod_eq_of_lt (by omega)]; omega
theorem bytesLess_irrefl (l : List UInt8) : Op.bytesLess l l = false := by
  induction l with
  | nil => rfl
  | cons a l ih => simp [Op.bytesLess, ih]
theorem cell_alloc_drew {w : World} {a : Addr} {v : Value} (h : w.cell? a = some v) (ob : Obj) : (w.alloc ob).drew.cell? a = some v :=
  (World.cell?_alloc_lt w ob a (World.block_lt_of_cell? w _ h)).trans h
/-- A number loaded from a cell that is known in every world at hand. -/
theorem cell_yields {P : Program} {ops : Array Oper} {S : World → Prop} {o : Oper} {a : Act} (hw : Region.wanted o (yielded ops a.tmps) = true) (ty : TypeId) (x : Operand) (ho : o.op = .load ty x)
    (b off : Nat) (hx : a.eval x = .pointer (some ⟨b, off, none⟩)) (k : IntKind) (z : Int) (hu : P.underlying ty = some (.int k)) (hS : ∀ w, S w → w.cell? ⟨b, off, none⟩ = some (.int k z)) : YieldsIf P ops S o (.int k z) a :=
  .inl ⟨hw, fun w h => by
    have hc := hS w h
    unfold execOp
    simp [ho, hx, Instr.loadAt, Instr.sureAddr, loadVar, isAgg, run_underlying hu, hc]⟩
/-- The results of a function that returns a row and a number. -/
theorem results_cell2 {P : Program} {fn : Func} {p u : Tmp} {ty : TypeId} (h : fn.results = #[.cell p ty, .tmp u]) (tmps : Array Value) (w : World) (g : Nat) (t : TypeId) (cs : Array Value) (fr : Nat × Nat) (d : TypeDesc) (x : Value)
    (hp : tmps.getD p undef = .pointer (some ⟨g, 0, none⟩)) (hx : tmps.getD u undef = x) (hg : w.heap[g]? = some (.cells cs t fr))
    (hu : P.underlying ty = some d) (hd : (match d with | .struct _ | .array _ _ => true | _ => false) = true) (hi : (P.info? ty).map (·.size) = some cs.size) :
    (results fn tmps).run P w = .ok (.tuple #[.agg cs, x]) w := by
  rw [results_cell_tmp h, hp, hx]
  simp [asAddr, run_loadVar_row w g t ty cs fr d hg hu hd hi]
end Go.Proofs.YtfechljjkblkhaaDoor
