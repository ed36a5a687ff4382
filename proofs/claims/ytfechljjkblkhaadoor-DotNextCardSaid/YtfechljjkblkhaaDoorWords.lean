/-
Rows of words in memory and as values: n words, each told by a function of its place; how they are read, set, opened and compared. No program is named here.
-/
import Derived.Test.YtfechljjkblkhaaDoorBits
import Derived.WalkKit
import Derived.ChangeKeysEq
import Derived.Laws.StructEq
namespace Go.Proofs.YtfechljjkblkhaaDoor
open Go.RowKit
/-- A row of n words, of kind k. -/
def row (k : IntKind) (n : Nat) (f : Nat → BitVec 32) : Array Value := ((List.range n).map fun i => Value.int k (u32 (f i))).toArray
theorem row_size (k : IntKind) (n : Nat) (f : Nat → BitVec 32) : (row k n f).size = n := by simp [row]
theorem row_get (k : IntKind) (n : Nat) (f : Nat → BitVec 32) (i : Nat) (h : i < n) : (row k n f)[i]? = some (.int k (u32 (f i))) := by
  simp [row, h]
theorem row_congr (k : IntKind) (n : Nat) (f g : Nat → BitVec 32) (h : ∀ i, i < n → f i = g i) : row k n f = row k n g := by
  unfold row
  congr 1
  apply List.map_congr_left
  intro i hi
  rw [h i (by simpa using hi)]
theorem row_set (k : IntKind) (n : Nat) (f : Nat → BitVec 32) (i : Nat) (x : BitVec 32) : (row k n f).setIfInBounds i (.int k (u32 x)) = row k n (fun j => if j = i then x else f j) := by
  apply Array.ext_getElem?
  intro j
  rw [Array.getElem?_setIfInBounds, row_size]
  by_cases hj : j < n
  · rw [row_get _ _ _ _ hj]
    by_cases h : i = j
    · subst h; rw [if_pos rfl, if_pos hj, row_get _ _ _ _ hj, if_pos rfl]
    · rw [if_neg h, row_get _ _ _ _ hj, if_neg (Ne.symm h)]
  · have e1 : (row k n f)[j]? = none := by rw [Array.getElem?_eq_none_iff, row_size]; omega
    have e2 : (row k n fun j => if j = i then x else f j)[j]? = none := by rw [Array.getElem?_eq_none_iff, row_size]; omega
    rw [e1, e2]
    split
    · rw [if_neg (by omega)]
    · rfl
theorem row_set_to (k : IntKind) (n : Nat) (f g : Nat → BitVec 32) (i : Nat) (x : BitVec 32) (h : ∀ j, j < n → (if j = i then x else f j) = g j) : (row k n f).setIfInBounds i (.int k (u32 x)) = row k n g := by
  rw [row_set]; exact row_congr _ _ _ _ h
theorem row_zero (k : IntKind) (n : Nat) : row k n (fun _ => 0#32) = ((List.range n).map fun _ => Value.int k 0).toArray := rfl
theorem row_one (k : IntKind) (n : Nat) (f : Nat → BitVec 32) : (row k n f).all (·.oneCell') = true := by simp [row, Value.oneCell']
/-- Words, as the function of their places. -/
theorem words_fn {n : Nat} {zs : List Int} (hl : zs.length = n) (h : ∀ z ∈ zs, (Lit.int .u32 z).wf = true) : ∃ f : Nat → BitVec 32, (zs.map (Value.int .u32)).toArray = row .u32 n f := by
  obtain ⟨xs, rfl⟩ := words_of h
  refine ⟨fun i => xs.getD i 0#32, ?_⟩
  unfold row
  congr 1
  apply List.ext_getElem?
  intro i
  by_cases hi : i < n
  · have : i < xs.length := by rw [List.length_map] at hl; omega
    simp [hi, this]
  · have : xs.length ≤ i := by simp at hl; omega
    simp [hi, this]
theorem wf_u8_bd {a : Int} (h : (Lit.int .u8 a).wf = true) : 0 ≤ a ∧ a < 256 := by
  simp [Lit.wf, IntKind.min, IntKind.max, IntKind.signed, IntKind.bits] at h; omega
/-- Bytes, as the function of their places: words below 256. -/
theorem bytes_fn {n : Nat} {zs : List Int} (hl : zs.length = n) (h : ∀ z ∈ zs, (Lit.int .u8 z).wf = true) : ∃ f : Nat → BitVec 32, (∀ i, u32 (f i) < 256) ∧ (zs.map (Value.int .u8)).toArray = row .u8 n f := by
  refine ⟨fun i => BitVec.ofInt 32 (zs.getD i 0), fun i => ?_, ?_⟩
  · show u32 (BitVec.ofInt 32 (zs.getD i 0)) < 256
    by_cases hi : i < zs.length
    · have := wf_u8_bd (h zs[i] (List.getElem_mem hi))
      rw [show zs.getD i 0 = zs[i] from by simp [hi], u32_of _ (by omega) (by omega)]; omega
    · rw [show zs.getD i 0 = 0 from by simp [hi]]; decide
  · unfold row
    congr 1
    apply List.ext_getElem?
    intro i
    by_cases hi : i < n
    · have hi' : i < zs.length := by omega
      have := wf_u8_bd (h zs[i] (List.getElem_mem hi'))
      have e : u32 (BitVec.ofInt 32 zs[i]) = zs[i] := u32_of _ (by omega) (by omega)
      simp [hi, hi', e]
    · have : zs.length ≤ i := by omega
      simp [hi, this]
theorem flat_map_cells (k : IntKind) (zs : List Int) : ((zs.map (Value.int k)).map Value.cells).length = zs.length := by simp
/-- Whether two rows are the same. -/
def sameRow (n : Nat) (f g : Nat → BitVec 32) : Bool := (List.range n).all fun i => f i == g i
theorem sameRow_iff (n : Nat) (f g : Nat → BitVec 32) : sameRow n f g = true ↔ ∀ i, i < n → f i = g i := by
  simp [sameRow]
theorem sameRow_self (n : Nat) (f : Nat → BitVec 32) : sameRow n f f = true := by simp [sameRow]
theorem info_of {P : Program} {t : TypeId} {u : TypeDesc} (h : P.underlying t = some u) : ∃ inf, P.info? t = some inf := by
  cases e : P.info? t with
  | some inf => exact ⟨inf, rfl⟩
  | none => simp [Program.underlying, e] at h
theorem part_row {P : Program} (w : World) {t : TypeId} {k : IntKind} (n : Nat) (f : Nat → BitVec 32) (i : Nat) (hi : i < n) (ht : P.underlying t = some (.int k)) :
    (part t (row k n f) i).run P w = .ok (.int k (u32 (f i))) w :=
  run_part_plain w (by simp [Program.plainKey, ht]) (row_get k n f i hi)
theorem items_row {P : Program} (w : World) (d : Nat) {e : TypeId} {k : IntKind} (n : Nat) (f g : Nat → BitVec 32) (he : P.underlying e = some (.int k)) (hc : P.cellsOf e = 1) : ∀ is : List Nat, (∀ i ∈ is, i < n) →
    (Op.eqItems (d + 1) e (P.cellsOf e) (row k n f) (row k n g) is).run P w = .ok (is.all fun i => f i == g i) w
  | [], _ => by simp [Op.eqItems]
  | i :: is, h => by
    have hi := h i (by simp)
    have ih := items_row w d n f g he hc is fun j hj => h j (by simp [hj])
    rw [hc] at ih
    simp only [Op.eqItems, Sem.run_bind, hc, Nat.mul_one, part_row w n f i hi he, part_row w n g i hi he, Result.andThen_ok, run_equalIn_int w d e k k _ _ he, u32_beq]
    cases hb : f i == g i
    · simp [hb]
    · simp [hb, ih]
/-- Two rows compared by ==. -/
theorem eql_row {P : Program} (w : World) {t e : TypeId} {k : IntKind} {n : Nat} (f g : Nat → BitVec 32) (ht : P.underlying t = some (.array n e)) (he : P.underlying e = some (.int k)) (hc : P.cellsOf e = 1) :
    (binOp .eql t (.agg (row k n f)) (.agg (row k n g))).run P w = .ok (.bool (sameRow n f g)) w := by
  obtain ⟨inf, hinf⟩ := info_of he
  rw [run_eql_struct, run_equalIn_array w 9999 _ _ ht hinf, items_row w 9998 n f g he hc (List.range n) (by simp)]
  rfl
/-- A row by value read at a place. -/
theorem index_row {P : Program} (w : World) {t e : TypeId} {k : IntKind} {n : Nat} (f : Nat → BitVec 32) (i : Nat) (hi : i < n) (ht : P.underlying t = some (.array n e)) (he : P.underlying e = some (.int k)) (hc : P.cellsOf e = 1) :
    (Instr.index t (.agg (row k n f)) (.int .i64 (i : Int))).run P w = .ok (.int k (u32 (f i))) w := by
  obtain ⟨inf, hinf⟩ := info_of he
  have hg := row_get k n f i hi
  have hn : (0 ≤ (i : Int) ∧ (i : Int) < (n : Int)) := by omega
  simp [Instr.index, run_underlying ht, run_underlying he, run_sizeOf w hinf, asIntOf, hn, hc, hg, hi, isAgg, go_sem]
theorem row8 (k : IntKind) (f : Nat → BitVec 32) : row k 8 f = #[.int k (u32 (f 0)), .int k (u32 (f 1)), .int k (u32 (f 2)), .int k (u32 (f 3)), .int k (u32 (f 4)), .int k (u32 (f 5)), .int k (u32 (f 6)), .int k (u32 (f 7))] := rfl
/-- A block's eight cells hold a row's words. -/
def Cells8 (k : IntKind) (h : Nat → BitVec 32) (g : Nat) (w : World) : Prop :=
  w.cell? ⟨g, 0, none⟩ = some (.int k (u32 (h 0))) ∧ w.cell? ⟨g, 1, none⟩ = some (.int k (u32 (h 1))) ∧ w.cell? ⟨g, 2, none⟩ = some (.int k (u32 (h 2))) ∧ w.cell? ⟨g, 3, none⟩ = some (.int k (u32 (h 3))) ∧
  w.cell? ⟨g, 4, none⟩ = some (.int k (u32 (h 4))) ∧ w.cell? ⟨g, 5, none⟩ = some (.int k (u32 (h 5))) ∧ w.cell? ⟨g, 6, none⟩ = some (.int k (u32 (h 6))) ∧ w.cell? ⟨g, 7, none⟩ = some (.int k (u32 (h 7)))
theorem cells8_of {k : IntKind} {h : Nat → BitVec 32} {g : Nat} {t : TypeId} {w : World} (e : w.heap[g]? = some (.cells (row k 8 h) t (0, 0))) : Cells8 k h g w :=
  ⟨cell_of_row w g 0 _ _ _ e, cell_of_row w g 1 _ _ _ e, cell_of_row w g 2 _ _ _ e, cell_of_row w g 3 _ _ _ e, cell_of_row w g 4 _ _ _ e, cell_of_row w g 5 _ _ _ e, cell_of_row w g 6 _ _ _ e, cell_of_row w g 7 _ _ _ e⟩
end Go.Proofs.YtfechljjkblkhaaDoor
