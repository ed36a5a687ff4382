/-
Texts that all claims of this seat share, part 0: Bits, Words, Block, Sha, Mem, Held, Bytes, Cells, Text, Hexa, Path, Dot, Vec, Cut, Ref04, Ref04Num, VecText.
-/
import Derived.WalkKit
import Derived.ChangeKeysEq
import Derived.Laws.StructEq
import Derived.Deep.Draws
import Derived.Deep.QuietTactic
import Derived.Laws.CopyOwn
import Derived.Deep.RegionHeld3
import Derived.Laws.AppendOwnNone
import Derived.Deep.MidRow
import Derived.Laws.Concat
import Derived.Laws.IdiomStrings
import Derived.Laws.ResultCell
import Derived.Test.YthkojphgjlojgaaDoorProg
import Derived.StillTailTactics
import Derived.Lib.Hide
import Derived.Deep.RegionWith
import Derived.WalkLawsBesides
namespace Go.Proofs.YthkojphgjlojgaaDoor
open Go.RowKit
def u32 (x : BitVec 32) : Int := x.toNat
theorem u32_lo (x : BitVec 32) : 0 ≤ u32 x := by unfold u32; omega
theorem u32_hi (x : BitVec 32) : u32 x < 4294967296 := by unfold u32; have := x.isLt; omega
theorem u32_inj {x y : BitVec 32} (h : u32 x = u32 y) : x = y := by
  unfold u32 at h; exact BitVec.eq_of_toNat_eq (by omega)
@[go_sem] theorem u32_xor (x y : BitVec 32) : bits .xor .u32 (u32 x) (u32 y) = u32 (x ^^^ y) := by
  unfold u32; rw [u32_xor_nat _ _ x.isLt y.isLt, BitVec.toNat_xor]
@[go_sem] theorem u32_and' (x y : BitVec 32) : bits .and .u32 (u32 x) (u32 y) = u32 (x &&& y) := by
  unfold u32; rw [u32_and_nat _ _ x.isLt y.isLt, BitVec.toNat_and]
@[go_sem] theorem u32_or' (x y : BitVec 32) : bits .or .u32 (u32 x) (u32 y) = u32 (x ||| y) := by
  unfold u32; rw [u32_or_nat _ _ x.isLt y.isLt, BitVec.toNat_or]
@[go_sem] theorem u32_not (x : BitVec 32) : bits .xor .u32 4294967295 (u32 x) = u32 (~~~x) := by
  have h : (4294967295 : Int) = u32 (BitVec.allOnes 32) := by decide
  rw [h, u32_xor, BitVec.allOnes_xor]
@[go_sem] theorem u32_not' (x : BitVec 32) : bits .xor .u32 IntKind.u32.max (u32 x) = u32 (~~~x) := u32_not x
@[go_sem] theorem and31 (n : Int) : bits .and .u64 (IntKind.u64.wrap n) 31 = n % 32 := by
  have h := u64_and (IntKind.u64.wrap n) 31 (by rw [IntKind.wrap_u64]; omega) (by rw [IntKind.wrap_u64]; omega) (by decide) (by decide)
  rw [h, IntKind.wrap_u64, show (31 : Int).toNat = 31 from rfl, nat_mask5]
  omega
@[go_sem] theorem u32_shr (x : BitVec 32) (k : Nat) : u32 x / 2 ^ k = u32 (x >>> k) := by
  unfold u32; rw [BitVec.toNat_ushiftRight, Nat.shiftRight_eq_div_pow]; simp
@[go_sem] theorem u32_shr3 (x : BitVec 32) : u32 x / (8 : Int) = u32 (x >>> 3) := u32_shr x 3
@[go_sem] theorem u32_shr10 (x : BitVec 32) : u32 x / (1024 : Int) = u32 (x >>> 10) := u32_shr x 10
@[go_sem] theorem u32_shl (x : BitVec 32) (k : Nat) : u32 x * 2 ^ k % 4294967296 = u32 (x <<< k) := by
  unfold u32; rw [BitVec.toNat_shiftLeft, Nat.shiftLeft_eq]; simp
@[go_sem] theorem u32_beq (x y : BitVec 32) : (u32 x == u32 y) = (x == y) := by
  rw [Bool.eq_iff_iff, beq_iff_eq, beq_iff_eq]; exact ⟨u32_inj, congrArg _⟩
/-- x turned by n places to the right. -/
def rot (x : BitVec 32) (n : Int) : BitVec 32 := x >>> (n % 32).toNat ||| x <<< (32 - n % 32).toNat
/-- The constants of the rounds. -/
def kTab : List Int := [1116352408, 1899447441, 3049323471, 3921009573, 961987163, 1508970993, 2453635748, 2870763221, 3624381080, 310598401, 607225278, 1426881987, 1925078388, 2162078206, 2614888103, 3248222580, 3835390401, 4022224774, 264347078, 604807628, 770255983, 1249150122, 1555081692, 1996064986, 2554220882, 2821834349, 2952996808, 3210313671, 3336571891, 3584528711, 113926993, 338241895, 666307205, 773529912, 1294757372, 1396182291, 1695183700, 1986661051, 2177026350, 2456956037, 2730485921, 2820302411, 3259730800, 3345764771, 3516065817, 3600352804, 4094571909, 275423344, 430227734, 506948616, 659060556, 883997877, 958139571, 1322822218, 1537002063, 1747873779, 1955562222, 2024104815, 2227730452, 2361852424, 2428436474, 2756734187, 3204031479, 3329325298]
@[go_sem] theorem u32_tdiv2 (x : BitVec 32) : (u32 x).tdiv (2 : Int) % (4294967296 : Int) = u32 (x >>> 1) := by
  have h0 := u32_lo x
  have h1 := u32_hi x
  rw [Int.tdiv_eq_ediv_of_nonneg h0, ← u32_shr x 1]
  omega
def ch (x y z : BitVec 32) : BitVec 32 := x &&& y ^^^ ~~~x &&& z
def maj (x y z : BitVec 32) : BitVec 32 := x &&& y ^^^ x &&& z ^^^ y &&& z
def big0 (x : BitVec 32) : BitVec 32 := rot x 2 ^^^ rot x 13 ^^^ rot x 22
def big1 (x : BitVec 32) : BitVec 32 := rot x 6 ^^^ rot x 11 ^^^ rot x 25
end Go.Proofs.YthkojphgjlojgaaDoor
namespace Go.Proofs.YthkojphgjlojgaaDoor
open Go.RowKit
/-- A row of n words, of kind k. -/
def row (k : IntKind) (n : Nat) (f : Nat → BitVec 32) : Array Value := ((List.range n).map fun i => Value.int k (u32 (f i))).toArray
theorem row_size (k : IntKind) (n : Nat) (f : Nat → BitVec 32) : (row k n f).size = n := by simp [row]
theorem row_get (k : IntKind) (n : Nat) (f : Nat → BitVec 32) (i : Nat) (h : i < n) : (row k n f)[i]? = some (.int k (u32 (f i))) := by
  simp [row, h]
theorem row_congr (k : IntKind) (n : Nat) (f g : Nat → BitVec 32) (h : ∀ i, i < n → f i = g i) : row k n f = row k n g := by
  unfold row
  congr 1
  apply List.map_congr_left
  intro i hi
  rw [h i (by simpa using hi)]
theorem row_set (k : IntKind) (n : Nat) (f : Nat → BitVec 32) (i : Nat) (x : BitVec 32) : (row k n f).setIfInBounds i (.int k (u32 x)) = row k n (fun j => if j = i then x else f j) := by
  apply Array.ext_getElem?
  intro j
  rw [Array.getElem?_setIfInBounds, row_size]
  by_cases hj : j < n
  · rw [row_get _ _ _ _ hj]
    by_cases h : i = j
    · subst h; rw [if_pos rfl, if_pos hj, row_get _ _ _ _ hj, if_pos rfl]
    · rw [if_neg h, row_get _ _ _ _ hj, if_neg (Ne.symm h)]
  · have e1 : (row k n f)[j]? = none := by rw [Array.getElem?_eq_none_iff, row_size]; omega
    have e2 : (row k n fun j => if j = i then x else f j)[j]? = none := by rw [Array.getElem?_eq_none_iff, row_size]; omega
    rw [e1, e2]
    split
    · rw [if_neg (by omega)]
    · rfl
theorem row_set_to (k : IntKind) (n : Nat) (f g : Nat → BitVec 32) (i : Nat) (x : BitVec 32) (h : ∀ j, j < n → (if j = i then x else f j) = g j) : (row k n f).setIfInBounds i (.int k (u32 x)) = row k n g := by
  rw [row_set]; exact row_congr _ _ _ _ h
theorem row_one (k : IntKind) (n : Nat) (f : Nat → BitVec 32) : (row k n f).all (·.oneCell') = true := by simp [row, Value.oneCell']
theorem wf_u8_bd {a : Int} (h : (Lit.int .u8 a).wf = true) : 0 ≤ a ∧ a < 256 := by
  simp [Lit.wf, IntKind.min, IntKind.max, IntKind.signed, IntKind.bits] at h; omega
/-- Whether two rows are the same. -/
def sameRow (n : Nat) (f g : Nat → BitVec 32) : Bool := (List.range n).all fun i => f i == g i
theorem sameRow_iff (n : Nat) (f g : Nat → BitVec 32) : sameRow n f g = true ↔ ∀ i, i < n → f i = g i := by
  simp [sameRow]
theorem sameRow_self (n : Nat) (f : Nat → BitVec 32) : sameRow n f f = true := by simp [sameRow]
theorem info_of {P : Program} {t : TypeId} {u : TypeDesc} (h : P.underlying t = some u) : ∃ inf, P.info? t = some inf := by
  cases e : P.info? t with
  | some inf => exact ⟨inf, rfl⟩
  | none => simp [Program.underlying, e] at h
theorem part_row {P : Program} (w : World) {t : TypeId} {k : IntKind} (n : Nat) (f : Nat → BitVec 32) (i : Nat) (hi : i < n) (ht : P.underlying t = some (.int k)) :
    (part t (row k n f) i).run P w = .ok (.int k (u32 (f i))) w :=
  run_part_plain w (by simp [Program.plainKey, ht]) (row_get k n f i hi)
theorem items_row {P : Program} (w : World) (d : Nat) {e : TypeId} {k : IntKind} (n : Nat) (f g : Nat → BitVec 32) (he : P.underlying e = some (.int k)) (hc : P.cellsOf e = 1) : ∀ is : List Nat, (∀ i ∈ is, i < n) →
    (Op.eqItems (d + 1) e (P.cellsOf e) (row k n f) (row k n g) is).run P w = .ok (is.all fun i => f i == g i) w
  | [], _ => by simp [Op.eqItems]
  | i :: is, h => by
    have hi := h i (by simp)
    have ih := items_row w d n f g he hc is fun j hj => h j (by simp [hj])
    rw [hc] at ih
    simp only [Op.eqItems, Sem.run_bind, hc, Nat.mul_one, part_row w n f i hi he, part_row w n g i hi he, Result.andThen_ok, run_equalIn_int w d e k k _ _ he, u32_beq]
    cases hb : f i == g i
    · simp [hb]
    · simp [hb, ih]
/-- Two rows compared by ==. -/
theorem eql_row {P : Program} (w : World) {t e : TypeId} {k : IntKind} {n : Nat} (f g : Nat → BitVec 32) (ht : P.underlying t = some (.array n e)) (he : P.underlying e = some (.int k)) (hc : P.cellsOf e = 1) :
    (binOp .eql t (.agg (row k n f)) (.agg (row k n g))).run P w = .ok (.bool (sameRow n f g)) w := by
  obtain ⟨inf, hinf⟩ := info_of he
  rw [run_eql_struct, run_equalIn_array w 9999 _ _ ht hinf, items_row w 9998 n f g he hc (List.range n) (by simp)]
  rfl
/-- A row by value read at a place. -/
theorem index_row {P : Program} (w : World) {t e : TypeId} {k : IntKind} {n : Nat} (f : Nat → BitVec 32) (i : Nat) (hi : i < n) (ht : P.underlying t = some (.array n e)) (he : P.underlying e = some (.int k)) (hc : P.cellsOf e = 1) :
    (Instr.index t (.agg (row k n f)) (.int .i64 (i : Int))).run P w = .ok (.int k (u32 (f i))) w := by
  obtain ⟨inf, hinf⟩ := info_of he
  have hg := row_get k n f i hi
  have hn : (0 ≤ (i : Int) ∧ (i : Int) < (n : Int)) := by omega
  simp [Instr.index, run_underlying ht, run_underlying he, run_sizeOf w hinf, asIntOf, hn, hc, hg, hi, isAgg, go_sem]
end Go.Proofs.YthkojphgjlojgaaDoor
namespace Go.Proofs.YthkojphgjlojgaaDoor
open Go.RowKit
@[go_sem] theorem u32_add (x y : BitVec 32) : (u32 x + u32 y) % 4294967296 = u32 (x + y) := by
  unfold u32; rw [BitVec.toNat_add]; omega
@[go_sem] theorem u32_sub (x y : BitVec 32) : (u32 x - u32 y) % 4294967296 = u32 (x - y) := by
  unfold u32; rw [BitVec.toNat_sub]; have := x.isLt; have := y.isLt; omega
@[go_sem] theorem u32_wrap (x : BitVec 32) : IntKind.u32.wrap (u32 x) = u32 x := by
  have h0 := u32_lo x
  have h1 := u32_hi x
  rw [IntKind.wrap_u32]; omega
@[go_sem] theorem u32_shl24 (x : BitVec 32) : u32 x * (16777216 : Int) % (4294967296 : Int) = u32 (x <<< 24) := u32_shl x 24
@[go_sem] theorem u32_shl16 (x : BitVec 32) : u32 x * (65536 : Int) % (4294967296 : Int) = u32 (x <<< 16) := u32_shl x 16
@[go_sem] theorem u32_shl8 (x : BitVec 32) : u32 x * (256 : Int) % (4294967296 : Int) = u32 (x <<< 8) := u32_shl x 8
@[go_sem] theorem u32_mul256 (x : BitVec 32) : (256 : Int) * u32 x % (4294967296 : Int) = u32 (x <<< 8) := by rw [Int.mul_comm]; exact u32_shl8 x
@[go_sem] theorem wrap_shl24 (x : BitVec 32) : IntKind.u32.wrap (u32 x * 16777216) = u32 (x <<< 24) := by rw [IntKind.wrap_u32, u32_shl24]
@[go_sem] theorem wrap_shl16 (x : BitVec 32) : IntKind.u32.wrap (u32 x * 65536) = u32 (x <<< 16) := by rw [IntKind.wrap_u32, u32_shl16]
@[go_sem] theorem wrap_shl8 (x : BitVec 32) : IntKind.u32.wrap (u32 x * 256) = u32 (x <<< 8) := by rw [IntKind.wrap_u32, u32_shl8]
@[go_sem] theorem wrap_mul256 (x : BitVec 32) : IntKind.u32.wrap (256 * u32 x) = u32 (x <<< 8) := by rw [IntKind.wrap_u32, u32_mul256]
@[go_sem] theorem wrap_add (x y : BitVec 32) : IntKind.u32.wrap (u32 x + u32 y) = u32 (x + y) := by rw [IntKind.wrap_u32, u32_add]
@[go_sem] theorem wrap_sub (x y : BitVec 32) : IntKind.u32.wrap (u32 x - u32 y) = u32 (x - y) := by rw [IntKind.wrap_u32, u32_sub]
/-- The word of four bytes, the highest first. -/
def word (a b c d : BitVec 32) : BitVec 32 := a <<< 24 ||| b <<< 16 ||| c <<< 8 ||| d
/-- The word of bytes, as they are put behind one another. -/
def grown (f : Nat → BitVec 32) (t : Nat) : Nat → BitVec 32
  | 0 => 0#32
  | i + 1 => grown f t i <<< 8 + f (4 * t + i)
attribute [irreducible] word
/-- The first k words of a schedule, and no others. -/
def upTo (s : Nat → BitVec 32) (k i : Nat) : BitVec 32 := if i < k then s i else 0#32
theorem upTo_at (s : Nat → BitVec 32) (k i : Nat) (h : i < k) : upTo s k i = s i := if_pos h
theorem upTo_set (kd : IntKind) (n : Nat) (s : Nat → BitVec 32) (k : Nat) : (row kd n (upTo s k)).setIfInBounds k (.int kd (u32 (s k))) = row kd n (upTo s (k + 1)) :=
  row_set_to _ _ _ _ _ _ fun j _ => by
    unfold upTo
    by_cases h : j = k
    · subst h; rw [if_pos rfl, if_pos (by omega)]
    · rw [if_neg h]
      by_cases h2 : j < k
      · rw [if_pos h2, if_pos (by omega)]
      · rw [if_neg h2, if_neg (by omega)]
theorem upTo_zero (kd : IntKind) (n : Nat) (s : Nat → BitVec 32) : row kd n (upTo s 0) = row kd n (fun _ => 0#32) := row_congr _ _ _ _ fun _ _ => if_neg (by omega)
theorem upTo_full (kd : IntKind) (n : Nat) (s : Nat → BitVec 32) : row kd n (upTo s n) = row kd n s := row_congr _ _ _ _ fun _ hi => upTo_at _ _ _ hi
attribute [irreducible] grown
/-- A round. -/
def one (h : Nat → BitVec 32) (k w : BitVec 32) : BitVec 32 := h 7 + big1 (h 4) + ch (h 4) (h 5) (h 6) + k + w
def two (h : Nat → BitVec 32) : BitVec 32 := big0 (h 0) + maj (h 0) (h 1) (h 2)
def eight (a b c d e f g h : BitVec 32) : Nat → BitVec 32
  | 0 => a | 1 => b | 2 => c | 3 => d | 4 => e | 5 => f | 6 => g | _ => h
def roundF (h : Nat → BitVec 32) (k w : BitVec 32) : Nat → BitVec 32 :=
  eight (one h k w + two h) (h 0) (h 1) (h 2) (h 3 + one h k w) (h 4) (h 5) (h 6)
/-- The constant of a round, as a word. -/
def kB (i : Nat) : BitVec 32 := BitVec.ofInt 32 (kTab.getD i 0)
/-- The words behind the rounds. -/
def rounds (h : Nat → BitVec 32) (w : Nat → BitVec 32) : Nat → Nat → BitVec 32
  | 0 => h
  | n + 1 => roundF (rounds h w n) (kB n) (w n)
attribute [irreducible] rounds
end Go.Proofs.YthkojphgjlojgaaDoor
namespace Go.Proofs.YthkojphgjlojgaaDoor
open Go.RowKit
/-- Bytes as cells. -/
def bytesL (bs : List (BitVec 32)) : List Value := bs.map fun x => Value.int .u8 (u32 x)
theorem bytesL_length (bs : List (BitVec 32)) : (bytesL bs).length = bs.length := by simp [bytesL]
theorem bytesL_append (as1 bs : List (BitVec 32)) : bytesL (as1 ++ bs) = bytesL as1 ++ bytesL bs := by simp [bytesL]
theorem bytesL_one (bs : List (BitVec 32)) : ∀ v ∈ bytesL bs, v.oneCell' = true := by
  intro v hv
  obtain ⟨x, _, rfl⟩ := List.mem_map.1 hv
  rfl
@[go_sem] theorem u32_div256 (x : BitVec 32) : u32 x / (256 : Int) = u32 (x >>> 8) := u32_shr x 8
theorem u32_mod256 (x : BitVec 32) : u32 x % (256 : Int) = u32 (x &&& 255#32) := by
  unfold u32
  rw [BitVec.toNat_and, show (255#32).toNat = 2 ^ 8 - 1 from rfl, Nat.and_two_pow_sub_one_eq_mod]
  omega
@[go_sem] theorem u32_tdiv256 (x : BitVec 32) : (u32 x).tdiv (256 : Int) % (4294967296 : Int) = u32 (x >>> 8) := by
  have h0 := u32_lo x
  have h1 := u32_hi x
  rw [Int.tdiv_eq_ediv_of_nonneg h0, ← u32_div256]
  omega
@[go_sem] theorem u32_tmod256 (x : BitVec 32) : (u32 x).tmod (256 : Int) % (256 : Int) = u32 (x &&& 255#32) := by
  rw [Int.tmod_eq_emod_of_nonneg (u32_lo x), ← u32_mod256]
  omega
end Go.Proofs.YthkojphgjlojgaaDoor
namespace Go.Proofs.YthkojphgjlojgaaDoor
open Go.RowKit
theorem heap_at_alloc (w : World) (o : Obj) (i : Nat) : (w.alloc o).heap[i]? = if i = w.heap.size then some o else w.heap[i]? := by
  show (w.heap.push o)[i]? = _
  rw [Array.getElem?_push]
theorem size_of_alloc (w : World) (o : Obj) : (w.alloc o).heap.size = w.heap.size + 1 := by
  show (w.heap.push o).size = _
  rw [Array.size_push]
theorem alloc2_0 (w : World) (a b : Obj) : ((w.alloc a).alloc b).heap[w.heap.size]? = some a := by
  rw [heap_at_alloc, if_neg (by rw [size_of_alloc]; omega), heap_at_alloc, if_pos rfl]
theorem alloc2_1 (w : World) (a b : Obj) : ((w.alloc a).alloc b).heap[w.heap.size + 1]? = some b := by
  rw [heap_at_alloc, if_pos (by rw [size_of_alloc])]
theorem alloc3_0 (w : World) (a b c : Obj) : (((w.alloc a).alloc b).alloc c).heap[w.heap.size]? = some a := by
  rw [heap_at_alloc, if_neg (by rw [size_of_alloc, size_of_alloc]; omega), alloc2_0]
theorem alloc3_1 (w : World) (a b c : Obj) : (((w.alloc a).alloc b).alloc c).heap[w.heap.size + 1]? = some b := by
  rw [heap_at_alloc, if_neg (by rw [size_of_alloc, size_of_alloc]; omega), alloc2_1]
theorem alloc3_2 (w : World) (a b c : Obj) : (((w.alloc a).alloc b).alloc c).heap[w.heap.size + 2]? = some c := by
  rw [heap_at_alloc, if_pos (by rw [size_of_alloc, size_of_alloc])]
theorem below_draws {B : Nat} {a w : World} (h : Below B a w) (n : Nat) : Below B a (w.drewN n) := ⟨h.os, h.tape, h.output, h.size, h.block⟩
/-- A contract that leaves the memory as it was, as go_quiet wants it. -/
theorem quiet_same {P : Program} {f : FuncId} {args : Array Value} {w : World} {v : Value} {n : Nat} (h : Calls P f args (w.drewN n) fun e w' => e = .returned v ∧ w.drewN n = w') : Calls P f args (w.drewN n) fun e w' => e = .returned v ∧ ∃ m, w' = w.drewN m :=
  Calls.quiet_of_same (h.mono fun _ _ ⟨a, b⟩ => ⟨a, b.symm⟩)
theorem below_next {w w1 w2 : World} (h1 : Below w.heap.size w w1) (h2 : Below w1.heap.size w1 w2) : Below w.heap.size w w2 := h1.trans (h2.mono h1.size)
/-- The last block made. -/
theorem heap_last (w : World) (o : Obj) : (w.alloc o).heap[w.heap.size]? = some o := by rw [heap_at_alloc, if_pos rfl]
/-- A whole row stored in a block that was just made: the memory behind it under a name of its own, with what is known of it. -/
theorem store_new {P : Program} {ops : Array Oper} {rest : List Oper} {o : Oper} {a : Act} {w : World} {Q : Exit → Act → World → Prop} (hgd : o.guard = none) (ty : TypeId) (x y : Operand) (ho : o.op = .store ty x y) (hd : o.dst = none)
    (w0 : World) (old cells : Array Value) (t : TypeId) (hw : w = w0.alloc (.cells old t (0, 0))) (hx : a.eval x = .pointer (some ⟨w0.heap.size, 0, none⟩)) (hy : a.eval y = .agg cells)
    (hi : (P.info? ty).map (·.size) = some cells.size) (hold : old.size = cells.size) (h1 : cells.all (·.oneCell') = true)
    (h : ∀ w', w'.heap[w0.heap.size]? = some (.cells cells t (0, 0)) → Below w0.heap.size w0 w' → w0.heap.size < w'.heap.size → wpList P ops Q rest a w') : wpList P ops Q (o :: rest) a w := by
  subst hw
  have hg := heap_last w0 (.cells old t (0, 0))
  refine wpList_store_row hgd ty x y ho w0.heap.size cells hx hy t old hg hi hold h1 ?_
  rw [hd]
  exact h _ (setRow_heap _ _ _ _ _ _ hg) (below_setRow ((Below.refl _ _).alloc (Nat.le_refl _) _) (Nat.le_refl _) _) (by simp [World.setRow])
/-- What owns some cells is a slice that begins at the head of a row of its own. -/
theorem own_shape {w : World} {base : Nat} {e : TypeId} {size : Nat} {v : Value} {n : Nat} {xs : List Value} (h : w.ownsRow base e size v n xs) (hn : 0 < n) :
    ∃ g cap cur, v = .slice (some ⟨g, 0, none⟩) n cap ∧ base ≤ g ∧ w.heap[g]? = some (.cells cur e (0, 0)) ∧ n ≤ cap ∧ cap ≤ maxLen ∧ cur.size = cap * size ∧ cur.toList.take (n * size) = xs := by
  rcases h.2 with ⟨_, h0⟩ | ⟨g, cap, cur, rest⟩
  · omega
  · exact ⟨g, cap, cur, rest⟩
/-- Memory that has grown, old memory being as it was. -/
theorem below_grown {B : Nat} {w0 w w' : World} {row : Option Nat} (hb : Below B w0 w) (hg : w.grownBy w' row) (hB : B ≤ w.heap.size) (hrow : ∀ k, row = some k → B ≤ k) : Below B w0 w' :=
  ⟨hg.os.trans hb.os, hg.tape.trans hb.tape, hg.output.trans hb.output, Nat.le_trans hb.size hg.size,
    fun k hk => (hg.block k (Nat.lt_of_lt_of_le hk hB) (fun e => absurd (hrow k e.symm) (by omega))).trans (hb.block k hk)⟩
end Go.Proofs.YthkojphgjlojgaaDoor
namespace Go.Proofs.YthkojphgjlojgaaDoor
open Go.RowKit
theorem cell_same {w w' : World} {g : Nat} (h : w'.heap[g]? = w.heap[g]?) (j : Nat) : w'.cell? ⟨g, j, none⟩ = w.cell? ⟨g, j, none⟩ := by
  simp [World.cell?, h]
theorem sure_yes {P : Program} {ops : Array Oper} {S : World → Prop} {o : Oper} {v : Value} {a : Act} (hw : Region.wanted o (yielded ops a.tmps) = true) (h : ∀ w, (execOp a.eval o).run P w = .ok (.value v) w) : YieldsIf P ops S o v a := Or.inl ⟨hw, fun w _ => h w⟩
/-- An operation taken first, the slot that it writes said by its number. -/
theorem take_at {P : Program} {ops : Array Oper} {Q : Exit → Act → World → Prop} {md : Region.Mode} {S : World → Prop} {i : Nat} {oi : Oper} {v : Value} {fuel : Nat} {listed : Array Bool} {ts : Array Value} {ds : List Deferred} {w : World} (d : Nat) (hi : ops[i]? = some oi) (hd : oi.dst = some d)
    (hs : Region.noSelect ops = true) (hf : Region.free md ops listed i = true) (hr : (Region.ready md ops listed).contains i = true)
    (hQ : ∀ c a w, Q (.panic c) (a.put oi.dst v) w → Q (.panic c) a w) (hy : YieldsIf P ops S oi v { tmps := ts, defers := ds }) (hS : S w)
    (h : wpAnyH P md ops Q S fuel (listed.setIfInBounds i true) { tmps := ts.setIfInBounds d v, defers := ds } w) : wpAnyH P md ops Q S (fuel + 1) listed { tmps := ts, defers := ds } w :=
  wpAnyH_take hi hs hf hr hQ hy hS (by rw [hd]; exact h)
/-- The operation == over two values whose comparison is known. -/
theorem eql_op {P : Program} {o : Oper} {a : Act} {t rt : TypeId} {x y : Operand} {u v : Value} {b : Bool} (ho : o.op = .binOp .eql t x y rt) (hx : a.eval x = u) (hy : a.eval y = v)
    (hg : ∀ w, (eqGuard .eql t x y u v).run P w = .ok () w) (hq : ∀ w, (binOp .eql t u v).run P w = .ok (.bool b) w) : ∀ w, (execOp a.eval o).run P w = .ok (.value (.bool b)) w := fun w => by
  simp only [execOp, ho, hx, hy, Sem.run_bind, hg, hq, Result.andThen_ok, Sem.run_pure]
/-- A row as a value, under a name that no rule looks into. -/
def rowV (k : IntKind) (n : Nat) (f : Nat → BitVec 32) : Value := .agg (row k n f)
theorem eql_rowV {P : Program} {t e : TypeId} {k : IntKind} {n : Nat} (ht : P.underlying t = some (.array n e)) (he : P.underlying e = some (.int k)) (hc : P.cellsOf e = 1) (f g : Nat → BitVec 32) {b : Bool} (hb : sameRow n f g = b) :
    ∀ w, (binOp .eql t (rowV k n f) (rowV k n g)).run P w = .ok (.bool b) w := fun w => by
  rw [← hb]; exact eql_row w f g ht he hc
theorem guard_rowV {P : Program} {t : TypeId} (hm : P.eqGuardType P.depth t = false) (x y : Operand) (k : IntKind) (n : Nat) (f g : Nat → BitVec 32) :
    ∀ w, (eqGuard .eql t x y (rowV k n f) (rowV k n g)).run P w = .ok () w := fun w => run_eqGuard_agg w .eql t x y _ _ hm
end Go.Proofs.YthkojphgjlojgaaDoor
namespace Go.Proofs.YthkojphgjlojgaaDoor
open Go.RowKit
/-- A slice value whose elements are these bytes. -/
def HasBytes (w : World) (v : Value) (bs : List (BitVec 32)) : Prop :=
  ∃ ao cap, v = .slice ao bs.length cap ∧ (ao = none → bs = [] ∧ cap = 0) ∧ ∀ ad, ao = some ad → bs.length ≤ cap ∧ ∀ j u, (bytesL bs)[j]? = some u → w.cell? (ad.add j) = some u
/-- What owns bytes has them. -/
theorem has_of_own {w : World} {base : Nat} {e : TypeId} {v : Value} {bs : List (BitVec 32)} (h : w.ownsRow base e 1 v bs.length (bytesL bs)) : HasBytes w v bs := by
  rcases h.2 with ⟨rfl, h0⟩ | ⟨g, cap, cur, rfl, rest⟩
  · obtain rfl : bs = [] := List.eq_nil_of_length_eq_zero h0
    exact ⟨none, 0, rfl, fun _ => ⟨rfl, rfl⟩, fun _ h => by cases h⟩
  · exact ⟨some ⟨g, 0, none⟩, cap, rfl, (fun h => by cases h), fun ad had => ⟨rest.2.2.1, fun j u hu => by
      cases had; exact h.cells rfl j u hu⟩⟩
/-- What is a call's own is a slice of that length. -/
theorem own_slice {w : World} {base : Nat} {e : TypeId} {size : Nat} {v : Value} {n : Nat} {xs : List Value} (h : w.ownsRow base e size v n xs) : ∃ ao cap, v = .slice ao n cap := by
  rcases h.2 with ⟨rfl, rfl⟩ | ⟨b, cap, cur, rfl, -⟩
  · exact ⟨_, _, rfl⟩
  · exact ⟨_, _, rfl⟩
/-- What a call has made stays its own while only new memory is made. -/
theorem own_below {w w' : World} {base : Nat} {e : TypeId} {size : Nat} {v : Value} {n : Nat} {xs : List Value} (h : w.ownsRow base e size v n xs) (hb : Below w.heap.size w w') : w'.ownsRow base e size v n xs := by
  refine ⟨h.1, ?_⟩
  rcases h.2 with hn | ⟨g, cap, cur, rfl, hbase, hg, rest⟩
  · exact .inl hn
  · exact .inr ⟨g, cap, cur, rfl, hbase, (hb.block g (Array.getElem?_eq_some_iff.1 hg).1).trans hg, rest⟩
/-- A slice of bytes just made. -/
theorem has_new (w : World) (t : TypeId) (fr : Nat × Nat) (bs : List (BitVec 32)) : HasBytes (w.alloc (.cells (bytesL bs).toArray t fr)) (.slice (some ⟨w.heap.size, 0, none⟩) bs.length bs.length) bs := by
  refine ⟨some ⟨w.heap.size, 0, none⟩, bs.length, rfl, (fun h => by cases h), fun ad had => ⟨Nat.le_refl _, fun j u hu => ?_⟩⟩
  cases had
  rw [Addr.add_lit, Nat.zero_add, cell_of_row _ _ j _ _ _ (heap_last w _)]
  simpa using hu
/-- The same, for an operation of a region that draws its order. -/
theorem append_has_wp {P : Program} {w : World} {ops : Array Oper} {o : Oper} {ts : Array Value} {ds : List Deferred} {K : Act → World → Prop} {Q : Exit → Act → World → Prop} {C : Prop} (d : Nat) (hd : o.dst = some d) (hw : Region.wanted o (yielded ops ts) = true) (s x : Operand) (t : TypeId)
    (ho : o.op = .call { callee := .builtin .append, args := #[s, x], argTypes := #[t, t] })
    (base : Nat) (e : TypeId) (i : TypeInfo) (ht : P.underlying t = some (.slice e)) (hi : P.info? e = some i) (hz : i.zero = some (.int .u8 0)) (hsize : i.size = 1) (hby : i.bytes = 1)
    (v : Value) (as1 bs : List (BitVec 32)) (hs : Act.eval { tmps := ts, defers := ds } s = v) (hown : w.ownsRow base e 1 v as1.length (bytesL as1)) (vx : Value) (hx : Act.eval { tmps := ts, defers := ds } x = vx) (hbs : HasBytes w vx bs)
    (hlen : as1.length + bs.length ≤ 140737488355328) (hbase : base ≤ w.heap.size)
    (h : ∀ v' w', w'.ownsRow base e 1 v' (as1 ++ bs).length (bytesL (as1 ++ bs)) → w.grownBy w' v.ownBlock → (v ≠ .slice none 0 0 → v' ≠ .slice none 0 0) → K { tmps := ts.setIfInBounds d v', defers := ds } w') :
    if Region.wanted o (yielded ops ts) = true then Oper.wp P o { tmps := ts, defers := ds } w K Q else C := by
  rw [if_pos hw]
  have hput : ∀ v', ({ tmps := ts, defers := ds } : Act).put o.dst v' = { tmps := ts.setIfInBounds d v', defers := ds } := fun v' => by rw [hd]; rfl
  obtain ⟨ao, cap, rfl, hnil, hcells⟩ := hbs
  rw [List.length_append, bytesL_append] at h
  cases ao with
  | none =>
    obtain ⟨rfl, rfl⟩ := hnil rfl
    have hrun := run_append_owned_none (P := P) (w := w) base t o.type e i 1 ht hi v as1.length (bytesL as1) hown
    have hk := h v w (by simpa [bytesL] using hown) ⟨rfl, rfl, rfl, Nat.le_refl _, fun _ _ _ => rfl⟩ id
    rw [← hput] at hk
    have hx' : Act.eval { tmps := ts, defers := ds } x = .slice none 0 0 := hx
    unfold Oper.wp
    simp [execOp, ho, resolve, invoke, builtin, hs, hx', hrun, Result.andThen]
    exact hk
  | some ad =>
    exact wp_append_own w s x t ho base e i (.int .u8 0) 1 1 ht hi hz hsize hby rfl (by decide) v as1.length (bytesL as1) hs hown ad bs.length cap (bytesL bs) hx (by rw [bytesL_length]; omega) (hcells ad rfl).2 (bytesL_one bs)
      (by unfold maxLen; omega) (by omega) hbase fun v' w' h1 h2 h3 => by
        rw [hput]; exact h v' w' h1 h2 fun hv hv' => hv (h3.1 hv').1
end Go.Proofs.YthkojphgjlojgaaDoor
namespace Go.Proofs.YthkojphgjlojgaaDoor
open Go.RowKit
/-- Only block g has changed. -/
structure Solo (g : Nat) (w w' : World) : Prop where
  os : w'.os = w.os
  tape : w'.tape = w.tape
  output : w'.output = w.output
  size : w'.heap.size = w.heap.size
  block : ∀ k, k ≠ g → w'.heap[k]? = w.heap[k]?
theorem solo_setRow (w : World) (g : Nat) (cs : Array Value) : Solo g w (w.setRow g cs) := ⟨rfl, rfl, rfl, by simp [World.setRow], fun k hk => setRow_other w g k _ hk⟩
theorem splice_eq {α : Type} (cur : List α) (off : Nat) (cells : List α) : cur.take off ++ cells ++ cur.drop (off + cells.length) = splice cur off cells := by simp [splice]
theorem run_store_in {P : Program} (w : World) (ty : TypeId) (g off : Nat) (cur cells : List Value) (t : TypeId) (hg : w.heap[g]? = some (.cells cur.toArray t (0, 0)))
    (hi : (P.info? ty).map (·.size) = some cells.length) (hfit : off + cells.length ≤ cur.length) (h1 : ∀ v ∈ cells, v.oneCell' = true) :
    (Instr.storeAt ty (.pointer (some ⟨g, off, none⟩)) (.agg cells.toArray)).run P w = .ok () (w.setRow g (splice cur off cells).toArray) := by
  have hst := run_storeCells_at (P := P) g off t cells 0 cur.toArray w hg (by simpa using hfit) h1
  simp only [Nat.add_zero, splice_eq] at hst
  cases hq : P.info? ty with
  | none => simp [hq] at hi
  | some i =>
    have hs : cells.length = i.size := by simp [hq] at hi; omega
    simp [Instr.storeAt, Instr.sureAddr, storeVar, sizeOf, typeInfo, hq, Value.cells, hs, hst]
/-- Some cells stored in the middle of a block that is known whole: one operation. -/
theorem wp_store_in {P : Program} {o : Oper} {a : Act} {w : World} {K : Act → World → Prop} {Q : Exit → Act → World → Prop} (ty : TypeId) (x y : Operand) (ho : o.op = .store ty x y) (hd : o.dst = none)
    (g off : Nat) (cur cells : List Value) (t : TypeId) (hg : w.heap[g]? = some (.cells cur.toArray t (0, 0))) (hx : a.eval x = .pointer (some ⟨g, off, none⟩)) (hy : a.eval y = .agg cells.toArray)
    (hi : (P.info? ty).map (·.size) = some cells.length) (hfit : off + cells.length ≤ cur.length) (h1 : ∀ v ∈ cells, v.oneCell' = true)
    (h : ∀ w', w'.heap[g]? = some (.cells (splice cur off cells).toArray t (0, 0)) → Solo g w w' → K a w') : o.wp P a w K Q := by
  have hst := run_store_in (P := P) w ty g off cur cells t hg hi hfit h1
  unfold Oper.wp execOp
  simp only [ho, hx, hy, Sem.run_bind, Sem.run_pure, Result.andThen_ok, hst]
  have h' := h _ (setRow_heap w g cur.toArray (splice cur off cells).toArray t _ hg) (solo_setRow w g _)
  simpa [Oper.upon, hd, Act.put] using h'
/-- Some cells stored in the middle of a block that is known whole. -/
theorem store_in {P : Program} {ops : Array Oper} {rest : List Oper} {o : Oper} {a : Act} {w : World} {Q : Exit → Act → World → Prop} (hgd : o.guard = none) (ty : TypeId) (x y : Operand) (ho : o.op = .store ty x y) (hd : o.dst = none)
    (g off : Nat) (cur cells : List Value) (t : TypeId) (hg : w.heap[g]? = some (.cells cur.toArray t (0, 0))) (hx : a.eval x = .pointer (some ⟨g, off, none⟩)) (hy : a.eval y = .agg cells.toArray)
    (hi : (P.info? ty).map (·.size) = some cells.length) (hfit : off + cells.length ≤ cur.length) (h1 : ∀ v ∈ cells, v.oneCell' = true)
    (h : ∀ w', w'.heap[g]? = some (.cells (splice cur off cells).toArray t (0, 0)) → Solo g w w' → wpList P ops Q rest a w') : wpList P ops Q (o :: rest) a w :=
  wpList_plain hgd fun _ hK => wp_store_in ty x y ho hd g off cur cells t hg hx hy hi hfit h1 fun w' e s => hK _ _ (h w' e s)
/-- A number stored in a cell of a block that is known whole. -/
theorem store_cell {P : Program} {ops : Array Oper} {rest : List Oper} {o : Oper} {a : Act} {w : World} {Q : Exit → Act → World → Prop} (hgd : o.guard = none) (ty : TypeId) (x y : Operand) (ho : o.op = .store ty x y) (hd : o.dst = none)
    (k : IntKind) (g off : Nat) (cur : Array Value) (z : Int) (t : TypeId) (hg : w.heap[g]? = some (.cells cur t (0, 0))) (hx : a.eval x = .pointer (some ⟨g, off, none⟩)) (hy : a.eval y = .int k z) (hfit : off < cur.size)
    (hi : (P.info? ty).map (·.size) = some 1)
    (h : ∀ w', w'.heap[g]? = some (.cells (cur.setIfInBounds off (.int k z)) t (0, 0)) → Solo g w w' → wpList P ops Q rest a w') : wpList P ops Q (o :: rest) a w := by
  refine wpList_plain hgd fun K hK => ?_
  have hcell : w.cell? ⟨g, off, none⟩ = some cur[off] := by simp [World.cell?, hg, hfit]
  have hfro : w.frozen? ⟨g, off, none⟩ = false := by simp [World.frozen?, hg]
  have hadd : (⟨g, off, none⟩ : Addr).add 0 = ⟨g, off, none⟩ := by unfold Addr.add; split <;> simp_all
  have hst : (storeVar ty ⟨g, off, none⟩ (.int k z)).run P w = .ok () (w.setRow g (cur.setIfInBounds off (.int k z))) := by
    cases hq : P.info? ty with
    | none => simp [hq] at hi
    | some i =>
      have hs : i.size = 1 := by simpa [hq] using hi
      simp [storeVar, sizeOf, typeInfo, hq, Value.cells, hs, storeCells, hadd, run_store P w _ _ _ (show (Value.int k z).oneCell' = true from rfl), hcell, hfro, setCell_eq_setRow w g off cur t (0, 0) _ hg]
  unfold Oper.wp execOp
  simp only [ho, hx, hy, Instr.storeAt, Instr.sureAddr, Sem.run_bind, Sem.run_pure, Result.andThen_ok, hst]
  refine hK _ _ ?_
  rw [hd]
  exact h _ (setRow_heap w g cur _ t _ hg) (solo_setRow w g _)
/-- A whole row loaded, where the operation's guard lets it run. -/
theorem load_row_on {P : Program} {ops : Array Oper} {rest : List Oper} {o : Oper} {a : Act} {w : World} {Q : Exit → Act → World → Prop} (hw : Region.wanted o (yielded ops a.tmps) = true) (ty : TypeId) (x : Operand) (ho : o.op = .load ty x)
    (g : Nat) (hx : a.eval x = .pointer (some ⟨g, 0, none⟩)) (t : TypeId) (cs : Array Value) (fr : Nat × Nat) (d : TypeDesc) (hg : w.heap[g]? = some (.cells cs t fr))
    (hu : P.underlying ty = some d) (hd : (match d with | .struct _ | .array _ _ => true | _ => false) = true) (hi : (P.info? ty).map (·.size) = some cs.size)
    (h : wpList P ops Q rest (a.put o.dst (.agg cs)) w) : wpList P ops Q (o :: rest) a w :=
  wpList_step fun K hK => by rw [if_pos hw]; exact wp_load_row ty x ho g hx t cs fr d hg hu hd hi (hK _ _ h)
/-- A value built of parts, where the operation's guard lets it run. -/
theorem build_on {P : Program} {ops : Array Oper} {rest : List Oper} {o : Oper} {a : Act} {w : World} {Q : Exit → Act → World → Prop} (hw : Region.wanted o (yielded ops a.tmps) = true) (t : TypeId) (parts : Array (Nat × Operand)) (ho : o.op = .build t parts) (ps : List (Nat × Value)) (cs : Array Value)
    (hb : P.built t ps = some cs) (hp : (parts.map fun (i, x) => (i, a.eval x)).toList = ps) (h : wpList P ops Q rest (a.put o.dst (.agg cs)) w) : wpList P ops Q (o :: rest) a w := by
  subst hp
  refine wpList_step fun K hK => ?_
  rw [if_pos hw]
  refine wp_build t parts ho (by rw [hb]; rfl) ?_
  rw [hb]; exact hK _ _ h
/-- A block made of a type's zero value: one operation. -/
theorem wp_alloc_as {P : Program} {o : Oper} {a : Act} {w : World} {K : Act → World → Prop} {Q : Exit → Act → World → Prop} (t : TypeId) (ho : o.op = .alloc t) (cs : Array Value)
    (hz : (P.info? t).map (fun i => i.zero) = some (some (.agg cs))) (h : K (a.put o.dst (.pointer (some ⟨w.heap.size, 0, none⟩))) (w.alloc (.cells cs t (0, 0)))) : o.wp P a w K Q := by
  cases hq : P.info? t with
  | none => simp [hq] at hz
  | some i =>
    have hi : i.zero = some (.agg cs) := by simpa [hq] using hz
    unfold Oper.wp execOp
    simp only [ho]
    simp [Instr.alloc, zeroValue, typeInfo, hq, hi, newVar, newRow, Value.cells, Oper.upon]
    exact h
/-- A block made within a region, the slot said by its number. -/
theorem alloc_at {P : Program} {ops : Array Oper} {o : Oper} {ts : Array Value} {ds : List Deferred} {w : World} {K : Act → World → Prop} {Q : Exit → Act → World → Prop} {E : Prop} (d : Nat) (hd : o.dst = some d) (hw : Region.wanted o (yielded ops ts) = true) (t : TypeId) (ho : o.op = .alloc t) (cs : Array Value)
    (hz : (P.info? t).map (fun i => i.zero) = some (some (.agg cs))) (h : K { tmps := ts.setIfInBounds d (.pointer (some ⟨w.heap.size, 0, none⟩)), defers := ds } (w.alloc (.cells cs t (0, 0)))) : if Region.wanted o (yielded ops ts) = true then Oper.wp P o { tmps := ts, defers := ds } w K Q else E := by
  rw [if_pos hw]
  exact wp_alloc_as t ho cs hz (by rw [hd]; exact h)
/-- A whole row stored within a region, into a block that holds a row. -/
theorem store_at {P : Program} {ops : Array Oper} {o : Oper} {a : Act} {w : World} {K : Act → World → Prop} {Q : Exit → Act → World → Prop} {E : Prop} (hd : o.dst = none) (hw : Region.wanted o (yielded ops a.tmps) = true) (ty : TypeId) (x y : Operand) (ho : o.op = .store ty x y)
    (g : Nat) (cells : Array Value) (hx : a.eval x = .pointer (some ⟨g, 0, none⟩)) (hy : a.eval y = .agg cells) (t : TypeId) (old : Array Value) (hg : w.heap[g]? = some (.cells old t (0, 0))) (hi : (P.info? ty).map (·.size) = some cells.size)
    (hold : old.size = cells.size) (h1 : cells.all (·.oneCell') = true) (h : K a (w.setRow g cells)) : if Region.wanted o (yielded ops a.tmps) = true then Oper.wp P o a w K Q else E := by
  rw [if_pos hw]
  exact wp_store_row ty x y ho g cells hx hy t old hg hi hold h1 (by rw [hd]; exact h)
/-- A block made of a type's zero value, whatever its size. -/
theorem alloc_as {P : Program} {ops : Array Oper} {rest : List Oper} {o : Oper} {a : Act} {w : World} {Q : Exit → Act → World → Prop} (hgd : o.guard = none) (t : TypeId) (ho : o.op = .alloc t) (cs : Array Value)
    (hz : (P.info? t).map (fun i => i.zero) = some (some (.agg cs))) (h : wpList P ops Q rest (a.put o.dst (.pointer (some ⟨w.heap.size, 0, none⟩))) (w.alloc (.cells cs t (0, 0)))) : wpList P ops Q (o :: rest) a w := by
  refine wpList_plain hgd fun K hK => ?_
  cases hq : P.info? t with
  | none => simp [hq] at hz
  | some i =>
    have hi : i.zero = some (.agg cs) := by simpa [hq] using hz
    unfold Oper.wp execOp
    simp only [ho]
    simp [Instr.alloc, zeroValue, typeInfo, hq, hi, newVar, newRow, Value.cells, Oper.upon]
    exact hK _ _ h
/-- A value built of parts whose cells are known. -/
theorem build_as {P : Program} {ops : Array Oper} {rest : List Oper} {o : Oper} {a : Act} {w : World} {Q : Exit → Act → World → Prop} (hg : o.guard = none) (t : TypeId) (parts : Array (Nat × Operand)) (ho : o.op = .build t parts) (ps : List (Nat × Value)) (cs : Array Value)
    (hb : P.built t ps = some cs) (hp : (parts.map fun (i, x) => (i, a.eval x)).toList = ps) (h : wpList P ops Q rest (a.put o.dst (.agg cs)) w) : wpList P ops Q (o :: rest) a w := by
  subst hp
  refine wpList_build hg t parts ho (by rw [hb]; rfl) ?_
  rw [hb]; exact h
end Go.Proofs.YthkojphgjlojgaaDoor
namespace Go.Proofs.YthkojphgjlojgaaDoor
open Go.RowKit
/-- A byte as a word. -/
def w8 (b : UInt8) : BitVec 32 := BitVec.ofNat 32 b.toNat
theorem u32_w8 (b : UInt8) : u32 (w8 b) = (b.toNat : Int) := by
  have := UInt8.toNat_lt b
  unfold u32 w8
  rw [BitVec.toNat_ofNat, Nat.mod_eq_of_lt (by omega)]
/-- A list of bytes as a string. -/
def str (l : List UInt8) : ByteArray := ⟨l.toArray⟩
theorem str_size (l : List UInt8) : (str l).size = l.length := by simp [str, ByteArray.size]
theorem str_toList (l : List UInt8) : (str l).toList = l := ByteArray.toList_mk l
theorem str_append (x y : List UInt8) : str x ++ str y = str (x ++ y) := ByteArray.mk_append_mk x y
/-- A slice of bytes in memory has this text. -/
def HasText (w : World) (v : Value) (l : List UInt8) : Prop := HasBytes w v (l.map w8)
theorem bytesL_map (l : List UInt8) : bytesL (l.map w8) = l.map fun b => Value.int .u8 b.toNat := by
  simp [bytesL, u32_w8, Function.comp_def]
theorem conv_text {P : Program} {src dst e : TypeId} (hs : P.underlying src = some (.slice e)) (he : P.underlying e = some (.int .u8)) (hd : P.underlying dst = some .string) {w : World} {v : Value} {l : List UInt8} (h : HasText w v l) :
    (convert src dst v).run P w = .ok (.string (str l)) w := by
  obtain ⟨ao, cap, rfl, hnil, hc⟩ := h
  rw [List.length_map]
  cases ao with
  | none =>
    obtain ⟨hl, rfl⟩ := hnil rfl
    obtain rfl : l = [] := by simpa using hl
    rw [show ([] : List UInt8).length = 0 from rfl, run_convert_bytes_string w src dst e none 0 0 hs he hd]; rfl
  | some ad =>
    refine run_convert_bytes_back (P := P) w src dst e ad cap l hs he hd fun j hj => ?_
    refine (hc ad rfl).2 j _ ?_
    rw [bytesL_map]; simp [hj]
theorem add_str {P : Program} (x y : List UInt8) (h : x.length + y.length ≤ 4611686018427387904) (w : World) : (Op.stringOp .add (str x) (str y)).run P w = .ok (.string (str (x ++ y))) w := by
  rw [run_string_add_sum w _ _ (by rw [str_size, str_size]; omega), str_append]
theorem index_str {P : Program} (w : World) {t : TypeId} (l : List UInt8) (k : IntKind) (i : Nat) (c : UInt8) (hi : l[i]? = some c) (ht : P.underlying t = some .string) :
    (Instr.index t (.string (str l)) (.int k (i : Int))).run P w = .ok (.int .u8 (c.toNat : Int)) w := by
  obtain ⟨h, rfl⟩ := List.getElem?_eq_some_iff.1 hi
  rw [run_index_string w t (str l) k i ht, dif_pos ⟨by omega, by rw [str_size]; omega⟩]
  simp [str, ByteArray.getElem_eq_getElem_data]
/-- Two texts one behind the other, as an operation. -/
theorem add_op {P : Program} {o : Oper} {a : Act} {t rt : TypeId} {x y : Operand} {l m : List UInt8} (ho : o.op = .binOp .add t x y rt) (hx : a.eval x = .string (str l)) (hy : a.eval y = .string (str m)) (hn : l.length + m.length ≤ 4611686018427387904) :
    ∀ w, (execOp a.eval o).run P w = .ok (.value (.string (str (l ++ m)))) w := fun w => by
  simp only [execOp, ho, hx, hy, Sem.run_bind, eqGuard_add, Sem.run_pure, Result.andThen_ok, binOp_string_add, add_str l m hn]
/-- A number loaded from a cell that is known in every world at hand. -/
theorem cell_yields {P : Program} {ops : Array Oper} {S : World → Prop} {o : Oper} {a : Act} (hw : Region.wanted o (yielded ops a.tmps) = true) (ty : TypeId) (x : Operand) (ho : o.op = .load ty x)
    (b off : Nat) (hx : a.eval x = .pointer (some ⟨b, off, none⟩)) (k : IntKind) (z : Int) (hu : P.underlying ty = some (.int k)) (hS : ∀ w, S w → w.cell? ⟨b, off, none⟩ = some (.int k z)) : YieldsIf P ops S o (.int k z) a :=
  .inl ⟨hw, fun w h => by
    have hc := hS w h
    unfold execOp
    simp [ho, hx, Instr.loadAt, Instr.sureAddr, loadVar, isAgg, run_underlying hu, hc]⟩
/-- The results of a function that returns a row and a number. -/
theorem results_cell2 {P : Program} {fn : Func} {p u : Tmp} {ty : TypeId} (h : fn.results = #[.cell p ty, .tmp u]) (tmps : Array Value) (w : World) (g : Nat) (t : TypeId) (cs : Array Value) (fr : Nat × Nat) (d : TypeDesc) (x : Value)
    (hp : tmps.getD p undef = .pointer (some ⟨g, 0, none⟩)) (hx : tmps.getD u undef = x) (hg : w.heap[g]? = some (.cells cs t fr))
    (hu : P.underlying ty = some d) (hd : (match d with | .struct _ | .array _ _ => true | _ => false) = true) (hi : (P.info? ty).map (·.size) = some cs.size) :
    (results fn tmps).run P w = .ok (.tuple #[.agg cs, x]) w := by
  rw [results_cell_tmp h, hp, hx]
  simp [asAddr, run_loadVar_row w g t ty cs fr d hg hu hd hi]
end Go.Proofs.YthkojphgjlojgaaDoor
namespace Go.Proofs.YthkojphgjlojgaaDoor
open Go.RowKit
/-- A figure of a number below 16. -/
def figN (n : Nat) : Nat := if n < 10 then 48 + n else 87 + n
def figure (n : Nat) : UInt8 := UInt8.ofNat (figN n)
theorem figure_toNat (n : Nat) (h : n < 16) : (figure n).toNat = figN n := by
  unfold figure
  rw [UInt8.toNat_ofNat', Nat.mod_eq_of_lt]
  unfold figN; split <;> omega
/-- The number of a figure. -/
def fig (c : UInt8) : Option Nat := if 48 ≤ c.toNat ∧ c.toNat ≤ 57 then some (c.toNat - 48) else if 97 ≤ c.toNat ∧ c.toNat ≤ 102 then some (c.toNat - 87) else none
theorem fig_figure (n : Nat) (h : n < 16) : fig (figure n) = some n := by
  unfold fig
  rw [figure_toNat n h]
  unfold figN
  by_cases h1 : n < 10
  · rw [if_pos h1, if_pos (by omega)]; congr 1; omega
  · rw [if_neg h1, if_neg (by omega), if_pos (by omega)]; congr 1; omega
theorem fig_some {c : UInt8} {n : Nat} (h : fig c = some n) : n < 16 ∧ c.toNat = figN n := by
  unfold fig at h
  split at h
  · cases h; unfold figN; constructor
    · omega
    · rw [if_pos (by omega)]; omega
  · split at h
    · cases h; unfold figN; constructor
      · omega
      · rw [if_neg (by omega)]; omega
    · cases h
/-- The text of the first k bytes of a digest. -/
def textTo (f : Nat → BitVec 32) (k : Nat) : List UInt8 := (List.range k).flatMap fun i => [figure ((f i).toNat / 16), figure ((f i).toNat % 16)]
theorem textTo_succ (f : Nat → BitVec 32) (k : Nat) : textTo f (k + 1) = textTo f k ++ [figure ((f k).toNat / 16), figure ((f k).toNat % 16)] := by
  simp [textTo, List.range_succ]
theorem textTo_length (f : Nat → BitVec 32) (k : Nat) : (textTo f k).length = 2 * k := by
  induction k with
  | zero => rfl
  | succ k ih => rw [textTo_succ, List.length_append, ih]; simp; omega
def textF (f : Nat → BitVec 32) : List UInt8 := textTo f 32
theorem textF_length (f : Nat → BitVec 32) : (textF f).length = 64 := textTo_length f 32
theorem textTo_at (f : Nat → BitVec 32) (k j : Nat) (h : j < k) : (textTo f k)[2 * j]? = some (figure ((f j).toNat / 16)) ∧ (textTo f k)[2 * j + 1]? = some (figure ((f j).toNat % 16)) := by
  induction k with
  | zero => omega
  | succ k ih =>
    have hl := textTo_length f k
    rw [textTo_succ]
    by_cases e : j < k
    · rw [List.getElem?_append_left (by omega), List.getElem?_append_left (by omega)]; exact ih e
    · obtain rfl : j = k := by omega
      rw [List.getElem?_append_right (by omega), List.getElem?_append_right (by omega), hl]
      simp [show 2 * j + 1 - 2 * j = 1 from by omega]
theorem textF_at (f : Nat → BitVec 32) (j : Nat) (h : j < 32) : (textF f)[2 * j]? = some (figure ((f j).toNat / 16)) ∧ (textF f)[2 * j + 1]? = some (figure ((f j).toNat % 16)) := textTo_at f 32 j h
/-- Is it a digest's text? -/
def isText (s : List UInt8) : Bool := s.length == 64 && s.all fun c => (fig c).isSome
/-- The bytes of a digest's text. -/
def parseF (s : List UInt8) (j : Nat) : BitVec 32 := BitVec.ofNat 32 (16 * (fig (s.getD (2 * j) 0)).getD 0 + (fig (s.getD (2 * j + 1) 0)).getD 0)
theorem figD_lt (c : UInt8) : (fig c).getD 0 < 16 := by
  cases h : fig c with
  | none => decide
  | some n => exact (fig_some h).1
theorem parseF_toNat (s : List UInt8) (j : Nat) : (parseF s j).toNat = 16 * (fig (s.getD (2 * j) 0)).getD 0 + (fig (s.getD (2 * j + 1) 0)).getD 0 := by
  have h1 := figD_lt (s.getD (2 * j) 0)
  have h2 := figD_lt (s.getD (2 * j + 1) 0)
  unfold parseF
  rw [BitVec.toNat_ofNat, Nat.mod_eq_of_lt (by omega)]
theorem parseF_lt (s : List UInt8) (j : Nat) : u32 (parseF s j) < 256 := by
  have h1 := figD_lt (s.getD (2 * j) 0)
  have h2 := figD_lt (s.getD (2 * j + 1) 0)
  unfold u32; rw [parseF_toNat]; omega
/-- What Parse answers: a digest and an error's number. -/
def parsed (s : List UInt8) : Nat → BitVec 32 := if isText s then parseF s else fun _ => 0#32
def parseErr (s : List UInt8) : Int := if isText s then 0 else 2
theorem parsed_bad {s : List UInt8} (h : isText s = false) : parsed s = (fun _ => 0#32) ∧ parseErr s = 2 := by simp [parsed, parseErr, h]
theorem parsed_good {s : List UInt8} (h : isText s = true) : parsed s = parseF s ∧ parseErr s = 0 := by simp [parsed, parseErr, h]
theorem isText_textF (f : Nat → BitVec 32) (hf : ∀ i, u32 (f i) < 256) : isText (textF f) = true := by
  simp only [isText, textF_length, beq_self_eq_true, Bool.true_and, List.all_eq_true]
  intro c hc
  simp only [textF, textTo, List.mem_flatMap, List.mem_range] at hc
  obtain ⟨i, _, hc⟩ := hc
  have h := hf i
  unfold u32 at h
  simp only [List.mem_cons, List.not_mem_nil, or_false] at hc
  rcases hc with rfl | rfl
  · rw [fig_figure _ (by omega)]; rfl
  · rw [fig_figure _ (by omega)]; rfl
theorem parse_text (f : Nat → BitVec 32) (hf : ∀ i, u32 (f i) < 256) (j : Nat) (hj : j < 32) : parseF (textF f) j = f j := by
  obtain ⟨h1, h2⟩ := textF_at f j hj
  have h := hf j
  unfold u32 at h
  apply BitVec.eq_of_toNat_eq
  rw [parseF_toNat, List.getD_eq_getElem?_getD, List.getD_eq_getElem?_getD, h1, h2, Option.getD_some, Option.getD_some, fig_figure _ (by omega), fig_figure _ (by omega), Option.getD_some, Option.getD_some]
  omega
/-- The figures of a number to the base 10. -/
def digs (m : Nat) : List UInt8 := if m < 10 then [UInt8.ofNat (48 + m)] else digs (m / 10) ++ [UInt8.ofNat (48 + m % 10)]
termination_by m
decreasing_by omega
theorem digs_lo (m : Nat) (h : m < 10) : digs m = [UInt8.ofNat (48 + m)] := by rw [digs, if_pos h]
theorem digs_hi (m : Nat) (h : 10 ≤ m) : digs m = digs (m / 10) ++ [UInt8.ofNat (48 + m % 10)] := by rw [digs, if_neg (by omega)]
def numL (n : Int) : List UInt8 := if n < 0 then 45 :: digs n.natAbs else digs n.natAbs
theorem digs_length (k : Nat) : ∀ m, m < 10 ^ k → 0 < k → (digs m).length ≤ k := by
  induction k with
  | zero => intro m _ h; omega
  | succ k ih =>
    intro m hm _
    by_cases h : m < 10
    · rw [digs_lo m h]; simp
    · rw [digs_hi m (by omega), List.length_append]
      have h1 : m / 10 < 10 ^ k := by rw [Nat.pow_succ] at hm; omega
      have h2 : 0 < k := by
        rcases Nat.eq_zero_or_pos k with rfl | h
        · simp at h1; omega
        · exact h
      have := ih (m / 10) h1 h2
      simp; omega
theorem digs_pos (m : Nat) : 0 < (digs m).length := by
  by_cases h : m < 10
  · rw [digs_lo m h]; simp
  · rw [digs_hi m (by omega)]; simp
/-- Is it a figure to the base 10? -/
def isDig (c : UInt8) : Bool := decide (48 ≤ c.toNat) && decide (c.toNat ≤ 57)
theorem dig_toNat (m : Nat) (h : m < 10) : (UInt8.ofNat (48 + m)).toNat = 48 + m := by rw [UInt8.toNat_ofNat', Nat.mod_eq_of_lt (by omega)]
theorem digs_dig (m : Nat) : ∀ c ∈ digs m, isDig c = true := by
  induction m using Nat.strongRecOn with
  | _ m ih =>
    intro c hc
    by_cases h : m < 10
    · rw [digs_lo m h, List.mem_singleton] at hc
      subst hc
      simp [isDig]; omega
    · rw [digs_hi m (by omega), List.mem_append, List.mem_singleton] at hc
      rcases hc with hc | rfl
      · exact ih _ (by omega) c hc
      · simp [isDig]; omega
/-- The number of figures to the base 10, one behind the other. -/
def valN (s : List UInt8) : Nat := s.foldl (fun n c => 10 * n + (c.toNat - 48)) 0
theorem valN_nil : valN [] = 0 := rfl
theorem valN_snoc (s : List UInt8) (c : UInt8) : valN (s ++ [c]) = 10 * valN s + (c.toNat - 48) := by simp [valN, List.foldl_append]
theorem valN_digs (m : Nat) : valN (digs m) = m := by
  induction m using Nat.strongRecOn with
  | _ m ih =>
    by_cases h : m < 10
    · rw [digs_lo m h, show ([UInt8.ofNat (48 + m)] : List UInt8) = [] ++ [UInt8.ofNat (48 + m)] from rfl, valN_snoc, dig_toNat m h, valN_nil]; omega
    · rw [digs_hi m (by omega), valN_snoc, ih _ (by omega), dig_toNat (m % 10) (by omega)]; omega
attribute [irreducible] valN
/-- Is it the text of a number from 0 to 2^63-1? -/
def isNum (s : List UInt8) : Bool := (!s.isEmpty && decide (s.length ≤ 19)) && (s.all isDig && (decide (valN s < 9223372036854775808) && digs (valN s) == s))
/-- What Read answers: a number and an error's number. -/
def readN (s : List UInt8) (most : Int) : Int := if isNum s then if most < valN s then 0 else valN s else 0
def readErr (s : List UInt8) (most : Int) : Int := if isNum s then if most < valN s then 8 else 0 else 2
theorem isNum_digs (m : Nat) (h : m < 9223372036854775808) : isNum (digs m) = true := by
  have h1 := digs_pos m
  have h2 := digs_length 19 m (by omega) (by omega)
  simp only [isNum, valN_digs, Bool.and_eq_true, Bool.not_eq_true', decide_eq_true_eq, List.all_eq_true, beq_self_eq_true, and_true]
  exact ⟨⟨by cases hd : digs m with | nil => rw [hd] at h1; simp at h1 | cons a l => rfl, h2⟩, digs_dig m, h⟩
theorem isNum_val {s : List UInt8} (h : isNum s = true) : valN s < 9223372036854775808 ∧ digs (valN s) = s := by
  simp only [isNum, Bool.and_eq_true, decide_eq_true_eq, beq_iff_eq] at h
  exact h.2.2
end Go.Proofs.YthkojphgjlojgaaDoor
namespace Go.Proofs.YthkojphgjlojgaaDoor
open Go.RowKit
/-- May a byte stand in a part? -/
def isLet (c : UInt8) : Bool := (decide (97 ≤ c.toNat) && decide (c.toNat ≤ 122)) || (decide (65 ≤ c.toNat) && decide (c.toNat ≤ 90)) || (decide (48 ≤ c.toNat) && decide (c.toNat ≤ 57)) || c == 45 || c == 46 || c == 95 || c == 43 || c == 126
/-- Is it a part? -/
def isPart (s : List UInt8) : Bool := s.all isLet && (decide (1 ≤ s.length) && (decide (s.length ≤ 100) && (s != [46] && s != [46, 46])))
/-- What stands between the bytes /. -/
def pieces : List UInt8 → List (List UInt8)
  | [] => [[]]
  | c :: t => if c = 47 then [] :: pieces t else match pieces t with
    | p :: ps => (c :: p) :: ps
    | [] => [[c]]
theorem pieces_ne (s : List UInt8) : pieces s ≠ [] := by
  cases s with
  | nil => simp [pieces]
  | cons c t =>
    rw [pieces]
    by_cases h : c = 47
    · rw [if_pos h]; simp
    · rw [if_neg h]; cases pieces t <;> simp
theorem pieces_end (a : List UInt8) (h : ∀ c ∈ a, c ≠ 47) : pieces a = [a] := by
  induction a with
  | nil => rfl
  | cons c t ih => rw [pieces, if_neg (h c (by simp)), ih fun c hc => h c (by simp [hc])]
theorem pieces_slash (a b : List UInt8) (h : ∀ c ∈ a, c ≠ 47) : pieces (a ++ 47 :: b) = a :: pieces b := by
  induction a with
  | nil => rw [List.nil_append, pieces, if_pos rfl]
  | cons c t ih => rw [List.cons_append, pieces, if_neg (h c (by simp)), ih fun c hc => h c (by simp [hc])]
/-- Of two texts with a byte / between, the pieces are those of the one, then those of the other. -/
theorem pieces_append (a b : List UInt8) : pieces (a ++ 47 :: b) = pieces a ++ pieces b := by
  induction a with
  | nil => simp [pieces]
  | cons c t ih =>
    rw [List.cons_append, pieces, pieces]
    by_cases h : c = 47
    · rw [if_pos h, if_pos h, ih]; rfl
    · rw [if_neg h, if_neg h, ih]
      cases hp : pieces t with
      | nil => exact absurd hp (pieces_ne t)
      | cons p ps => rfl
/-- Is it parts, with / between? -/
def isParts (s : List UInt8) : Bool := (pieces s).all isPart
theorem isParts_append (a b : List UInt8) : isParts (a ++ 47 :: b) = (isParts a && isParts b) := by rw [isParts, pieces_append, List.all_append]; rfl
theorem isParts_nil : isParts [] = false := by decide
theorem isPart_len {s : List UInt8} (h : isPart s = true) : 1 ≤ s.length ∧ s.length ≤ 100 := by
  simp only [isPart, Bool.and_eq_true, decide_eq_true_eq] at h
  exact ⟨h.2.1, h.2.2.1⟩
theorem isPart_let {s : List UInt8} (h : isPart s = true) : ∀ c ∈ s, isLet c = true := by
  simp only [isPart, Bool.and_eq_true, List.all_eq_true] at h
  exact h.1
def cutI (s : List UInt8) : Option Nat := (List.range s.length).find? fun i => s.getD i 0 == 47 && decide (s.length - i - 1 ≤ 100)
theorem cut_some {s : List UInt8} {i : Nat} (h : cutI s = some i) : i < s.length ∧ s.getD i 0 = 47 ∧ s.length - i - 1 ≤ 100 ∧ ∀ j, j < i → s.getD j 0 = 47 → 100 < s.length - j - 1 := by
  unfold cutI at h
  have h1 := List.find?_some h
  have h2 := List.mem_of_find?_eq_some h
  simp only [Bool.and_eq_true, beq_iff_eq, decide_eq_true_eq] at h1
  refine ⟨by simpa using h2, h1.1, h1.2, fun j hj hs => ?_⟩
  obtain ⟨-, as1, bs, hab, hn⟩ := List.find?_eq_some_iff_append.1 h
  have hlen : as1.length = i := by
    have e1 := congrArg (·[as1.length]?) hab
    simp only [List.getElem?_append_right (Nat.le_refl _), Nat.sub_self, List.getElem?_cons_zero] at e1
    rw [List.getElem?_range (by
      rcases Nat.lt_or_ge as1.length s.length with h | h
      · exact h
      · have := congrArg List.length hab; simp at this; omega)] at e1
    exact Option.some.inj e1
  have hm : j ∈ as1 := by
    have e1 := congrArg (·[j]?) hab
    simp only [List.getElem?_append_left (show j < as1.length by omega)] at e1
    rw [List.getElem?_range (by have := (show i < s.length by simpa using h2); omega)] at e1
    exact List.mem_of_getElem? e1.symm
  have := hn j hm
  simp only [Bool.not_eq_true', Bool.and_eq_false_iff, beq_eq_false_iff_ne, decide_eq_false_iff_not] at this
  rcases this with h | h
  · exact absurd hs h
  · omega
theorem cut_none {s : List UInt8} (h : cutI s = none) (j : Nat) (hj : j < s.length) (hs : s.getD j 0 = 47) : 100 < s.length - j - 1 := by
  unfold cutI at h
  have := List.find?_eq_none.1 h j (by simpa using hj)
  simp only [Bool.not_eq_true, Bool.and_eq_false_iff, beq_eq_false_iff_ne, decide_eq_false_iff_not] at this
  rcases this with h | h
  · exact absurd hs h
  · omega
theorem cut_of {s : List UInt8} {i : Nat} (hi : i < s.length) (hs : s.getD i 0 = 47) (h1 : s.length - i - 1 ≤ 100) (h2 : ∀ j, j < i → s.getD j 0 = 47 → 100 < s.length - j - 1) : cutI s = some i := by
  cases h : cutI s with
  | none => have := cut_none h i hi hs; omega
  | some k =>
    obtain ⟨k1, k2, k3, k4⟩ := cut_some h
    rcases Nat.lt_trichotomy i k with hlt | rfl | hlt
    · have := k4 i hlt hs; omega
    · rfl
    · have := h2 k hlt k2; omega
theorem cut_no {s : List UInt8} (h2 : ∀ j, j < s.length → s.getD j 0 = 47 → 100 < s.length - j - 1) : cutI s = none := by
  cases h : cutI s with
  | none => rfl
  | some k =>
    obtain ⟨k1, k2, k3, k4⟩ := cut_some h
    have := h2 k k1 k2; omega
/-- A path's two fields. -/
def splitR (s : List UInt8) : Option (List UInt8 × List UInt8) :=
  if isParts s = false ∨ 254 < s.length then none
  else if s.length ≤ 100 then some ([], s)
  else match cutI s with
    | some i => if 155 < i then none else some (s.take i, s.drop (i + 1))
    | none => none
def splitA (s : List UInt8) : List UInt8 := match splitR s with | some x => x.1 | none => []
def splitB (s : List UInt8) : List UInt8 := match splitR s with | some x => x.2 | none => []
def splitErr (s : List UInt8) : Int := match splitR s with | some _ => 0 | none => 9
def mayP (s : List UInt8) : Bool := (splitR s).isSome
theorem splitErr_zero (s : List UInt8) : (splitErr s == 0) = mayP s := by unfold splitErr mayP; cases splitR s <;> rfl
theorem take_slash {s : List UInt8} {i : Nat} (hi : i < s.length) (hs : s.getD i 0 = 47) : s = s.take i ++ 47 :: s.drop (i + 1) := by
  have e : s[i] = 47 := by rw [← hs]; simp [hi]
  rw [← e, ← List.drop_eq_getElem_cons hi, List.take_append_drop]
/-- What is known of a path that was split. -/
theorem split_some {s a b : List UInt8} (h : splitR s = some (a, b)) : isParts s = true ∧ s.length ≤ 254 ∧ a.length ≤ 155 ∧ b.length ≤ 100 ∧ b ≠ [] ∧ (if a = [] then b else a ++ 47 :: b) = s := by
  unfold splitR at h
  by_cases h1 : isParts s = false ∨ 254 < s.length
  · rw [if_pos h1] at h; cases h
  · rw [if_neg h1] at h
    have hp : isParts s = true := by
      cases hp : isParts s with
      | true => rfl
      | false => exact absurd (.inl hp) h1
    by_cases h2 : s.length ≤ 100
    · rw [if_pos h2] at h
      cases h
      refine ⟨hp, by omega, by simp, h2, fun e => ?_, by rw [if_pos rfl]⟩
      subst e; rw [isParts_nil] at hp; cases hp
    · rw [if_neg h2] at h
      cases hc : cutI s with
      | none => rw [hc] at h; cases h
      | some i =>
        rw [hc] at h
        simp only at h
        obtain ⟨k1, k2, k3, k4⟩ := cut_some hc
        by_cases h3 : 155 < i
        · rw [if_pos h3] at h; cases h
        · rw [if_neg h3] at h
          cases h
          have e := take_slash k1 k2
          have hpp := hp
          rw [e, isParts_append, Bool.and_eq_true] at hpp
          have ha : s.take i ≠ [] := fun e1 => by rw [e1, isParts_nil] at hpp; cases hpp.1
          refine ⟨hp, by omega, by rw [List.length_take]; omega, by rw [List.length_drop]; omega, fun e1 => ?_, by rw [if_neg ha]; exact e.symm⟩
          rw [e1, isParts_nil] at hpp; cases hpp.2
/-- Is it a user's path? -/
def tail31 : List UInt8 := [126, 51, 49, 45, 49, 48, 57, 57, 53, 49, 49, 54, 50, 55, 55, 55, 54]
def ownP (s : List UInt8) : Bool := !s.contains 126 && (mayP s && (decide (s.length ≤ 200) && mayP (s ++ tail31)))
/-- A copy's path. -/
def copyL (s : List UInt8) (r q : Int) : List UInt8 := s ++ 126 :: (numL r ++ 45 :: numL q)
theorem may_iff (s : List UInt8) : mayP s = true ↔ isParts s = true ∧ s.length ≤ 254 ∧ (100 < s.length → ∃ i, i < s.length ∧ s.getD i 0 = 47 ∧ s.length - i - 1 ≤ 100 ∧ i ≤ 155) := by
  unfold mayP
  constructor
  · intro h
    obtain ⟨⟨a, b⟩, hx⟩ := Option.isSome_iff_exists.1 h
    obtain ⟨h1, h2, -⟩ := split_some hx
    refine ⟨h1, h2, fun h3 => ?_⟩
    unfold splitR at hx
    rw [if_neg (by rw [h1]; simp; omega), if_neg (by omega)] at hx
    cases hc : cutI s with
    | none => rw [hc] at hx; cases hx
    | some i =>
      rw [hc] at hx
      obtain ⟨k1, k2, k3, k4⟩ := cut_some hc
      refine ⟨i, k1, k2, k3, ?_⟩
      by_cases h4 : 155 < i
      · simp only [if_pos h4] at hx; cases hx
      · omega
  · rintro ⟨h1, h2, h3⟩
    unfold splitR
    rw [if_neg (by rw [h1]; simp; omega)]
    by_cases h4 : s.length ≤ 100
    · rw [if_pos h4]; rfl
    · rw [if_neg h4]
      obtain ⟨i, i1, i2, i3, i4⟩ := h3 (by omega)
      cases hc : cutI s with
      | none => have := cut_none hc i i1 i2; omega
      | some k =>
        obtain ⟨k1, k2, k3, k4⟩ := cut_some hc
        have : k ≤ i := by
          rcases Nat.lt_or_ge i k with h | h
          · have := k4 i h i2; omega
          · exact h
        simp only
        rw [if_neg (by omega)]; rfl
theorem own_iff (s : List UInt8) : ownP s = true ↔ 126 ∉ s ∧ mayP s = true ∧ s.length ≤ 200 ∧ mayP (s ++ tail31) = true := by
  simp only [ownP, Bool.and_eq_true, Bool.not_eq_true', decide_eq_true_eq]
  rw [List.contains_eq_mem, decide_eq_false_iff_not]
theorem numL_len (n : Int) (k : Nat) (h0 : 0 ≤ n) (h1 : n.toNat < 10 ^ k) (hk : 0 < k) : (numL n).length ≤ k := by
  unfold numL
  rw [if_neg (by omega)]
  exact digs_length k _ (by rw [show n.natAbs = n.toNat from by omega]; exact h1) hk
end Go.Proofs.YthkojphgjlojgaaDoor
namespace Go.Proofs.YthkojphgjlojgaaDoor
open Go.RowKit
def mayD (r q : Int) : Bool := decide (0 ≤ r ∧ r ≤ 31 ∧ 1 ≤ q ∧ q ≤ 1099511627776)
def textD (r q : Int) : List UInt8 := numL r ++ 58 :: numL q
theorem colon_num (n : Int) : (58 : UInt8) ∉ numL n := fun h => by
  have hd : ∀ m, (58 : UInt8) ∉ digs m := fun m hm => by have := digs_dig m _ hm; revert this; decide
  unfold numL at h
  split at h
  · rcases List.mem_cons.1 h with h | h
    · revert h; decide
    · exact hd _ h
  · exact hd _ h
/-- What stands ahead of the first colon, and behind it. -/
def aheadD (s : List UInt8) : List UInt8 := s.takeWhile (· != 58)
def behindD (s : List UInt8) : List UInt8 := s.drop ((aheadD s).length + 1)
theorem split58 {s : List UInt8} (h : (58 : UInt8) ∈ s) : s = aheadD s ++ 58 :: behindD s := by
  unfold behindD aheadD
  induction s with
  | nil => cases h
  | cons c t ih =>
    by_cases hc : c = 58
    · subst hc; simp
    · have h' : (58 : UInt8) ∈ t := by
        rcases List.mem_cons.1 h with h | h
        · exact absurd h.symm hc
        · exact h
      have := ih h'
      rw [List.takeWhile_cons_of_pos (by simpa using hc)]
      simp only [List.cons_append, List.length_cons, List.drop_succ_cons, List.cons.injEq, true_and]
      exact this
theorem ahead_of (a b : List UInt8) (h : (58 : UInt8) ∉ a) : aheadD (a ++ 58 :: b) = a ∧ behindD (a ++ 58 :: b) = b := by
  have e : aheadD (a ++ 58 :: b) = a := by
    unfold aheadD
    rw [List.takeWhile_append_of_pos (fun c hc => by simp; intro e; subst e; exact h hc)]
    simp
  refine ⟨e, ?_⟩
  unfold behindD
  rw [e, List.drop_append, List.drop_of_length_le (by omega)]
  simp
/-- May a text be a dot's? -/
def isDot (s : List UInt8) : Bool := s.contains 58 && (readErr (aheadD s) 31 == 0 && (readErr (behindD s) 1099511627776 == 0 && mayD (readN (aheadD s) 31) (readN (behindD s) 1099511627776)))
def parErr (s : List UInt8) : Int := if isDot s then 0 else 2
def parR (s : List UInt8) : Int := if isDot s then readN (aheadD s) 31 else 0
def parQ (s : List UInt8) : Int := if isDot s then readN (behindD s) 1099511627776 else 0
theorem parErr_cases (s : List UInt8) : parErr s = 0 ∧ isDot s = true ∨ parErr s = 2 ∧ isDot s = false ∧ parR s = 0 ∧ parQ s = 0 := by
  unfold parErr parR parQ
  cases h : isDot s <;> simp
theorem read_num {n m : Int} (h0 : 0 ≤ n) (h1 : n ≤ m) (h2 : n < 9223372036854775808) : readN (numL n) m = n ∧ readErr (numL n) m = 0 := by
  obtain ⟨k, rfl⟩ : ∃ k : Nat, n = (k : Int) := ⟨n.toNat, by omega⟩
  have e : numL (k : Int) = digs k := by rw [numL, if_neg (by omega)]; rfl
  rw [e, readN, readErr, if_pos (isNum_digs k (by omega)), if_pos (isNum_digs k (by omega)), valN_digs, if_neg (by omega), if_neg (by omega)]
  exact ⟨rfl, rfl⟩
theorem num_read {s : List UInt8} {m : Int} (h : readErr s m = 0) : numL (readN s m) = s ∧ readN s m ≤ m ∧ 0 ≤ readN s m := by
  unfold readErr at h
  by_cases hn : isNum s = true
  · rw [if_pos hn] at h
    by_cases hm : m < valN s
    · rw [if_pos hm] at h; cases h
    · rw [readN, if_pos hn, if_neg hm]
      have e : numL ((valN s : Nat) : Int) = digs (valN s) := by rw [numL, if_neg (by omega)]; rfl
      exact ⟨by rw [e, (isNum_val hn).2], by omega, by omega⟩
  · rw [if_neg hn] at h; cases h
theorem parse_text9 {r q : Int} (h : mayD r q = true) : parErr (textD r q) = 0 ∧ parR (textD r q) = r ∧ parQ (textD r q) = q := by
  have hm := of_decide_eq_true h
  obtain ⟨a1, a2⟩ := ahead_of (numL r) (numL q) (colon_num r)
  obtain ⟨r1, r2⟩ := read_num (n := r) (m := 31) hm.1 hm.2.1 (by omega)
  obtain ⟨q1, q2⟩ := read_num (n := q) (m := 1099511627776) (by omega) hm.2.2.2 (by omega)
  have hd : isDot (textD r q) = true := by
    rw [isDot, textD, a1, a2, r1, r2, q1, q2, h]
    simp
  rw [parErr, parR, parQ, hd]
  refine ⟨rfl, ?_, ?_⟩
  · rw [if_pos rfl, textD, a1, r1]
  · rw [if_pos rfl, textD, a2, q1]
theorem text_parse9 {s : List UInt8} (h : isDot s = true) : mayD (parR s) (parQ s) = true ∧ textD (parR s) (parQ s) = s := by
  have h' := h
  simp only [isDot, Bool.and_eq_true, beq_iff_eq, List.contains_iff_mem] at h'
  obtain ⟨h1, h2, h3, h4⟩ := h'
  rw [parR, parQ, h, if_pos rfl, if_pos rfl]
  refine ⟨h4, ?_⟩
  rw [textD, (num_read h2).1, (num_read h3).1]
  exact (split58 h1).symm
end Go.Proofs.YthkojphgjlojgaaDoor
namespace Go.Proofs.YthkojphgjlojgaaDoor
open Go.RowKit
abbrev D2 := Int × Int
def mayT (d : D2) : Bool := mayD d.1 d.2
theorem mayT_bd {d : D2} (h : mayT d = true) : 0 ≤ d.1 ∧ d.1 ≤ 31 ∧ 1 ≤ d.2 ∧ d.2 ≤ 1099511627776 := of_decide_eq_true h
/-- How many events of a replica are told. -/
def seen (i : Nat) (m : Int) (d : D2) : Int := if mayT d = true ∧ d.1 = (i : Int) ∧ m < d.2 then d.2 else m
def allV (l : List D2) (i : Nat) : Int := l.foldl (seen i) 0
theorem allV_nil (i : Nat) : allV [] i = 0 := rfl
theorem allV_snoc (l : List D2) (d : D2) (i : Nat) : allV (l ++ [d]) i = seen i (allV l i) d := by simp [allV, List.foldl_append]
theorem allV_take {l : List D2} {k : Nat} (hk : k < l.length) (i : Nat) : allV (l.take (k + 1)) i = seen i (allV (l.take k) i) (l[k]) := by
  rw [List.take_add_one, List.getElem?_eq_getElem hk]; exact allV_snoc _ _ _
theorem fold_bd (i : Nat) (l : List D2) : ∀ m, 0 ≤ m → m ≤ 1099511627776 → 0 ≤ l.foldl (seen i) m ∧ l.foldl (seen i) m ≤ 1099511627776 := by
  induction l with
  | nil => intro m h0 h1; exact ⟨h0, h1⟩
  | cons d t ih =>
    intro m h0 h1
    rw [List.foldl_cons]
    by_cases h : mayT d = true ∧ d.1 = (i : Int) ∧ m < d.2
    · have := mayT_bd h.1
      exact ih _ (by rw [seen, if_pos h]; omega) (by rw [seen, if_pos h]; omega)
    · exact ih _ (by rw [seen, if_neg h]; exact h0) (by rw [seen, if_neg h]; exact h1)
theorem allV_bd (l : List D2) (i : Nat) : 0 ≤ allV l i ∧ allV l i ≤ 1099511627776 := fold_bd i l 0 (by omega) (by omega)
/-- The vector of how many. -/
def ofN (n : Nat → Int) : Nat → List D2
  | 0 => []
  | k + 1 => ofN n k ++ (if 0 < n k then [((k : Int), n k)] else [])
def ofV (n : Nat → Int) : List D2 := ofN n 32
theorem ofN_mem {n : Nat → Int} {k : Nat} {d : D2} (h : d ∈ ofN n k) : ∃ i, i < k ∧ d = ((i : Int), n i) ∧ 0 < n i := by
  induction k with
  | zero => cases h
  | succ k ih =>
    rw [ofN] at h
    rcases List.mem_append.1 h with h | h
    · obtain ⟨i, h1, h2⟩ := ih h; exact ⟨i, by omega, h2⟩
    · by_cases hp : 0 < n k
      · rw [if_pos hp] at h; exact ⟨k, by omega, List.mem_singleton.1 h, hp⟩
      · rw [if_neg hp] at h; cases h
theorem ofN_length (n : Nat → Int) (k : Nat) : (ofN n k).length ≤ k := by
  induction k with
  | zero => exact Nat.le_refl _
  | succ k ih => rw [ofN, List.length_append]; split <;> simp <;> omega
theorem ofN_congr {n m : Nat → Int} {k : Nat} (h : ∀ i, i < k → n i = m i) : ofN n k = ofN m k := by
  induction k with
  | zero => rfl
  | succ k ih => rw [ofN, ofN, ih (fun i hi => h i (by omega)), h k (by omega)]
/-- Numbers that may be events' numbers. -/
def Cnt (n : Nat → Int) : Prop := ∀ i, i < 32 → 0 ≤ n i ∧ n i ≤ 1099511627776
theorem allV_cnt (l : List D2) : Cnt (allV l) := fun i _ => allV_bd l i
theorem ofN_may {n : Nat → Int} (h : Cnt n) {k : Nat} (hk : k ≤ 32) : ∀ d ∈ ofN n k, mayT d = true := fun d hd => by
  obtain ⟨i, h1, rfl, h3⟩ := ofN_mem hd
  have := h i (by omega)
  exact decide_eq_true (by simp only; omega)
theorem allV_ofN {n : Nat → Int} (h : Cnt n) (i : Nat) : ∀ k, k ≤ 32 → allV (ofN n k) i = if i < k then n i else 0 := by
  intro k
  induction k with
  | zero => intro _; rw [if_neg (by omega)]; rfl
  | succ k ih =>
    intro hk
    have hi := ih (by omega)
    have hc := h k (by omega)
    rw [ofN]
    by_cases hp : 0 < n k
    · rw [if_pos hp, allV_snoc, hi, seen]
      by_cases e : i = k
      · subst e
        rw [if_neg (Nat.lt_irrefl _), if_pos ⟨decide_eq_true (by simp only; omega), rfl, hp⟩, if_pos (by omega)]
      · rw [if_neg (fun hh => e (by have := hh.2.1; simp only at this; omega))]
        by_cases h1 : i < k
        · rw [if_pos h1, if_pos (by omega)]
        · rw [if_neg h1, if_neg (by omega)]
    · rw [if_neg hp, List.append_nil, hi]
      by_cases e : i = k
      · subst e
        rw [if_neg (Nat.lt_irrefl _), if_pos (by omega)]; omega
      · by_cases h1 : i < k
        · rw [if_pos h1, if_pos (by omega)]
        · rw [if_neg h1, if_neg (by omega)]
theorem allV_ofV {n : Nat → Int} (h : Cnt n) {i : Nat} (hi : i < 32) : allV (ofV n) i = n i := by
  rw [ofV, allV_ofN h i 32 (Nat.le_refl _), if_pos hi]
def vecOf (l : List D2) : List D2 := ofV (allV l)
theorem allV_vecOf (l : List D2) {i : Nat} (hi : i < 32) : allV (vecOf l) i = allV l i := allV_ofV (allV_cnt l) hi
theorem vecOf_vecOf (l : List D2) : vecOf (vecOf l) = vecOf l := ofN_congr fun _ hi => allV_vecOf l hi
theorem vecOf_ofV {n : Nat → Int} (h : Cnt n) : vecOf (ofV n) = ofV n := ofN_congr fun _ hi => allV_ofV h hi
theorem vecOf_may (l : List D2) : ∀ d ∈ vecOf l, mayT d = true := ofN_may (allV_cnt l) (Nat.le_refl _)
/-- What package vec answers. -/
def mayV (l : List D2) : Bool := l == vecOf l
def leqV (a b : List D2) : Bool := (List.range 32).all fun i => decide (allV a i ≤ allV b i)
def getV (l : List D2) (r : Int) : Int := if r < 0 ∨ 31 < r then 0 else allV l r.toNat
def hasV (l : List D2) (r q : Int) : Bool := mayD r q && decide (q ≤ getV l r)
def withN (l : List D2) (r q : Int) (i : Nat) : Int := if mayD r q = true ∧ r = (i : Int) ∧ allV l i < q then q else allV l i
def withV (l : List D2) (r q : Int) : List D2 := ofV (withN l r q)
def joinN (a b : List D2) (i : Nat) : Int := max (allV a i) (allV b i)
def joinV (a b : List D2) : List D2 := ofV (joinN a b)
theorem leqV_iff (a b : List D2) : leqV a b = true ↔ ∀ i, i < 32 → allV a i ≤ allV b i := by
  simp [leqV, List.all_eq_true]
theorem joinN_cnt (a b : List D2) : Cnt (joinN a b) := fun i _ => by
  have h1 := allV_bd a i; have h2 := allV_bd b i; unfold joinN; omega
theorem withN_cnt (l : List D2) (r q : Int) : Cnt (withN l r q) := fun i _ => by
  have h1 := allV_bd l i
  unfold withN
  split
  · rename_i h; have := mayT_bd (d := (r, q)) h.1; simp only at this; omega
  · exact h1
theorem all_join (a b : List D2) {i : Nat} (hi : i < 32) : allV (joinV a b) i = max (allV a i) (allV b i) := allV_ofV (joinN_cnt a b) hi
theorem all_with (l : List D2) (r q : Int) {i : Nat} (hi : i < 32) : allV (withV l r q) i = withN l r q i := allV_ofV (withN_cnt l r q) hi
theorem mayV_ofV {n : Nat → Int} (h : Cnt n) : mayV (ofV n) = true := by rw [mayV, vecOf_ofV h]; simp
theorem mayV_join (a b : List D2) : mayV (joinV a b) = true := mayV_ofV (joinN_cnt a b)
theorem mayV_with (l : List D2) (r q : Int) : mayV (withV l r q) = true := mayV_ofV (withN_cnt l r q)
theorem getV_bd (l : List D2) (r : Int) : 0 ≤ getV l r ∧ getV l r ≤ 1099511627776 := by
  unfold getV; split
  · omega
  · exact allV_bd l _
/-- Lattice. -/
theorem leq_join (a b : List D2) : leqV a (joinV a b) = true ∧ leqV b (joinV a b) = true := by
  rw [leqV_iff, leqV_iff]
  exact ⟨fun i hi => by rw [all_join a b hi]; omega, fun i hi => by rw [all_join a b hi]; omega⟩
/-- Which dots are known. -/
theorem getV_in {l : List D2} {r : Int} (h0 : 0 ≤ r) (h1 : r ≤ 31) : ∃ i : Nat, i < 32 ∧ r = (i : Int) ∧ getV l r = allV l i := by
  refine ⟨r.toNat, by omega, by omega, ?_⟩
  rw [getV, if_neg (by omega)]
theorem hasV_eq (l : List D2) (r q : Int) : hasV l r q = true ↔ ∃ i : Nat, i < 32 ∧ r = (i : Int) ∧ 1 ≤ q ∧ q ≤ allV l i := by
  rw [hasV, Bool.and_eq_true, decide_eq_true_eq]
  constructor
  · rintro ⟨hm, hq⟩
    have := mayT_bd (d := (r, q)) hm
    simp only at this
    obtain ⟨i, h1, h2, h3⟩ := getV_in (l := l) this.1 this.2.1
    exact ⟨i, h1, h2, this.2.2.1, by omega⟩
  · rintro ⟨i, h1, rfl, h2, h3⟩
    have hb := allV_bd l i
    refine ⟨decide_eq_true (by omega), ?_⟩
    rw [getV, if_neg (by omega), Int.toNat_natCast]; exact h3
theorem withN_max (l : List D2) (r q : Int) (i : Nat) : withN l r q i = if mayD r q = true ∧ r = (i : Int) then max (allV l i) q else allV l i := by
  unfold withN
  by_cases h : mayD r q = true ∧ r = (i : Int)
  · rw [if_pos h]
    by_cases h2 : allV l i < q
    · rw [if_pos ⟨h.1, h.2, h2⟩]; omega
    · rw [if_neg (fun hh => h2 hh.2.2)]; omega
  · rw [if_neg h, if_neg (fun hh => h ⟨hh.1, hh.2.1⟩)]
theorem leq_trans {a b c : List D2} (h1 : leqV a b = true) (h2 : leqV b c = true) : leqV a c = true := by
  rw [leqV_iff] at h1 h2 ⊢
  intro i hi; have := h1 i hi; have := h2 i hi; omega
end Go.Proofs.YthkojphgjlojgaaDoor
namespace Go.Proofs.YthkojphgjlojgaaDoor
/-- The whole pieces ahead of the last byte c, and what stands behind it. -/
def cutStep (c : UInt8) (st : List (List UInt8) × List UInt8) (b : UInt8) : List (List UInt8) × List UInt8 := if b = c then (st.1 ++ [st.2], []) else (st.1, st.2 ++ [b])
def cutS (c : UInt8) (s : List UInt8) : List (List UInt8) × List UInt8 := s.foldl (cutStep c) ([], [])
def piecesB (c : UInt8) (s : List UInt8) : List (List UInt8) := (cutS c s).1 ++ [(cutS c s).2]
theorem cutS_snoc (c : UInt8) (s : List UInt8) (b : UInt8) : cutS c (s ++ [b]) = cutStep c (cutS c s) b := by simp [cutS, List.foldl_append]
theorem cut_fold {c : UInt8} : ∀ (q : List UInt8) (st : List (List UInt8) × List UInt8), c ∉ q → q.foldl (cutStep c) st = (st.1, st.2 ++ q) := by
  intro q
  induction q with
  | nil => intro st _; simp
  | cons b t ih =>
    intro st h
    have hb : b ≠ c := fun e => h (by rw [e]; exact List.mem_cons_self)
    rw [List.foldl_cons, ih _ (fun hm => h (List.mem_cons_of_mem _ hm)), cutStep, if_neg hb]
    simp
/-- Texts joined with a byte between. -/
def joinB (c : UInt8) : List (List UInt8) → List UInt8
  | [] => []
  | p :: t => p ++ t.flatMap (fun q => c :: q)
theorem joinB_snoc (c : UInt8) (ps : List (List UInt8)) (q : List UInt8) (h : ps ≠ []) : joinB c (ps ++ [q]) = joinB c ps ++ c :: q := by
  cases ps with
  | nil => exact absurd rfl h
  | cons p t => simp [joinB, List.flatMap_append]
theorem joinB_one (c : UInt8) (q : List UInt8) : joinB c [q] = q := by simp [joinB]
theorem list_snoc {α : Type} (l : List α) (h : l ≠ []) : ∃ a b, l = a ++ [b] := ⟨l.dropLast, l.getLast h, (List.dropLast_concat_getLast h).symm⟩
theorem snoc_ind {α : Type} {P : List α → Prop} (h0 : P []) (h1 : ∀ l a, P l → P (l ++ [a])) : ∀ l, P l := by
  have : ∀ n (l : List α), l.length = n → P l := by
    intro n
    induction n with
    | zero => intro l hl; rw [List.eq_nil_of_length_eq_zero hl]; exact h0
    | succ n ih =>
      intro l hl
      obtain ⟨a, b, rfl⟩ := list_snoc l (fun h => by rw [h] at hl; simp at hl)
      exact h1 a b (ih a (by simpa using hl))
  exact fun l => this l.length l rfl
theorem cut_join {c : UInt8} (ps : List (List UInt8)) (q : List UInt8) (hps : ∀ p ∈ ps, c ∉ p) (hq : c ∉ q) : cutS c (joinB c (ps ++ [q])) = (ps, q) := by
  revert q
  refine snoc_ind (P := fun ps => (∀ p ∈ ps, c ∉ p) → ∀ q : List UInt8, c ∉ q → cutS c (joinB c (ps ++ [q])) = (ps, q)) ?_ ?_ ps hps
  · intro _ q hq
    rw [List.nil_append, joinB_one, cutS, cut_fold q _ hq]; rfl
  · intro ps p ih hall q hq
    have h1 := ih (fun x hx => hall x (List.mem_append.2 (.inl hx))) p (hall p (List.mem_append.2 (.inr (List.mem_singleton.2 rfl))))
    rw [joinB_snoc c (ps ++ [p]) q (by simp), cutS, List.foldl_append]
    rw [cutS] at h1
    rw [h1, List.foldl_cons, cutStep, if_pos rfl, cut_fold q _ hq]; rfl
theorem join_cut (c : UInt8) (s : List UInt8) : joinB c (piecesB c s) = s := by
  refine snoc_ind (P := fun s => joinB c (piecesB c s) = s) rfl ?_ s
  intro s b ih
  rw [piecesB, cutS_snoc, cutStep]
  by_cases h : b = c
  · subst h
    rw [if_pos rfl]
    show joinB b (piecesB b s ++ [[]]) = _
    rw [joinB_snoc b _ _ (by simp [piecesB]), ih]
  · rw [if_neg h]
    show joinB c ((cutS c s).1 ++ [(cutS c s).2 ++ [b]]) = _
    by_cases h0 : (cutS c s).1 = []
    · rw [piecesB, h0, List.nil_append, joinB_one] at ih
      rw [h0, List.nil_append, joinB_one, ih]
    · rw [piecesB, joinB_snoc c _ _ h0] at ih
      rw [joinB_snoc c _ _ h0, ← List.cons_append, ← List.append_assoc, ih]
theorem joinB_length (c : UInt8) (ps : List (List UInt8)) (m : Nat) (h : ∀ p ∈ ps, p.length ≤ m) : (joinB c ps).length ≤ ps.length * (m + 1) := by
  refine snoc_ind (P := fun ps => (∀ p ∈ ps, p.length ≤ m) → (joinB c ps).length ≤ ps.length * (m + 1)) (fun _ => Nat.zero_le _) ?_ ps h
  intro ps q ih hall
  have h1 := ih (fun x hx => hall x (List.mem_append.2 (.inl hx)))
  have h2 := hall q (List.mem_append.2 (.inr (List.mem_singleton.2 rfl)))
  rw [List.length_append, Nat.add_mul]
  by_cases h0 : ps = []
  · subst h0; rw [List.nil_append, joinB_one]; simp; omega
  · rw [joinB_snoc c _ _ h0, List.length_append, List.length_cons]; simp; omega
end Go.Proofs.YthkojphgjlojgaaDoor
namespace Go.Proofs.YthkojphgjlojgaaDoor
open Go.RowKit
theorem infoByte : (Tryd.prog.info? 5).map (fun i => (i.zero, i.size, i.bytes)) = some (some (.int .u8 0), 1, 1) := by kernel_rfl
end Go.Proofs.YthkojphgjlojgaaDoor
namespace Go.Proofs.YthkojphgjlojgaaDoor
open Go.RowKit
theorem numL_length (n : Int) (h : -9223372036854775808 ≤ n) (h2 : n < 9223372036854775808) : (numL n).length ≤ 20 := by
  have := digs_length 19 n.natAbs (by omega) (by omega)
  unfold numL; split <;> simp <;> omega
end Go.Proofs.YthkojphgjlojgaaDoor
namespace Go.Proofs.YthkojphgjlojgaaDoor
def dotT (d : D2) : List UInt8 := textD d.1 d.2
def dotOf (s : List UInt8) : D2 := (parR s, parQ s)
def textL (l : List D2) : List UInt8 := if l = [] then [45] else joinB 44 (l.map dotT)
def textV (l : List D2) : List UInt8 := textL (vecOf l)
def vecPs (s : List UInt8) : List (List UInt8) := if s = [45] then [] else piecesB 44 s
def dotsOf (s : List UInt8) : List D2 := (vecPs s).map dotOf
def isVecT (s : List UInt8) : Bool := (vecPs s).all (fun p => parErr p == 0) && textV (dotsOf s) == s
def parVErr (s : List UInt8) : Int := if isVecT s then 0 else 2
def parV (s : List UInt8) : List D2 := if isVecT s then dotsOf s else []
theorem num_not {c : UInt8} (h0 : isDig c = false) (h1 : c ≠ 45) (n : Int) : c ∉ numL n := fun h => by
  have hd : ∀ m, c ∉ digs m := fun m hm => by have := digs_dig m _ hm; rw [h0] at this; cases this
  unfold numL at h
  split at h
  · rcases List.mem_cons.1 h with h | h
    · exact h1 h
    · exact hd _ h
  · exact hd _ h
theorem dotT_not {c : UInt8} (h0 : isDig c = false) (h1 : c ≠ 45) (h2 : c ≠ 58) (d : D2) : c ∉ dotT d := fun h => by
  rw [dotT, textD] at h
  rcases List.mem_append.1 h with h | h
  · exact num_not h0 h1 _ h
  · rcases List.mem_cons.1 h with h | h
    · exact h2 h
    · exact num_not h0 h1 _ h
theorem comma_not (d : D2) : (44 : UInt8) ∉ dotT d := dotT_not (by decide) (by decide) (by decide) d
theorem colon_in (d : D2) : (58 : UInt8) ∈ dotT d := by rw [dotT, textD]; simp
theorem mem_joinB {c x : UInt8} {ps : List (List UInt8)} {p : List UInt8} (hp : p ∈ ps) (hx : x ∈ p) : x ∈ joinB c ps := by
  cases ps with
  | nil => cases hp
  | cons q t =>
    rw [joinB]
    rcases List.mem_cons.1 hp with rfl | hp
    · exact List.mem_append.2 (.inl hx)
    · exact List.mem_append.2 (.inr (List.mem_flatMap.2 ⟨p, hp, List.mem_cons_of_mem _ hx⟩))
theorem vecPs_text (l : List D2) : vecPs (textL l) = l.map dotT := by
  rw [textL]
  by_cases h : l = []
  · subst h; rfl
  · rw [if_neg h]
    obtain ⟨a, d, rfl⟩ := list_snoc l h
    have hne : joinB 44 ((a ++ [d]).map dotT) ≠ [45] := fun e => by
      have h1 : (58 : UInt8) ∈ joinB 44 ((a ++ [d]).map dotT) := mem_joinB (List.mem_map.2 ⟨d, by simp, rfl⟩) (colon_in d)
      rw [e] at h1; revert h1; decide
    rw [vecPs, if_neg hne, List.map_append, List.map_cons, List.map_nil, piecesB, cut_join _ _ (fun p hp => by obtain ⟨x, -, rfl⟩ := List.mem_map.1 hp; exact comma_not x) (comma_not d)]
theorem dotOf_dotT {d : D2} (h : mayT d = true) : dotOf (dotT d) = d ∧ parErr (dotT d) = 0 := by
  obtain ⟨h0, h1, h2⟩ := parse_text9 (r := d.1) (q := d.2) h
  exact ⟨by rw [dotOf, dotT, h1, h2], h0⟩
theorem map_dotOf {l : List D2} (h : ∀ d ∈ l, mayT d = true) : (l.map dotT).map dotOf = l := by
  rw [List.map_map]
  conv => rhs; rw [← List.map_id l]
  exact List.map_congr_left fun d hd => (dotOf_dotT (h d hd)).1
/-- A vector's text is parsed as it. -/
theorem parse_textV (l : List D2) : parVErr (textV l) = 0 ∧ parV (textV l) = vecOf l := by
  have h1 : vecPs (textV l) = (vecOf l).map dotT := vecPs_text _
  have h2 : dotsOf (textV l) = vecOf l := by rw [dotsOf, h1, map_dotOf (vecOf_may l)]
  have h3 : isVecT (textV l) = true := by
    rw [isVecT, Bool.and_eq_true, List.all_eq_true, beq_iff_eq, h1, h2]
    refine ⟨fun p hp => ?_, by rw [textV, vecOf_vecOf, textV]⟩
    obtain ⟨d, hd, rfl⟩ := List.mem_map.1 hp
    rw [(dotOf_dotT (vecOf_may l d hd)).2]; rfl
  rw [parVErr, parV, h3]; exact ⟨rfl, h2⟩
/-- What is parsed may be, and has the very text. -/
theorem text_parseV {s : List UInt8} (h : isVecT s = true) : mayV (parV s) = true ∧ textV (parV s) = s := by
  have h' := h
  rw [isVecT, Bool.and_eq_true, beq_iff_eq] at h'
  have hp : parV s = dotsOf s := by rw [parV, h]; rfl
  have h1 : vecPs s = (vecOf (dotsOf s)).map dotT := by
    conv => lhs; rw [← h'.2]
    exact vecPs_text _
  have h2 : dotsOf s = vecOf (dotsOf s) := by
    conv => lhs; rw [dotsOf, h1]
    exact map_dotOf (vecOf_may _)
  rw [hp]
  exact ⟨by rw [mayV, ← h2]; simp, h'.2⟩
theorem dotT_length {d : D2} (h : mayT d = true) : (dotT d).length ≤ 41 := by
  have hm := mayT_bd h
  have h1 := numL_length d.1 (by omega) (by omega)
  have h2 := numL_length d.2 (by omega) (by omega)
  rw [dotT, textD, List.length_append, List.length_cons]; omega
theorem textV_length (l : List D2) : (textV l).length ≤ 1344 := by
  rw [textV, textL]
  split
  · simp
  · have h1 := joinB_length 44 ((vecOf l).map dotT) 41 (fun p hp => by obtain ⟨d, hd, rfl⟩ := List.mem_map.1 hp; exact dotT_length (vecOf_may l d hd))
    have h2 := ofN_length (allV l) 32
    rw [List.length_map] at h1
    have h3 : (vecOf l).length ≤ 32 := h2
    omega
end Go.Proofs.YthkojphgjlojgaaDoor
