/-
Texts that all claims of this seat share, part 0: Bits, Words, Block, Sha, Mem, Held, Bytes, Cells, Text, Hexa, Path, Dot, Vec, Cut, Ref04Num, Texts, Dots.
-/
import Derived.SizedLaws
import Derived.Test.YtppmbdpfledejaaGreatDoorProg
import Derived.WalkKit
import Derived.ProofKit
import Derived.OpenShut
import Derived.ChangeKeysEq
import Derived.Laws.StructEq
import Derived.Deep.Draws
import Derived.Deep.QuietTactic
import Derived.Laws.CopyOwn
import Derived.Deep.RegionHeld3
import Derived.Laws.AppendOwnNone
import Derived.Deep.MidRow
import Derived.Laws.Concat
import Derived.Laws.IdiomStrings
import Derived.Laws.ResultCell
import Derived.StillTailTactics
import Derived.Lib.Hide
import Derived.Deep.RegionWith
import Derived.WalkLawsBesides
import Derived.Laws.AppendOwn
namespace Go.Proofs.YtppmbdpfledejaaGreatDoor
open Go.RowKit
def u32 (x : BitVec 32) : Int := x.toNat
theorem u32_lo (x : BitVec 32) : 0 ≤ u32 x := by unfold u32; omega
theorem u32_hi (x : BitVec 32) : u32 x < 4294967296 := by unfold u32; have := x.isLt; omega
theorem u32_inj {x y : BitVec 32} (h : u32 x = u32 y) : x = y := by
  unfold u32 at h; exact BitVec.eq_of_toNat_eq (by omega)
theorem u32_of (a : Int) (h0 : 0 ≤ a) (h1 : a < 4294967296) : u32 (BitVec.ofInt 32 a) = a := by
  unfold u32; rw [BitVec.toNat_ofInt]; omega
@[go_sem] theorem u32_xor (x y : BitVec 32) : bits .xor .u32 (u32 x) (u32 y) = u32 (x ^^^ y) := by
  unfold u32; rw [u32_xor_nat _ _ x.isLt y.isLt, BitVec.toNat_xor]
@[go_sem] theorem u32_and' (x y : BitVec 32) : bits .and .u32 (u32 x) (u32 y) = u32 (x &&& y) := by
  unfold u32; rw [u32_and_nat _ _ x.isLt y.isLt, BitVec.toNat_and]
@[go_sem] theorem u32_or' (x y : BitVec 32) : bits .or .u32 (u32 x) (u32 y) = u32 (x ||| y) := by
  unfold u32; rw [u32_or_nat _ _ x.isLt y.isLt, BitVec.toNat_or]
@[go_sem] theorem u32_not (x : BitVec 32) : bits .xor .u32 4294967295 (u32 x) = u32 (~~~x) := by
  have h : (4294967295 : Int) = u32 (BitVec.allOnes 32) := by decide
  rw [h, u32_xor, BitVec.allOnes_xor]
@[go_sem] theorem u32_not' (x : BitVec 32) : bits .xor .u32 IntKind.u32.max (u32 x) = u32 (~~~x) := u32_not x
@[go_sem] theorem and31 (n : Int) : bits .and .u64 (IntKind.u64.wrap n) 31 = n % 32 := by
  have h := u64_and (IntKind.u64.wrap n) 31 (by rw [IntKind.wrap_u64]; omega) (by rw [IntKind.wrap_u64]; omega) (by decide) (by decide)
  rw [h, IntKind.wrap_u64, show (31 : Int).toNat = 31 from rfl, nat_mask5]
  omega
@[go_sem] theorem u32_shr (x : BitVec 32) (k : Nat) : u32 x / 2 ^ k = u32 (x >>> k) := by
  unfold u32; rw [BitVec.toNat_ushiftRight, Nat.shiftRight_eq_div_pow]; simp
@[go_sem] theorem u32_shr3 (x : BitVec 32) : u32 x / (8 : Int) = u32 (x >>> 3) := u32_shr x 3
@[go_sem] theorem u32_shr10 (x : BitVec 32) : u32 x / (1024 : Int) = u32 (x >>> 10) := u32_shr x 10
@[go_sem] theorem u32_shl (x : BitVec 32) (k : Nat) : u32 x * 2 ^ k % 4294967296 = u32 (x <<< k) := by
  unfold u32; rw [BitVec.toNat_shiftLeft, Nat.shiftLeft_eq]; simp
@[go_sem] theorem u32_beq (x y : BitVec 32) : (u32 x == u32 y) = (x == y) := by
  rw [Bool.eq_iff_iff, beq_iff_eq, beq_iff_eq]; exact ⟨u32_inj, congrArg _⟩
/-- x turned by n places to the right. -/
def rot (x : BitVec 32) (n : Int) : BitVec 32 := x >>> (n % 32).toNat ||| x <<< (32 - n % 32).toNat
/-- The constants of the rounds. -/
def kTab : List Int := [1116352408, 1899447441, 3049323471, 3921009573, 961987163, 1508970993, 2453635748, 2870763221, 3624381080, 310598401, 607225278, 1426881987, 1925078388, 2162078206, 2614888103, 3248222580, 3835390401, 4022224774, 264347078, 604807628, 770255983, 1249150122, 1555081692, 1996064986, 2554220882, 2821834349, 2952996808, 3210313671, 3336571891, 3584528711, 113926993, 338241895, 666307205, 773529912, 1294757372, 1396182291, 1695183700, 1986661051, 2177026350, 2456956037, 2730485921, 2820302411, 3259730800, 3345764771, 3516065817, 3600352804, 4094571909, 275423344, 430227734, 506948616, 659060556, 883997877, 958139571, 1322822218, 1537002063, 1747873779, 1955562222, 2024104815, 2227730452, 2361852424, 2428436474, 2756734187, 3204031479, 3329325298]
@[go_sem] theorem u32_tdiv2 (x : BitVec 32) : (u32 x).tdiv (2 : Int) % (4294967296 : Int) = u32 (x >>> 1) := by
  have h0 := u32_lo x
  have h1 := u32_hi x
  rw [Int.tdiv_eq_ediv_of_nonneg h0, ← u32_shr x 1]
  omega
def ch (x y z : BitVec 32) : BitVec 32 := x &&& y ^^^ ~~~x &&& z
def maj (x y z : BitVec 32) : BitVec 32 := x &&& y ^^^ x &&& z ^^^ y &&& z
def big0 (x : BitVec 32) : BitVec 32 := rot x 2 ^^^ rot x 13 ^^^ rot x 22
def big1 (x : BitVec 32) : BitVec 32 := rot x 6 ^^^ rot x 11 ^^^ rot x 25
def small0 (x : BitVec 32) : BitVec 32 := rot x 7 ^^^ rot x 18 ^^^ x >>> 3
def small1 (x : BitVec 32) : BitVec 32 := rot x 17 ^^^ rot x 19 ^^^ x >>> 10
end Go.Proofs.YtppmbdpfledejaaGreatDoor
namespace Go.Proofs.YtppmbdpfledejaaGreatDoor
open Go.RowKit
/-- A row of n words, of kind k. -/
def row (k : IntKind) (n : Nat) (f : Nat → BitVec 32) : Array Value := ((List.range n).map fun i => Value.int k (u32 (f i))).toArray
theorem row_size (k : IntKind) (n : Nat) (f : Nat → BitVec 32) : (row k n f).size = n := by simp [row]
theorem row_get (k : IntKind) (n : Nat) (f : Nat → BitVec 32) (i : Nat) (h : i < n) : (row k n f)[i]? = some (.int k (u32 (f i))) := by
  simp [row, h]
theorem row_congr (k : IntKind) (n : Nat) (f g : Nat → BitVec 32) (h : ∀ i, i < n → f i = g i) : row k n f = row k n g := by
  unfold row
  congr 1
  apply List.map_congr_left
  intro i hi
  rw [h i (by simpa using hi)]
theorem row_set (k : IntKind) (n : Nat) (f : Nat → BitVec 32) (i : Nat) (x : BitVec 32) : (row k n f).setIfInBounds i (.int k (u32 x)) = row k n (fun j => if j = i then x else f j) := by
  apply Array.ext_getElem?
  intro j
  rw [Array.getElem?_setIfInBounds, row_size]
  by_cases hj : j < n
  · rw [row_get _ _ _ _ hj]
    by_cases h : i = j
    · subst h; rw [if_pos rfl, if_pos hj, row_get _ _ _ _ hj, if_pos rfl]
    · rw [if_neg h, row_get _ _ _ _ hj, if_neg (Ne.symm h)]
  · have e1 : (row k n f)[j]? = none := by rw [Array.getElem?_eq_none_iff, row_size]; omega
    have e2 : (row k n fun j => if j = i then x else f j)[j]? = none := by rw [Array.getElem?_eq_none_iff, row_size]; omega
    rw [e1, e2]
    split
    · rw [if_neg (by omega)]
    · rfl
theorem row_set_to (k : IntKind) (n : Nat) (f g : Nat → BitVec 32) (i : Nat) (x : BitVec 32) (h : ∀ j, j < n → (if j = i then x else f j) = g j) : (row k n f).setIfInBounds i (.int k (u32 x)) = row k n g := by
  rw [row_set]; exact row_congr _ _ _ _ h
theorem row_one (k : IntKind) (n : Nat) (f : Nat → BitVec 32) : (row k n f).all (·.oneCell') = true := by simp [row, Value.oneCell']
theorem wf_u8_bd {a : Int} (h : (Lit.int .u8 a).wf = true) : 0 ≤ a ∧ a < 256 := by
  simp [Lit.wf, IntKind.min, IntKind.max, IntKind.signed, IntKind.bits] at h; omega
/-- Bytes, as the function of their places: words below 256. -/
theorem bytes_fn {n : Nat} {zs : List Int} (hl : zs.length = n) (h : ∀ z ∈ zs, (Lit.int .u8 z).wf = true) : ∃ f : Nat → BitVec 32, (∀ i, u32 (f i) < 256) ∧ (zs.map (Value.int .u8)).toArray = row .u8 n f := by
  refine ⟨fun i => BitVec.ofInt 32 (zs.getD i 0), fun i => ?_, ?_⟩
  · show u32 (BitVec.ofInt 32 (zs.getD i 0)) < 256
    by_cases hi : i < zs.length
    · have := wf_u8_bd (h zs[i] (List.getElem_mem hi))
      rw [show zs.getD i 0 = zs[i] from by simp [hi], u32_of _ (by omega) (by omega)]; omega
    · rw [show zs.getD i 0 = 0 from by simp [hi]]; decide
  · unfold row
    congr 1
    apply List.ext_getElem?
    intro i
    by_cases hi : i < n
    · have hi' : i < zs.length := by omega
      have := wf_u8_bd (h zs[i] (List.getElem_mem hi'))
      have e : u32 (BitVec.ofInt 32 zs[i]) = zs[i] := u32_of _ (by omega) (by omega)
      simp [hi, hi', e]
    · have : zs.length ≤ i := by omega
      simp [hi, this]
/-- Whether two rows are the same. -/
def sameRow (n : Nat) (f g : Nat → BitVec 32) : Bool := (List.range n).all fun i => f i == g i
theorem sameRow_iff (n : Nat) (f g : Nat → BitVec 32) : sameRow n f g = true ↔ ∀ i, i < n → f i = g i := by
  simp [sameRow]
theorem sameRow_self (n : Nat) (f : Nat → BitVec 32) : sameRow n f f = true := by simp [sameRow]
theorem info_of {P : Program} {t : TypeId} {u : TypeDesc} (h : P.underlying t = some u) : ∃ inf, P.info? t = some inf := by
  cases e : P.info? t with
  | some inf => exact ⟨inf, rfl⟩
  | none => simp [Program.underlying, e] at h
theorem part_row {P : Program} (w : World) {t : TypeId} {k : IntKind} (n : Nat) (f : Nat → BitVec 32) (i : Nat) (hi : i < n) (ht : P.underlying t = some (.int k)) :
    (part t (row k n f) i).run P w = .ok (.int k (u32 (f i))) w :=
  run_part_plain w (by simp [Program.plainKey, ht]) (row_get k n f i hi)
theorem items_row {P : Program} (w : World) (d : Nat) {e : TypeId} {k : IntKind} (n : Nat) (f g : Nat → BitVec 32) (he : P.underlying e = some (.int k)) (hc : P.cellsOf e = 1) : ∀ is : List Nat, (∀ i ∈ is, i < n) →
    (Op.eqItems (d + 1) e (P.cellsOf e) (row k n f) (row k n g) is).run P w = .ok (is.all fun i => f i == g i) w
  | [], _ => by simp [Op.eqItems]
  | i :: is, h => by
    have hi := h i (by simp)
    have ih := items_row w d n f g he hc is fun j hj => h j (by simp [hj])
    rw [hc] at ih
    simp only [Op.eqItems, Sem.run_bind, hc, Nat.mul_one, part_row w n f i hi he, part_row w n g i hi he, Result.andThen_ok, run_equalIn_int w d e k k _ _ he, u32_beq]
    cases hb : f i == g i
    · simp [hb]
    · simp [hb, ih]
/-- Two rows compared by ==. -/
theorem eql_row {P : Program} (w : World) {t e : TypeId} {k : IntKind} {n : Nat} (f g : Nat → BitVec 32) (ht : P.underlying t = some (.array n e)) (he : P.underlying e = some (.int k)) (hc : P.cellsOf e = 1) :
    (binOp .eql t (.agg (row k n f)) (.agg (row k n g))).run P w = .ok (.bool (sameRow n f g)) w := by
  obtain ⟨inf, hinf⟩ := info_of he
  rw [run_eql_struct, run_equalIn_array w 9999 _ _ ht hinf, items_row w 9998 n f g he hc (List.range n) (by simp)]
  rfl
/-- A row by value read at a place. -/
theorem index_row {P : Program} (w : World) {t e : TypeId} {k : IntKind} {n : Nat} (f : Nat → BitVec 32) (i : Nat) (hi : i < n) (ht : P.underlying t = some (.array n e)) (he : P.underlying e = some (.int k)) (hc : P.cellsOf e = 1) :
    (Instr.index t (.agg (row k n f)) (.int .i64 (i : Int))).run P w = .ok (.int k (u32 (f i))) w := by
  obtain ⟨inf, hinf⟩ := info_of he
  have hg := row_get k n f i hi
  have hn : (0 ≤ (i : Int) ∧ (i : Int) < (n : Int)) := by omega
  simp [Instr.index, run_underlying ht, run_underlying he, run_sizeOf w hinf, asIntOf, hn, hc, hg, hi, isAgg, go_sem]
theorem row8 (k : IntKind) (f : Nat → BitVec 32) : row k 8 f = #[.int k (u32 (f 0)), .int k (u32 (f 1)), .int k (u32 (f 2)), .int k (u32 (f 3)), .int k (u32 (f 4)), .int k (u32 (f 5)), .int k (u32 (f 6)), .int k (u32 (f 7))] := rfl
/-- A block's eight cells hold a row's words. -/
def Cells8 (k : IntKind) (h : Nat → BitVec 32) (g : Nat) (w : World) : Prop :=
  w.cell? ⟨g, 0, none⟩ = some (.int k (u32 (h 0))) ∧ w.cell? ⟨g, 1, none⟩ = some (.int k (u32 (h 1))) ∧ w.cell? ⟨g, 2, none⟩ = some (.int k (u32 (h 2))) ∧ w.cell? ⟨g, 3, none⟩ = some (.int k (u32 (h 3))) ∧
  w.cell? ⟨g, 4, none⟩ = some (.int k (u32 (h 4))) ∧ w.cell? ⟨g, 5, none⟩ = some (.int k (u32 (h 5))) ∧ w.cell? ⟨g, 6, none⟩ = some (.int k (u32 (h 6))) ∧ w.cell? ⟨g, 7, none⟩ = some (.int k (u32 (h 7)))
theorem cells8_of {k : IntKind} {h : Nat → BitVec 32} {g : Nat} {t : TypeId} {w : World} (e : w.heap[g]? = some (.cells (row k 8 h) t (0, 0))) : Cells8 k h g w :=
  ⟨cell_of_row w g 0 _ _ _ e, cell_of_row w g 1 _ _ _ e, cell_of_row w g 2 _ _ _ e, cell_of_row w g 3 _ _ _ e, cell_of_row w g 4 _ _ _ e, cell_of_row w g 5 _ _ _ e, cell_of_row w g 6 _ _ _ e, cell_of_row w g 7 _ _ _ e⟩
end Go.Proofs.YtppmbdpfledejaaGreatDoor
namespace Go.Proofs.YtppmbdpfledejaaGreatDoor
open Go.RowKit
@[go_sem] theorem u32_add (x y : BitVec 32) : (u32 x + u32 y) % 4294967296 = u32 (x + y) := by
  unfold u32; rw [BitVec.toNat_add]; omega
@[go_sem] theorem u32_sub (x y : BitVec 32) : (u32 x - u32 y) % 4294967296 = u32 (x - y) := by
  unfold u32; rw [BitVec.toNat_sub]; have := x.isLt; have := y.isLt; omega
@[go_sem] theorem u32_wrap (x : BitVec 32) : IntKind.u32.wrap (u32 x) = u32 x := by
  have h0 := u32_lo x
  have h1 := u32_hi x
  rw [IntKind.wrap_u32]; omega
@[go_sem] theorem u32_shl24 (x : BitVec 32) : u32 x * (16777216 : Int) % (4294967296 : Int) = u32 (x <<< 24) := u32_shl x 24
@[go_sem] theorem u32_shl16 (x : BitVec 32) : u32 x * (65536 : Int) % (4294967296 : Int) = u32 (x <<< 16) := u32_shl x 16
@[go_sem] theorem u32_shl8 (x : BitVec 32) : u32 x * (256 : Int) % (4294967296 : Int) = u32 (x <<< 8) := u32_shl x 8
@[go_sem] theorem u32_mul256 (x : BitVec 32) : (256 : Int) * u32 x % (4294967296 : Int) = u32 (x <<< 8) := by rw [Int.mul_comm]; exact u32_shl8 x
@[go_sem] theorem wrap_shl24 (x : BitVec 32) : IntKind.u32.wrap (u32 x * 16777216) = u32 (x <<< 24) := by rw [IntKind.wrap_u32, u32_shl24]
@[go_sem] theorem wrap_shl16 (x : BitVec 32) : IntKind.u32.wrap (u32 x * 65536) = u32 (x <<< 16) := by rw [IntKind.wrap_u32, u32_shl16]
@[go_sem] theorem wrap_shl8 (x : BitVec 32) : IntKind.u32.wrap (u32 x * 256) = u32 (x <<< 8) := by rw [IntKind.wrap_u32, u32_shl8]
@[go_sem] theorem wrap_mul256 (x : BitVec 32) : IntKind.u32.wrap (256 * u32 x) = u32 (x <<< 8) := by rw [IntKind.wrap_u32, u32_mul256]
@[go_sem] theorem wrap_add (x y : BitVec 32) : IntKind.u32.wrap (u32 x + u32 y) = u32 (x + y) := by rw [IntKind.wrap_u32, u32_add]
@[go_sem] theorem wrap_sub (x y : BitVec 32) : IntKind.u32.wrap (u32 x - u32 y) = u32 (x - y) := by rw [IntKind.wrap_u32, u32_sub]
/-- The word of four bytes, the highest first. -/
def word (a b c d : BitVec 32) : BitVec 32 := a <<< 24 ||| b <<< 16 ||| c <<< 8 ||| d
theorem or_add (x y : BitVec 32) (h : u32 y < 256) : x <<< 8 ||| y = x <<< 8 + y := by
  have hy : y.toNat < 256 := by unfold u32 at h; omega
  apply BitVec.eq_of_getLsbD_eq
  intro i hi
  have e : x <<< 8 &&& y = 0#32 := by
    apply BitVec.eq_of_getLsbD_eq
    intro j hj
    rw [BitVec.getLsbD_and, BitVec.getLsbD_shiftLeft]
    by_cases h8 : j < 8
    · simp [h8]
    · have : y.getLsbD j = false := by
        rw [BitVec.getLsbD, Nat.testBit_lt_two_pow]
        exact Nat.lt_of_lt_of_le hy (Nat.pow_le_pow_right (n := 2) (i := 8) (by decide) (by omega))
      simp [this]
  rw [BitVec.add_eq_or_of_and_eq_zero _ _ e]
theorem shl_shl8 (x : BitVec 32) (n : Nat) : x <<< n <<< 8 = x <<< (n + 8) := (BitVec.shiftLeft_add x n 8).symm
/-- The word of bytes, as they are put behind one another. -/
def grown (f : Nat → BitVec 32) (t : Nat) : Nat → BitVec 32
  | 0 => 0#32
  | i + 1 => grown f t i <<< 8 + f (4 * t + i)
theorem grown_word (f : Nat → BitVec 32) (hf : ∀ i, u32 (f i) < 256) (t : Nat) : grown f t 4 = word (f (4 * t)) (f (4 * t + 1)) (f (4 * t + 2)) (f (4 * t + 3)) := by
  unfold grown grown grown grown grown word
  rw [← or_add _ _ (hf _), ← or_add _ _ (hf _), ← or_add _ _ (hf _)]
  simp only [Nat.add_zero, BitVec.shiftLeft_or_distrib, shl_shl8, BitVec.zero_shiftLeft, BitVec.zero_add]
/-- The words of the rounds. -/
def sched (f : Nat → BitVec 32) (t : Nat) : BitVec 32 :=
  if t < 16 then word (f (4 * t)) (f (4 * t + 1)) (f (4 * t + 2)) (f (4 * t + 3))
  else small1 (sched f (t - 2)) + sched f (t - 7) + small0 (sched f (t - 15)) + sched f (t - 16)
termination_by t
decreasing_by all_goals omega
theorem sched_lo (f : Nat → BitVec 32) (t : Nat) (h : t < 16) : sched f t = word (f (4 * t)) (f (4 * t + 1)) (f (4 * t + 2)) (f (4 * t + 3)) := by
  rw [sched, if_pos h]
theorem sched_hi (f : Nat → BitVec 32) (t : Nat) (h : 16 ≤ t) : sched f t = small1 (sched f (t - 2)) + sched f (t - 7) + small0 (sched f (t - 15)) + sched f (t - 16) := by
  rw [sched, if_neg (by omega)]
theorem word_def (a b c d : BitVec 32) : word a b c d = a <<< 24 ||| b <<< 16 ||| c <<< 8 ||| d := rfl
attribute [irreducible] word
/-- The first k words of a schedule, and no others. -/
def upTo (s : Nat → BitVec 32) (k i : Nat) : BitVec 32 := if i < k then s i else 0#32
theorem upTo_at (s : Nat → BitVec 32) (k i : Nat) (h : i < k) : upTo s k i = s i := if_pos h
theorem upTo_set (kd : IntKind) (n : Nat) (s : Nat → BitVec 32) (k : Nat) : (row kd n (upTo s k)).setIfInBounds k (.int kd (u32 (s k))) = row kd n (upTo s (k + 1)) :=
  row_set_to _ _ _ _ _ _ fun j _ => by
    unfold upTo
    by_cases h : j = k
    · subst h; rw [if_pos rfl, if_pos (by omega)]
    · rw [if_neg h]
      by_cases h2 : j < k
      · rw [if_pos h2, if_pos (by omega)]
      · rw [if_neg h2, if_neg (by omega)]
theorem upTo_zero (kd : IntKind) (n : Nat) (s : Nat → BitVec 32) : row kd n (upTo s 0) = row kd n (fun _ => 0#32) := row_congr _ _ _ _ fun _ _ => if_neg (by omega)
theorem upTo_rest (s : Nat → BitVec 32) (k i : Nat) (h : k ≤ i) : upTo s k i = 0#32 := if_neg (by omega)
theorem cell_upTo {w : World} {g : Nat} {t : TypeId} {kd : IntKind} {n k : Nat} {s : Nat → BitVec 32} (ho : w.heap[g]? = some (.cells (row kd n (upTo s k)) t (0, 0))) (i : Nat) (h : i < k) (hn : i < n) : w.cell? ⟨g, i, none⟩ = some (.int kd (u32 (s i))) := by
  rw [← upTo_at s k i h]; exact (cell_of_row w g i _ _ _ ho).trans (row_get kd n _ i hn)
theorem upTo_full (kd : IntKind) (n : Nat) (s : Nat → BitVec 32) : row kd n (upTo s n) = row kd n s := row_congr _ _ _ _ fun _ hi => upTo_at _ _ _ hi
/-- The first k words of a schedule, and of the next one the first j bytes. -/
def growTo (f : Nat → BitVec 32) (k j i : Nat) : BitVec 32 := if i = k then grown f k j else upTo (sched f) k i
theorem growTo_zero (kd : IntKind) (n : Nat) (f : Nat → BitVec 32) (k : Nat) : row kd n (growTo f k 0) = row kd n (upTo (sched f) k) := row_congr _ _ _ _ fun i _ => by
  unfold growTo
  by_cases h : i = k
  · subst h; rw [if_pos rfl, upTo_rest _ _ _ (Nat.le_refl _)]; rfl
  · rw [if_neg h]
theorem growTo_full (kd : IntKind) (n : Nat) (f : Nat → BitVec 32) (hf : ∀ i, u32 (f i) < 256) (k : Nat) (hk : k < 16) : row kd n (growTo f k 4) = row kd n (upTo (sched f) (k + 1)) := row_congr _ _ _ _ fun i _ => by
  unfold growTo upTo
  by_cases h : i = k
  · subst h; rw [if_pos rfl, if_pos (by omega), grown_word f hf, sched_lo f _ hk]
  · rw [if_neg h]
    by_cases h2 : i < k
    · rw [if_pos h2, if_pos (by omega)]
    · rw [if_neg h2, if_neg (by omega)]
theorem growTo_set (kd : IntKind) (n : Nat) (f : Nat → BitVec 32) (k j : Nat) : (row kd n (growTo f k j)).setIfInBounds k (.int kd (u32 (grown f k (j + 1)))) = row kd n (growTo f k (j + 1)) :=
  row_set_to _ _ _ _ _ _ fun i _ => by
    unfold growTo
    by_cases h : i = k
    · rw [if_pos h, if_pos h]
    · rw [if_neg h, if_neg h, if_neg h]
theorem growTo_at (f : Nat → BitVec 32) (k j : Nat) : growTo f k j k = grown f k j := if_pos rfl
theorem grown_succ (f : Nat → BitVec 32) (t i : Nat) : grown f t i <<< 8 + f (4 * t + i) = grown f t (i + 1) := rfl
attribute [irreducible] grown
/-- A round. -/
def one (h : Nat → BitVec 32) (k w : BitVec 32) : BitVec 32 := h 7 + big1 (h 4) + ch (h 4) (h 5) (h 6) + k + w
def two (h : Nat → BitVec 32) : BitVec 32 := big0 (h 0) + maj (h 0) (h 1) (h 2)
def eight (a b c d e f g h : BitVec 32) : Nat → BitVec 32
  | 0 => a | 1 => b | 2 => c | 3 => d | 4 => e | 5 => f | 6 => g | _ => h
def roundF (h : Nat → BitVec 32) (k w : BitVec 32) : Nat → BitVec 32 :=
  eight (one h k w + two h) (h 0) (h 1) (h 2) (h 3 + one h k w) (h 4) (h 5) (h 6)
/-- The constant of a round, as a word. -/
def kB (i : Nat) : BitVec 32 := BitVec.ofInt 32 (kTab.getD i 0)
theorem kTab_words : kTab = (List.range 64).map fun i => u32 (kB i) := by decide +kernel
theorem kTab_at (i : Nat) (hi : i < 64) : kTab.getD i 0 = u32 (kB i) := by
  rw [kTab_words]; simp [hi]
/-- The words behind the rounds. -/
def rounds (h : Nat → BitVec 32) (w : Nat → BitVec 32) : Nat → Nat → BitVec 32
  | 0 => h
  | n + 1 => roundF (rounds h w n) (kB n) (w n)
theorem rounds_zero (h w : Nat → BitVec 32) : rounds h w 0 = h := rfl
theorem rounds_succ (h w : Nat → BitVec 32) (n : Nat) : rounds h w (n + 1) = roundF (rounds h w n) (kB n) (w n) := rfl
attribute [irreducible] rounds
/-- The words behind a block. -/
def compressed (h f : Nat → BitVec 32) (i : Nat) : BitVec 32 := rounds h (sched f) 64 i + h i
/-- The first k words of a, and then those of b. -/
def mixTo (a b : Nat → BitVec 32) (k i : Nat) : BitVec 32 := if i < k then a i else b i
theorem mix_zero (kd : IntKind) (n : Nat) (a b : Nat → BitVec 32) : row kd n (mixTo a b 0) = row kd n b := row_congr _ _ _ _ fun _ _ => if_neg (by omega)
theorem mix_full (kd : IntKind) (n : Nat) (a b : Nat → BitVec 32) : row kd n (mixTo a b n) = row kd n a := row_congr _ _ _ _ fun _ hi => if_pos hi
theorem mix_at (a b : Nat → BitVec 32) (k : Nat) : mixTo a b k k = b k := if_neg (by omega)
theorem mix_set (kd : IntKind) (n : Nat) (a b : Nat → BitVec 32) (k : Nat) : (row kd n (mixTo a b k)).setIfInBounds k (.int kd (u32 (a k))) = row kd n (mixTo a b (k + 1)) :=
  row_set_to _ _ _ _ _ _ fun j _ => by
    unfold mixTo
    by_cases h : j = k
    · subst h; rw [if_pos rfl, if_pos (by omega)]
    · rw [if_neg h]
      by_cases h2 : j < k
      · rw [if_pos h2, if_pos (by omega)]
      · rw [if_neg h2, if_neg (by omega)]
theorem compressed_def (h f : Nat → BitVec 32) (i : Nat) : rounds h (sched f) 64 i + h i = compressed h f i := rfl
attribute [irreducible] compressed
end Go.Proofs.YtppmbdpfledejaaGreatDoor
namespace Go.Proofs.YtppmbdpfledejaaGreatDoor
open Go.RowKit
/-- Bytes as cells. -/
def bytesL (bs : List (BitVec 32)) : List Value := bs.map fun x => Value.int .u8 (u32 x)
theorem bytesL_length (bs : List (BitVec 32)) : (bytesL bs).length = bs.length := by simp [bytesL]
theorem bytesL_append (as1 bs : List (BitVec 32)) : bytesL (as1 ++ bs) = bytesL as1 ++ bytesL bs := by simp [bytesL]
theorem bytesL_get (bs : List (BitVec 32)) (i : Nat) (h : i < bs.length) : (bytesL bs)[i]? = some (.int .u8 (u32 (bs.getD i 0#32))) := by
  simp [bytesL, h]
theorem bytesL_one (bs : List (BitVec 32)) : ∀ v ∈ bytesL bs, v.oneCell' = true := by
  intro v hv
  obtain ⟨x, _, rfl⟩ := List.mem_map.1 hv
  rfl
/-- How many bytes 0 stand behind n bytes and the first one. -/
def padZeros (n : Nat) : Nat := (119 - n % 64) % 64
theorem padZeros_lt (n : Nat) : padZeros n < 64 := by unfold padZeros; omega
theorem padZeros_end (n : Nat) : (n + 1 + padZeros n + 8) % 64 = 0 := by unfold padZeros; omega
theorem padZeros_not (n j : Nat) (h : j < padZeros n) : (n + 1 + j + 8) % 64 ≠ 0 := by unfold padZeros at h; omega
/-- A byte of how many bits n bytes are. -/
def lenByte (n i : Nat) : BitVec 32 := BitVec.ofNat 32 (8 * n / 256 ^ (7 - i) % 256)
theorem u32_lenByte (n i : Nat) : u32 (lenByte n i) = ((8 * n / 256 ^ (7 - i) % 256 : Nat) : Int) := by
  unfold u32 lenByte
  rw [BitVec.toNat_ofNat, Nat.mod_eq_of_lt]
  exact Nat.lt_of_lt_of_le (Nat.mod_lt _ (by decide)) (by decide)
/-- The padding, with j of its zeros. -/
def padHead (j : Nat) : List (BitVec 32) := 128#32 :: List.replicate j 0#32
theorem padHead_length (j : Nat) : (padHead j).length = j + 1 := by simp [padHead]
theorem padHead_succ (j : Nat) : padHead (j + 1) = padHead j ++ [0#32] := by
  simp [padHead, List.replicate_succ']
/-- The padding, with i of its last eight bytes. -/
def padUpTo (n i : Nat) : List (BitVec 32) := padHead (padZeros n) ++ (List.range i).map (lenByte n)
theorem padUpTo_zero (n : Nat) : padUpTo n 0 = padHead (padZeros n) := by simp [padUpTo]
theorem padUpTo_succ (n i : Nat) : padUpTo n (i + 1) = padUpTo n i ++ [lenByte n i] := by
  simp [padUpTo, List.range_succ]
theorem padUpTo_length (n i : Nat) : (padUpTo n i).length = padZeros n + 1 + i := by simp [padUpTo, padHead_length]
/-- What stands behind n bytes. -/
def padB (n : Nat) : List (BitVec 32) := padUpTo n 8
theorem padB_length (n : Nat) : (padB n).length = padZeros n + 9 := by simp [padB, padUpTo_length]
theorem padB_whole (n : Nat) : (n + (padB n).length) % 64 = 0 := by rw [padB_length]; have := padZeros_end n; omega
theorem padB_bytes (n : Nat) : ∀ x ∈ padB n, u32 x < 256 := by
  intro x hx
  simp only [padB, padUpTo, padHead, List.mem_append, List.mem_cons, List.mem_replicate, List.mem_map] at hx
  rcases hx with (rfl | ⟨_, rfl⟩) | ⟨i, _, rfl⟩
  · decide
  · decide
  · rw [u32_lenByte]; omega
/-- The words at first. -/
def firstF : Nat → BitVec 32 := eight 1779033703 3144134277 1013904242 2773480762 1359893119 2600822924 528734635 1541459225
/-- The bytes of a block. -/
def blockF (bs : List (BitVec 32)) (k i : Nat) : BitVec 32 := bs.getD (64 * k + i) 0#32
/-- The words behind the first k blocks. -/
def wordsF (bs : List (BitVec 32)) : Nat → Nat → BitVec 32
  | 0 => firstF
  | k + 1 => compressed (wordsF bs k) (blockF bs k)
theorem wordsF_zero (bs : List (BitVec 32)) : wordsF bs 0 = firstF := rfl
theorem wordsF_succ (bs : List (BitVec 32)) (k : Nat) : wordsF bs (k + 1) = compressed (wordsF bs k) (blockF bs k) := rfl
attribute [irreducible] wordsF
/-- A byte of eight words, the highest first. -/
def digestF (h : Nat → BitVec 32) (i : Nat) : BitVec 32 := (h (i / 4) >>> (8 * (3 - i % 4))) &&& 255#32
theorem blockF_lt (bs : List (BitVec 32)) (hb : ∀ x ∈ bs, u32 x < 256) (k i : Nat) : u32 (blockF bs k i) < 256 := by
  unfold blockF
  by_cases h : 64 * k + i < bs.length
  · rw [show bs.getD (64 * k + i) 0#32 = bs[64 * k + i] from by simp [h]]
    exact hb _ (List.getElem_mem h)
  · rw [show bs.getD (64 * k + i) 0#32 = 0#32 from by simp [h]]; decide
@[go_sem] theorem u32_div256 (x : BitVec 32) : u32 x / (256 : Int) = u32 (x >>> 8) := u32_shr x 8
theorem u32_mod256 (x : BitVec 32) : u32 x % (256 : Int) = u32 (x &&& 255#32) := by
  unfold u32
  rw [BitVec.toNat_and, show (255#32).toNat = 2 ^ 8 - 1 from rfl, Nat.and_two_pow_sub_one_eq_mod]
  omega
@[go_sem] theorem u32_tdiv256 (x : BitVec 32) : (u32 x).tdiv (256 : Int) % (4294967296 : Int) = u32 (x >>> 8) := by
  have h0 := u32_lo x
  have h1 := u32_hi x
  rw [Int.tdiv_eq_ediv_of_nonneg h0, ← u32_div256]
  omega
@[go_sem] theorem u32_tmod256 (x : BitVec 32) : (u32 x).tmod (256 : Int) % (256 : Int) = u32 (x &&& 255#32) := by
  rw [Int.tmod_eq_emod_of_nonneg (u32_lo x), ← u32_mod256]
  omega
theorem digest_step (x : BitVec 32) (k : Nat) : x >>> k >>> 8 = x >>> (k + 8) := (BitVec.shiftRight_add x k 8).symm
/-- All bytes that are digested. -/
def paddedB (bs : List (BitVec 32)) : List (BitVec 32) := bs ++ padB bs.length
theorem paddedB_length (bs : List (BitVec 32)) : (paddedB bs).length % 64 = 0 := by
  unfold paddedB; rw [List.length_append]; exact padB_whole _
/-- The digest of bytes. -/
def sumF (bs : List (BitVec 32)) : Nat → BitVec 32 := digestF (wordsF (paddedB bs) ((paddedB bs).length / 64))
end Go.Proofs.YtppmbdpfledejaaGreatDoor
namespace Go.Proofs.YtppmbdpfledejaaGreatDoor
open Go.RowKit
theorem heap_at_alloc (w : World) (o : Obj) (i : Nat) : (w.alloc o).heap[i]? = if i = w.heap.size then some o else w.heap[i]? := by
  show (w.heap.push o)[i]? = _
  rw [Array.getElem?_push]
theorem size_of_alloc (w : World) (o : Obj) : (w.alloc o).heap.size = w.heap.size + 1 := by
  show (w.heap.push o).size = _
  rw [Array.size_push]
theorem alloc2_0 (w : World) (a b : Obj) : ((w.alloc a).alloc b).heap[w.heap.size]? = some a := by
  rw [heap_at_alloc, if_neg (by rw [size_of_alloc]; omega), heap_at_alloc, if_pos rfl]
theorem alloc2_1 (w : World) (a b : Obj) : ((w.alloc a).alloc b).heap[w.heap.size + 1]? = some b := by
  rw [heap_at_alloc, if_pos (by rw [size_of_alloc])]
theorem alloc3_0 (w : World) (a b c : Obj) : (((w.alloc a).alloc b).alloc c).heap[w.heap.size]? = some a := by
  rw [heap_at_alloc, if_neg (by rw [size_of_alloc, size_of_alloc]; omega), alloc2_0]
theorem alloc3_1 (w : World) (a b c : Obj) : (((w.alloc a).alloc b).alloc c).heap[w.heap.size + 1]? = some b := by
  rw [heap_at_alloc, if_neg (by rw [size_of_alloc, size_of_alloc]; omega), alloc2_1]
theorem alloc3_2 (w : World) (a b c : Obj) : (((w.alloc a).alloc b).alloc c).heap[w.heap.size + 2]? = some c := by
  rw [heap_at_alloc, if_pos (by rw [size_of_alloc, size_of_alloc])]
theorem below_draws {B : Nat} {a w : World} (h : Below B a w) (n : Nat) : Below B a (w.drewN n) := ⟨h.os, h.tape, h.output, h.size, h.block⟩
/-- A contract that leaves the memory as it was, as go_quiet wants it. -/
theorem quiet_same {P : Program} {f : FuncId} {args : Array Value} {w : World} {v : Value} {n : Nat} (h : Calls P f args (w.drewN n) fun e w' => e = .returned v ∧ w.drewN n = w') : Calls P f args (w.drewN n) fun e w' => e = .returned v ∧ ∃ m, w' = w.drewN m :=
  Calls.quiet_of_same (h.mono fun _ _ ⟨a, b⟩ => ⟨a, b.symm⟩)
/-- A number at hand that is a small natural one stays as it is. -/
theorem wrap_at (z : Int) (p : Nat) (h : z = (p : Int)) (hp : p < 4611686018427387904) : IntKind.i64.wrap z = (p : Int) := by
  rw [h, IntKind.wrap_i64]; omega
/-- A contract that leaves the memory as it was, as the still walk wants it. -/
theorem still_same {P : Program} {f : FuncId} {args : Array Value} {w : World} {v : Value} (h : Calls P f args w fun e w' => e = .returned v ∧ w = w') : Calls P f args w fun e w' => e = .returned v ∧ w' = w :=
  h.mono fun _ _ ⟨a, b⟩ => ⟨a, b.symm⟩
theorem below_next {w w1 w2 : World} (h1 : Below w.heap.size w w1) (h2 : Below w1.heap.size w1 w2) : Below w.heap.size w w2 := h1.trans (h2.mono h1.size)
/-- The last block made. -/
theorem heap_last (w : World) (o : Obj) : (w.alloc o).heap[w.heap.size]? = some o := by rw [heap_at_alloc, if_pos rfl]
/-- A whole row stored in a block that was just made: the memory behind it under a name of its own, with what is known of it. -/
theorem store_new {P : Program} {ops : Array Oper} {rest : List Oper} {o : Oper} {a : Act} {w : World} {Q : Exit → Act → World → Prop} (hgd : o.guard = none) (ty : TypeId) (x y : Operand) (ho : o.op = .store ty x y) (hd : o.dst = none)
    (w0 : World) (old cells : Array Value) (t : TypeId) (hw : w = w0.alloc (.cells old t (0, 0))) (hx : a.eval x = .pointer (some ⟨w0.heap.size, 0, none⟩)) (hy : a.eval y = .agg cells)
    (hi : (P.info? ty).map (·.size) = some cells.size) (hold : old.size = cells.size) (h1 : cells.all (·.oneCell') = true)
    (h : ∀ w', w'.heap[w0.heap.size]? = some (.cells cells t (0, 0)) → Below w0.heap.size w0 w' → w0.heap.size < w'.heap.size → wpList P ops Q rest a w') : wpList P ops Q (o :: rest) a w := by
  subst hw
  have hg := heap_last w0 (.cells old t (0, 0))
  refine wpList_store_row hgd ty x y ho w0.heap.size cells hx hy t old hg hi hold h1 ?_
  rw [hd]
  exact h _ (setRow_heap _ _ _ _ _ _ hg) (below_setRow ((Below.refl _ _).alloc (Nat.le_refl _) _) (Nat.le_refl _) _) (by simp [World.setRow])
/-- A whole row stored in a block that holds a row: the memory behind it under a name of its own, with what is known of it. -/
theorem store_old {P : Program} {ops : Array Oper} {rest : List Oper} {o : Oper} {a : Act} {w : World} {Q : Exit → Act → World → Prop} (hgd : o.guard = none) (ty : TypeId) (x y : Operand) (ho : o.op = .store ty x y) (hd : o.dst = none)
    (g : Nat) (old cells : Array Value) (t : TypeId) (hg : w.heap[g]? = some (.cells old t (0, 0))) (hx : a.eval x = .pointer (some ⟨g, 0, none⟩)) (hy : a.eval y = .agg cells)
    (hi : (P.info? ty).map (·.size) = some cells.size) (hold : old.size = cells.size) (h1 : cells.all (·.oneCell') = true)
    (h : ∀ w', w'.heap[g]? = some (.cells cells t (0, 0)) → (∀ j, j ≠ g → w'.heap[j]? = w.heap[j]?) → w.heap.size ≤ w'.heap.size → (∀ B w0, Below B w0 w → B ≤ g → Below B w0 w') → wpList P ops Q rest a w') : wpList P ops Q (o :: rest) a w := by
  refine wpList_store_row hgd ty x y ho g cells hx hy t old hg hi hold h1 ?_
  rw [hd]
  exact h _ (setRow_heap _ _ _ _ _ _ hg) (fun j hj => setRow_other w g j cells hj) (by simp [World.setRow]) (fun B w0 hb hB => below_setRow hb hB _)
/-- What owns some cells is a slice that begins at the head of a row of its own. -/
theorem own_shape {w : World} {base : Nat} {e : TypeId} {size : Nat} {v : Value} {n : Nat} {xs : List Value} (h : w.ownsRow base e size v n xs) (hn : 0 < n) :
    ∃ g cap cur, v = .slice (some ⟨g, 0, none⟩) n cap ∧ base ≤ g ∧ w.heap[g]? = some (.cells cur e (0, 0)) ∧ n ≤ cap ∧ cap ≤ maxLen ∧ cur.size = cap * size ∧ cur.toList.take (n * size) = xs := by
  rcases h.2 with ⟨_, h0⟩ | ⟨g, cap, cur, rest⟩
  · omega
  · exact ⟨g, cap, cur, rest⟩
/-- Memory that has grown, old memory being as it was. -/
theorem below_grown {B : Nat} {w0 w w' : World} {row : Option Nat} (hb : Below B w0 w) (hg : w.grownBy w' row) (hB : B ≤ w.heap.size) (hrow : ∀ k, row = some k → B ≤ k) : Below B w0 w' :=
  ⟨hg.os.trans hb.os, hg.tape.trans hb.tape, hg.output.trans hb.output, Nat.le_trans hb.size hg.size,
    fun k hk => (hg.block k (Nat.lt_of_lt_of_le hk hB) (fun e => absurd (hrow k e.symm) (by omega))).trans (hb.block k hk)⟩
/-- The one cell of a block that was just made. -/
theorem new_one (w : World) (x : Value) (t : TypeId) : ∀ j u, [x][j]? = some u → (w.alloc (.cells #[x] t (0, 0))).cell? ((⟨w.heap.size, 0, none⟩ : Addr).add j) = some u := by
  intro j u hj
  match j, hj with
  | 0, hj =>
    have e : u = x := by simpa using hj.symm
    subst e
    have hadd : (⟨w.heap.size, 0, none⟩ : Addr).add 0 = ⟨w.heap.size, 0, none⟩ := by unfold Addr.add; split <;> simp_all
    rw [hadd, cell_of_row _ _ 0 _ _ _ (heap_last w _)]; rfl
theorem one_int (k : IntKind) (z : Int) : ∀ u ∈ [Value.int k z], u.oneCell' = true := by
  intro u hu
  obtain rfl : u = .int k z := by simpa using hu
  rfl
end Go.Proofs.YtppmbdpfledejaaGreatDoor
namespace Go.Proofs.YtppmbdpfledejaaGreatDoor
open Go.RowKit
/-- The row's cells as a list. -/
def rowL (k : IntKind) (n : Nat) (f : Nat → BitVec 32) : List Value := (List.range n).map fun i => Value.int k (u32 (f i))
theorem rowL_length (k : IntKind) (n : Nat) (f : Nat → BitVec 32) : (rowL k n f).length = n := by simp [rowL]
theorem rowL_one (k : IntKind) (n : Nat) (f : Nat → BitVec 32) : ∀ v ∈ rowL k n f, v.oneCell' = true := by
  intro v hv
  obtain ⟨i, _, rfl⟩ := List.mem_map.1 hv
  rfl
theorem cell_same {w w' : World} {g : Nat} (h : w'.heap[g]? = w.heap[g]?) (j : Nat) : w'.cell? ⟨g, j, none⟩ = w.cell? ⟨g, j, none⟩ := by
  simp [World.cell?, h]
theorem sure_yes {P : Program} {ops : Array Oper} {S : World → Prop} {o : Oper} {v : Value} {a : Act} (hw : Region.wanted o (yielded ops a.tmps) = true) (h : ∀ w, (execOp a.eval o).run P w = .ok (.value v) w) : YieldsIf P ops S o v a := Or.inl ⟨hw, fun w _ => h w⟩
/-- An operation taken first, the slot that it writes said by its number. -/
theorem take_at {P : Program} {ops : Array Oper} {Q : Exit → Act → World → Prop} {md : Region.Mode} {S : World → Prop} {i : Nat} {oi : Oper} {v : Value} {fuel : Nat} {listed : Array Bool} {ts : Array Value} {ds : List Deferred} {w : World} (d : Nat) (hi : ops[i]? = some oi) (hd : oi.dst = some d)
    (hs : Region.noSelect ops = true) (hf : Region.free md ops listed i = true) (hr : (Region.ready md ops listed).contains i = true)
    (hQ : ∀ c a w, Q (.panic c) (a.put oi.dst v) w → Q (.panic c) a w) (hy : YieldsIf P ops S oi v { tmps := ts, defers := ds }) (hS : S w)
    (h : wpAnyH P md ops Q S fuel (listed.setIfInBounds i true) { tmps := ts.setIfInBounds d v, defers := ds } w) : wpAnyH P md ops Q S (fuel + 1) listed { tmps := ts, defers := ds } w :=
  wpAnyH_take hi hs hf hr hQ hy hS (by rw [hd]; exact h)
/-- The operation == over two values whose comparison is known. -/
theorem eql_op {P : Program} {o : Oper} {a : Act} {t rt : TypeId} {x y : Operand} {u v : Value} {b : Bool} (ho : o.op = .binOp .eql t x y rt) (hx : a.eval x = u) (hy : a.eval y = v)
    (hg : ∀ w, (eqGuard .eql t x y u v).run P w = .ok () w) (hq : ∀ w, (binOp .eql t u v).run P w = .ok (.bool b) w) : ∀ w, (execOp a.eval o).run P w = .ok (.value (.bool b)) w := fun w => by
  simp only [execOp, ho, hx, hy, Sem.run_bind, hg, hq, Result.andThen_ok, Sem.run_pure]
/-- A row as a value, under a name that no rule looks into. -/
def rowV (k : IntKind) (n : Nat) (f : Nat → BitVec 32) : Value := .agg (row k n f)
theorem eql_rowV {P : Program} {t e : TypeId} {k : IntKind} {n : Nat} (ht : P.underlying t = some (.array n e)) (he : P.underlying e = some (.int k)) (hc : P.cellsOf e = 1) (f g : Nat → BitVec 32) {b : Bool} (hb : sameRow n f g = b) :
    ∀ w, (binOp .eql t (rowV k n f) (rowV k n g)).run P w = .ok (.bool b) w := fun w => by
  rw [← hb]; exact eql_row w f g ht he hc
theorem guard_rowV {P : Program} {t : TypeId} (hm : P.eqGuardType P.depth t = false) (x y : Operand) (k : IntKind) (n : Nat) (f g : Nat → BitVec 32) :
    ∀ w, (eqGuard .eql t x y (rowV k n f) (rowV k n g)).run P w = .ok () w := fun w => run_eqGuard_agg w .eql t x y _ _ hm
end Go.Proofs.YtppmbdpfledejaaGreatDoor
namespace Go.Proofs.YtppmbdpfledejaaGreatDoor
open Go.RowKit
/-- A slice value whose elements are these bytes. -/
def HasBytes (w : World) (v : Value) (bs : List (BitVec 32)) : Prop :=
  ∃ ao cap, v = .slice ao bs.length cap ∧ (ao = none → bs = [] ∧ cap = 0) ∧ ∀ ad, ao = some ad → bs.length ≤ cap ∧ ∀ j u, (bytesL bs)[j]? = some u → w.cell? (ad.add j) = some u
/-- What owns bytes has them. -/
theorem has_of_own {w : World} {base : Nat} {e : TypeId} {v : Value} {bs : List (BitVec 32)} (h : w.ownsRow base e 1 v bs.length (bytesL bs)) : HasBytes w v bs := by
  rcases h.2 with ⟨rfl, h0⟩ | ⟨g, cap, cur, rfl, rest⟩
  · obtain rfl : bs = [] := List.eq_nil_of_length_eq_zero h0
    exact ⟨none, 0, rfl, fun _ => ⟨rfl, rfl⟩, fun _ h => by cases h⟩
  · exact ⟨some ⟨g, 0, none⟩, cap, rfl, (fun h => by cases h), fun ad had => ⟨rest.2.2.1, fun j u hu => by
      cases had; exact h.cells rfl j u hu⟩⟩
theorem own_block {w : World} {base : Nat} {e : TypeId} {size : Nat} {v : Value} {n : Nat} {xs : List Value} (h : w.ownsRow base e size v n xs) (hv : v ≠ .slice none 0 0) :
    ∃ g cap cur, v = .slice (some ⟨g, 0, none⟩) n cap ∧ base ≤ g ∧ w.heap[g]? = some (.cells cur e (0, 0)) ∧ n ≤ cap ∧ cap ≤ maxLen ∧ cur.size = cap * size ∧ cur.toList.take (n * size) = xs := by
  rcases h.2 with ⟨hn, _⟩ | ⟨g, cap, cur, rest⟩
  · exact absurd hn hv
  · exact ⟨g, cap, cur, rest⟩
/-- What is a call's own is a slice of that length. -/
theorem own_slice {w : World} {base : Nat} {e : TypeId} {size : Nat} {v : Value} {n : Nat} {xs : List Value} (h : w.ownsRow base e size v n xs) : ∃ ao cap, v = .slice ao n cap := by
  rcases h.2 with ⟨rfl, rfl⟩ | ⟨b, cap, cur, rfl, -⟩
  · exact ⟨_, _, rfl⟩
  · exact ⟨_, _, rfl⟩
/-- What a call has made stays its own while only new memory is made. -/
theorem own_below {w w' : World} {base : Nat} {e : TypeId} {size : Nat} {v : Value} {n : Nat} {xs : List Value} (h : w.ownsRow base e size v n xs) (hb : Below w.heap.size w w') : w'.ownsRow base e size v n xs := by
  refine ⟨h.1, ?_⟩
  rcases h.2 with hn | ⟨g, cap, cur, rfl, hbase, hg, rest⟩
  · exact .inl hn
  · exact .inr ⟨g, cap, cur, rfl, hbase, (hb.block g (Array.getElem?_eq_some_iff.1 hg).1).trans hg, rest⟩
/-- A byte of what a row of the call's own begins with. -/
theorem own_cell {w : World} {e : TypeId} {g n : Nat} {cur : Array Value} {bs : List (BitVec 32)} (hg : w.heap[g]? = some (.cells cur e (0, 0))) (ht : cur.toList.take (n * 1) = bytesL bs) (hn : n = bs.length) (j : Nat) (hj : j < n) :
    w.cell? ⟨g, j, none⟩ = some (.int .u8 (u32 (bs.getD j 0#32))) := by
  rw [cell_of_row w g j _ _ _ hg, ← bytesL_get bs j (by omega), ← ht, List.getElem?_take, if_pos (by omega)]
  simp
theorem has_below {w w' : World} {v : Value} {bs : List (BitVec 32)} (h : HasBytes w v bs) (hb : Below w.heap.size w w') : HasBytes w' v bs := by
  obtain ⟨ao, cap, rfl, hnil, hc⟩ := h
  refine ⟨ao, cap, rfl, hnil, fun ad had => ⟨(hc ad had).1, fun j u hu => ?_⟩⟩
  have h1 := (hc ad had).2 j u hu
  exact (World.cell?_of_block (hb.block (ad.add j).block (World.block_lt_of_cell? w _ h1))).trans h1
theorem append_has {P : Program} {w : World} {ops : Array Oper} {rest : List Oper} {o : Oper} {a : Act} {Q : Exit → Act → World → Prop} (hgd : o.guard = none) (s x : Operand) (t : TypeId)
    (ho : o.op = .call { callee := .builtin .append, args := #[s, x], argTypes := #[t, t] })
    (base : Nat) (e : TypeId) (i : TypeInfo) (ht : P.underlying t = some (.slice e)) (hi : P.info? e = some i) (hz : i.zero = some (.int .u8 0)) (hsize : i.size = 1) (hby : i.bytes = 1)
    (v : Value) (as1 bs : List (BitVec 32)) (hs : a.eval s = v) (hown : w.ownsRow base e 1 v as1.length (bytesL as1)) (vx : Value) (hx : a.eval x = vx) (hbs : HasBytes w vx bs)
    (hlen : as1.length + bs.length ≤ 140737488355328) (hbase : base ≤ w.heap.size)
    (h : ∀ v' w', w'.ownsRow base e 1 v' (as1 ++ bs).length (bytesL (as1 ++ bs)) → w.grownBy w' v.ownBlock → (v ≠ .slice none 0 0 → v' ≠ .slice none 0 0) → wpList P ops Q rest (a.put o.dst v') w') : wpList P ops Q (o :: rest) a w := by
  obtain ⟨ao, cap, rfl, hnil, hcells⟩ := hbs
  rw [List.length_append, bytesL_append] at h
  cases ao with
  | none =>
    obtain ⟨rfl, rfl⟩ := hnil rfl
    exact wpList_append_own_none hgd s x t ho base e i 1 ht hi v as1.length (bytesL as1) hs hown hx
      (h v w (by simpa [bytesL] using hown) ⟨rfl, rfl, rfl, Nat.le_refl _, fun _ _ _ => rfl⟩ id)
  | some ad =>
    exact wpList_append_own w hgd s x t ho base e i (.int .u8 0) 1 1 ht hi hz hsize hby rfl (by decide) v as1.length (bytesL as1) hs hown ad bs.length cap (bytesL bs) hx (by rw [bytesL_length]; omega) (hcells ad rfl).2 (bytesL_one bs)
      (by unfold maxLen; omega) (by omega) hbase fun v' w' h1 h2 h3 => h v' w' h1 h2 fun hv hv' => hv (h3.1 hv').1
end Go.Proofs.YtppmbdpfledejaaGreatDoor
namespace Go.Proofs.YtppmbdpfledejaaGreatDoor
open Go.RowKit
theorem splice_get {α : Type} (L : List α) (off : Nat) (cs : List α) (h : off + cs.length ≤ L.length) (i : Nat) : (splice L off cs)[i]? = if i < off then L[i]? else if i < off + cs.length then cs[i - off]? else L[i]? := by
  unfold splice
  have hl : (L.take off).length = off := by simp; omega
  by_cases h1 : i < off
  · rw [if_pos h1, List.getElem?_append_left (by omega), List.getElem?_take, if_pos h1]
  · rw [if_neg h1, List.getElem?_append_right (by omega), hl]
    by_cases h2 : i < off + cs.length
    · rw [if_pos h2, List.getElem?_append_left (by omega)]
    · rw [if_neg h2, List.getElem?_append_right (by omega), List.getElem?_drop]; congr 1; omega
/-- Only block g has changed. -/
structure Solo (g : Nat) (w w' : World) : Prop where
  os : w'.os = w.os
  tape : w'.tape = w.tape
  output : w'.output = w.output
  size : w'.heap.size = w.heap.size
  block : ∀ k, k ≠ g → w'.heap[k]? = w.heap[k]?
theorem solo_setRow (w : World) (g : Nat) (cs : Array Value) : Solo g w (w.setRow g cs) := ⟨rfl, rfl, rfl, by simp [World.setRow], fun k hk => setRow_other w g k _ hk⟩
theorem splice_eq {α : Type} (cur : List α) (off : Nat) (cells : List α) : cur.take off ++ cells ++ cur.drop (off + cells.length) = splice cur off cells := by simp [splice]
theorem run_store_in {P : Program} (w : World) (ty : TypeId) (g off : Nat) (cur cells : List Value) (t : TypeId) (hg : w.heap[g]? = some (.cells cur.toArray t (0, 0)))
    (hi : (P.info? ty).map (·.size) = some cells.length) (hfit : off + cells.length ≤ cur.length) (h1 : ∀ v ∈ cells, v.oneCell' = true) :
    (Instr.storeAt ty (.pointer (some ⟨g, off, none⟩)) (.agg cells.toArray)).run P w = .ok () (w.setRow g (splice cur off cells).toArray) := by
  have hst := run_storeCells_at (P := P) g off t cells 0 cur.toArray w hg (by simpa using hfit) h1
  simp only [Nat.add_zero, splice_eq] at hst
  cases hq : P.info? ty with
  | none => simp [hq] at hi
  | some i =>
    have hs : cells.length = i.size := by simp [hq] at hi; omega
    simp [Instr.storeAt, Instr.sureAddr, storeVar, sizeOf, typeInfo, hq, Value.cells, hs, hst]
/-- Some cells stored in the middle of a block that is known whole: one operation. -/
theorem wp_store_in {P : Program} {o : Oper} {a : Act} {w : World} {K : Act → World → Prop} {Q : Exit → Act → World → Prop} (ty : TypeId) (x y : Operand) (ho : o.op = .store ty x y) (hd : o.dst = none)
    (g off : Nat) (cur cells : List Value) (t : TypeId) (hg : w.heap[g]? = some (.cells cur.toArray t (0, 0))) (hx : a.eval x = .pointer (some ⟨g, off, none⟩)) (hy : a.eval y = .agg cells.toArray)
    (hi : (P.info? ty).map (·.size) = some cells.length) (hfit : off + cells.length ≤ cur.length) (h1 : ∀ v ∈ cells, v.oneCell' = true)
    (h : ∀ w', w'.heap[g]? = some (.cells (splice cur off cells).toArray t (0, 0)) → Solo g w w' → K a w') : o.wp P a w K Q := by
  have hst := run_store_in (P := P) w ty g off cur cells t hg hi hfit h1
  unfold Oper.wp execOp
  simp only [ho, hx, hy, Sem.run_bind, Sem.run_pure, Result.andThen_ok, hst]
  have h' := h _ (setRow_heap w g cur.toArray (splice cur off cells).toArray t _ hg) (solo_setRow w g _)
  simpa [Oper.upon, hd, Act.put] using h'
/-- Some cells stored in the middle of a block that is known whole. -/
theorem store_in {P : Program} {ops : Array Oper} {rest : List Oper} {o : Oper} {a : Act} {w : World} {Q : Exit → Act → World → Prop} (hgd : o.guard = none) (ty : TypeId) (x y : Operand) (ho : o.op = .store ty x y) (hd : o.dst = none)
    (g off : Nat) (cur cells : List Value) (t : TypeId) (hg : w.heap[g]? = some (.cells cur.toArray t (0, 0))) (hx : a.eval x = .pointer (some ⟨g, off, none⟩)) (hy : a.eval y = .agg cells.toArray)
    (hi : (P.info? ty).map (·.size) = some cells.length) (hfit : off + cells.length ≤ cur.length) (h1 : ∀ v ∈ cells, v.oneCell' = true)
    (h : ∀ w', w'.heap[g]? = some (.cells (splice cur off cells).toArray t (0, 0)) → Solo g w w' → wpList P ops Q rest a w') : wpList P ops Q (o :: rest) a w :=
  wpList_plain hgd fun _ hK => wp_store_in ty x y ho hd g off cur cells t hg hx hy hi hfit h1 fun w' e s => hK _ _ (h w' e s)
/-- An operation that yields in whatever world taken first, the slot that it writes said by its number. -/
theorem any_at {P : Program} {ops : Array Oper} {Q : Exit → Act → World → Prop} {md : Region.Mode} {i : Nat} {oi : Oper} {v : Value} {fuel : Nat} {listed : Array Bool} {ts : Array Value} {ds : List Deferred} {w : World} (d : Nat) (hi : ops[i]? = some oi) (hd : oi.dst = some d)
    (hs : Region.noSelect ops = true) (hf : Region.free md ops listed i = true) (hr : (Region.ready md ops listed).contains i = true)
    (hQ : ∀ c a w, Q (.panic c) (a.put oi.dst v) w → Q (.panic c) a w) (hw : Region.wanted oi (yielded ops ts) = true) (hy : ∀ w, (execOp (Act.eval { tmps := ts, defers := ds }) oi).run P w = .ok (.value v) w)
    (h : wpAny P md ops Q fuel (listed.setIfInBounds i true) { tmps := ts.setIfInBounds d v, defers := ds } w) : wpAny P md ops Q (fuel + 1) listed { tmps := ts, defers := ds } w :=
  wpAny_take hi hs hf hr hQ (Or.inl ⟨hw, hy⟩) (by rw [hd]; exact h)
/-- Cells loaded out of the middle of a block, the slot said by its number. -/
theorem load_at {P : Program} {ops : Array Oper} {o : Oper} {ts : Array Value} {ds : List Deferred} {w : World} {K : Act → World → Prop} {Q : Exit → Act → World → Prop} {E : Prop} (d : Nat) (hd : o.dst = some d) (hw : Region.wanted o (yielded ops ts) = true) (ty : TypeId) (x : Operand) (ho : o.op = .load ty x)
    (b off : Nat) (hx : Act.eval { tmps := ts, defers := ds } x = .pointer (some ⟨b, off, none⟩)) (cs : List Value) (de : TypeDesc) (hc : w.rangeAt b off cs)
    (hu : P.underlying ty = some de) (hr : de.isRow = true) (hi : (P.info? ty).map (·.size) = some cs.length)
    (h : K { tmps := ts.setIfInBounds d (.agg cs.toArray), defers := ds } w) : if Region.wanted o (yielded ops ts) = true then Oper.wp P o { tmps := ts, defers := ds } w K Q else E := by
  rw [if_pos hw]
  exact wp_load_mid ty x ho b off hx cs de hc hu hr hi (by rw [hd]; exact h)
/-- Some cells copied into the middle of a block that is known whole. -/
theorem copy_in {P : Program} {w : World} {ops : Array Oper} {rest : List Oper} {o : Oper} {a : Act} {Q : Exit → Act → World → Prop} (hgd : o.guard = none) (d s : Operand) (dT sT : TypeId)
    (ho : o.op = .call { callee := .builtin .copy, args := #[d, s], argTypes := #[dT, sT] }) (elem : TypeId) (hu : P.underlying dT = some (.slice elem)) (hsz : (P.info? elem).map (·.size) = some 1)
    (g off dLen dCap : Nat) (ad : Addr) (sLen sCap : Nat) (hd : a.eval d = .slice (some ⟨g, off, none⟩) dLen dCap) (hs : a.eval s = .slice (some ad) sLen sCap)
    (cur : List Value) (t : TypeId) (hg : w.heap[g]? = some (.cells cur.toArray t (0, 0))) (cs : List Value) (n : Nat) (hl : cs.length = n) (hn : n = Nat.min sLen dLen)
    (hsrc : ∀ j v, cs[j]? = some v → w.cell? (ad.add j) = some v)
    (hfit : off + cs.length ≤ cur.length) (h1 : ∀ v ∈ cs, v.oneCell' = true)
    (h : ∀ w', w'.heap[g]? = some (.cells (splice cur off cs).toArray t (0, 0)) → Solo g w w' → wpList P ops Q rest (a.put o.dst (goInt n)) w') :
    wpList P ops Q (o :: rest) a w := by
  subst hl
  refine wpList_copy_own hgd d s dT sT ho elem hu hsz g off dLen dCap ad sLen sCap hd hs cur.toArray t hg cs hn hsrc (by simpa using hfit) h1 ?_
  exact h (w.setRow g (splice cur off cs).toArray) (setRow_heap w g cur.toArray _ t _ hg) (solo_setRow w g _)
/-- A number stored in a cell of a block that is known whole. -/
theorem store_cell {P : Program} {ops : Array Oper} {rest : List Oper} {o : Oper} {a : Act} {w : World} {Q : Exit → Act → World → Prop} (hgd : o.guard = none) (ty : TypeId) (x y : Operand) (ho : o.op = .store ty x y) (hd : o.dst = none)
    (k : IntKind) (g off : Nat) (cur : Array Value) (z : Int) (t : TypeId) (hg : w.heap[g]? = some (.cells cur t (0, 0))) (hx : a.eval x = .pointer (some ⟨g, off, none⟩)) (hy : a.eval y = .int k z) (hfit : off < cur.size)
    (hi : (P.info? ty).map (·.size) = some 1)
    (h : ∀ w', w'.heap[g]? = some (.cells (cur.setIfInBounds off (.int k z)) t (0, 0)) → Solo g w w' → wpList P ops Q rest a w') : wpList P ops Q (o :: rest) a w := by
  refine wpList_plain hgd fun K hK => ?_
  have hcell : w.cell? ⟨g, off, none⟩ = some cur[off] := by simp [World.cell?, hg, hfit]
  have hfro : w.frozen? ⟨g, off, none⟩ = false := by simp [World.frozen?, hg]
  have hadd : (⟨g, off, none⟩ : Addr).add 0 = ⟨g, off, none⟩ := by unfold Addr.add; split <;> simp_all
  have hst : (storeVar ty ⟨g, off, none⟩ (.int k z)).run P w = .ok () (w.setRow g (cur.setIfInBounds off (.int k z))) := by
    cases hq : P.info? ty with
    | none => simp [hq] at hi
    | some i =>
      have hs : i.size = 1 := by simpa [hq] using hi
      simp [storeVar, sizeOf, typeInfo, hq, Value.cells, hs, storeCells, hadd, run_store P w _ _ _ (show (Value.int k z).oneCell' = true from rfl), hcell, hfro, setCell_eq_setRow w g off cur t (0, 0) _ hg]
  unfold Oper.wp execOp
  simp only [ho, hx, hy, Instr.storeAt, Instr.sureAddr, Sem.run_bind, Sem.run_pure, Result.andThen_ok, hst]
  refine hK _ _ ?_
  rw [hd]
  exact h _ (setRow_heap w g cur _ t _ hg) (solo_setRow w g _)
/-- A whole row loaded, where the operation's guard lets it run. -/
theorem load_row_on {P : Program} {ops : Array Oper} {rest : List Oper} {o : Oper} {a : Act} {w : World} {Q : Exit → Act → World → Prop} (hw : Region.wanted o (yielded ops a.tmps) = true) (ty : TypeId) (x : Operand) (ho : o.op = .load ty x)
    (g : Nat) (hx : a.eval x = .pointer (some ⟨g, 0, none⟩)) (t : TypeId) (cs : Array Value) (fr : Nat × Nat) (d : TypeDesc) (hg : w.heap[g]? = some (.cells cs t fr))
    (hu : P.underlying ty = some d) (hd : (match d with | .struct _ | .array _ _ => true | _ => false) = true) (hi : (P.info? ty).map (·.size) = some cs.size)
    (h : wpList P ops Q rest (a.put o.dst (.agg cs)) w) : wpList P ops Q (o :: rest) a w :=
  wpList_step fun K hK => by rw [if_pos hw]; exact wp_load_row ty x ho g hx t cs fr d hg hu hd hi (hK _ _ h)
/-- A value built of parts, where the operation's guard lets it run. -/
theorem build_on {P : Program} {ops : Array Oper} {rest : List Oper} {o : Oper} {a : Act} {w : World} {Q : Exit → Act → World → Prop} (hw : Region.wanted o (yielded ops a.tmps) = true) (t : TypeId) (parts : Array (Nat × Operand)) (ho : o.op = .build t parts) (ps : List (Nat × Value)) (cs : Array Value)
    (hb : P.built t ps = some cs) (hp : (parts.map fun (i, x) => (i, a.eval x)).toList = ps) (h : wpList P ops Q rest (a.put o.dst (.agg cs)) w) : wpList P ops Q (o :: rest) a w := by
  subst hp
  refine wpList_step fun K hK => ?_
  rw [if_pos hw]
  refine wp_build t parts ho (by rw [hb]; rfl) ?_
  rw [hb]; exact hK _ _ h
/-- A block made of a type's zero value: one operation. -/
theorem wp_alloc_as {P : Program} {o : Oper} {a : Act} {w : World} {K : Act → World → Prop} {Q : Exit → Act → World → Prop} (t : TypeId) (ho : o.op = .alloc t) (cs : Array Value)
    (hz : (P.info? t).map (fun i => i.zero) = some (some (.agg cs))) (h : K (a.put o.dst (.pointer (some ⟨w.heap.size, 0, none⟩))) (w.alloc (.cells cs t (0, 0)))) : o.wp P a w K Q := by
  cases hq : P.info? t with
  | none => simp [hq] at hz
  | some i =>
    have hi : i.zero = some (.agg cs) := by simpa [hq] using hz
    unfold Oper.wp execOp
    simp only [ho]
    simp [Instr.alloc, zeroValue, typeInfo, hq, hi, newVar, newRow, Value.cells, Oper.upon]
    exact h
/-- A block made within a region, the slot said by its number. -/
theorem alloc_at {P : Program} {ops : Array Oper} {o : Oper} {ts : Array Value} {ds : List Deferred} {w : World} {K : Act → World → Prop} {Q : Exit → Act → World → Prop} {E : Prop} (d : Nat) (hd : o.dst = some d) (hw : Region.wanted o (yielded ops ts) = true) (t : TypeId) (ho : o.op = .alloc t) (cs : Array Value)
    (hz : (P.info? t).map (fun i => i.zero) = some (some (.agg cs))) (h : K { tmps := ts.setIfInBounds d (.pointer (some ⟨w.heap.size, 0, none⟩)), defers := ds } (w.alloc (.cells cs t (0, 0)))) : if Region.wanted o (yielded ops ts) = true then Oper.wp P o { tmps := ts, defers := ds } w K Q else E := by
  rw [if_pos hw]
  exact wp_alloc_as t ho cs hz (by rw [hd]; exact h)
/-- A whole row stored within a region, into a block that holds a row. -/
theorem store_at {P : Program} {ops : Array Oper} {o : Oper} {a : Act} {w : World} {K : Act → World → Prop} {Q : Exit → Act → World → Prop} {E : Prop} (hd : o.dst = none) (hw : Region.wanted o (yielded ops a.tmps) = true) (ty : TypeId) (x y : Operand) (ho : o.op = .store ty x y)
    (g : Nat) (cells : Array Value) (hx : a.eval x = .pointer (some ⟨g, 0, none⟩)) (hy : a.eval y = .agg cells) (t : TypeId) (old : Array Value) (hg : w.heap[g]? = some (.cells old t (0, 0))) (hi : (P.info? ty).map (·.size) = some cells.size)
    (hold : old.size = cells.size) (h1 : cells.all (·.oneCell') = true) (h : K a (w.setRow g cells)) : if Region.wanted o (yielded ops a.tmps) = true then Oper.wp P o a w K Q else E := by
  rw [if_pos hw]
  exact wp_store_row ty x y ho g cells hx hy t old hg hi hold h1 (by rw [hd]; exact h)
/-- A block made of a type's zero value, whatever its size. -/
theorem alloc_as {P : Program} {ops : Array Oper} {rest : List Oper} {o : Oper} {a : Act} {w : World} {Q : Exit → Act → World → Prop} (hgd : o.guard = none) (t : TypeId) (ho : o.op = .alloc t) (cs : Array Value)
    (hz : (P.info? t).map (fun i => i.zero) = some (some (.agg cs))) (h : wpList P ops Q rest (a.put o.dst (.pointer (some ⟨w.heap.size, 0, none⟩))) (w.alloc (.cells cs t (0, 0)))) : wpList P ops Q (o :: rest) a w := by
  refine wpList_plain hgd fun K hK => ?_
  cases hq : P.info? t with
  | none => simp [hq] at hz
  | some i =>
    have hi : i.zero = some (.agg cs) := by simpa [hq] using hz
    unfold Oper.wp execOp
    simp only [ho]
    simp [Instr.alloc, zeroValue, typeInfo, hq, hi, newVar, newRow, Value.cells, Oper.upon]
    exact hK _ _ h
/-- A value built of parts whose cells are known. -/
theorem build_as {P : Program} {ops : Array Oper} {rest : List Oper} {o : Oper} {a : Act} {w : World} {Q : Exit → Act → World → Prop} (hg : o.guard = none) (t : TypeId) (parts : Array (Nat × Operand)) (ho : o.op = .build t parts) (ps : List (Nat × Value)) (cs : Array Value)
    (hb : P.built t ps = some cs) (hp : (parts.map fun (i, x) => (i, a.eval x)).toList = ps) (h : wpList P ops Q rest (a.put o.dst (.agg cs)) w) : wpList P ops Q (o :: rest) a w := by
  subst hp
  refine wpList_build hg t parts ho (by rw [hb]; rfl) ?_
  rw [hb]; exact h
end Go.Proofs.YtppmbdpfledejaaGreatDoor
namespace Go.Proofs.YtppmbdpfledejaaGreatDoor
open Go.RowKit
/-- A byte as a word. -/
def w8 (b : UInt8) : BitVec 32 := BitVec.ofNat 32 b.toNat
theorem u32_w8 (b : UInt8) : u32 (w8 b) = (b.toNat : Int) := by
  have := UInt8.toNat_lt b
  unfold u32 w8
  rw [BitVec.toNat_ofNat, Nat.mod_eq_of_lt (by omega)]
theorem w8_lt (b : UInt8) : u32 (w8 b) < 256 := by have := UInt8.toNat_lt b; rw [u32_w8]; omega
/-- A list of bytes as a string. -/
def str (l : List UInt8) : ByteArray := ⟨l.toArray⟩
theorem str_size (l : List UInt8) : (str l).size = l.length := by simp [str, ByteArray.size]
theorem str_toList (l : List UInt8) : (str l).toList = l := ByteArray.toList_mk l
theorem str_append (x y : List UInt8) : str x ++ str y = str (x ++ y) := ByteArray.mk_append_mk x y
/-- A slice of bytes in memory has this text. -/
def HasText (w : World) (v : Value) (l : List UInt8) : Prop := HasBytes w v (l.map w8)
theorem bytesL_map (l : List UInt8) : bytesL (l.map w8) = l.map fun b => Value.int .u8 b.toNat := by
  simp [bytesL, u32_w8, Function.comp_def]
theorem conv_text {P : Program} {src dst e : TypeId} (hs : P.underlying src = some (.slice e)) (he : P.underlying e = some (.int .u8)) (hd : P.underlying dst = some .string) {w : World} {v : Value} {l : List UInt8} (h : HasText w v l) :
    (convert src dst v).run P w = .ok (.string (str l)) w := by
  obtain ⟨ao, cap, rfl, hnil, hc⟩ := h
  rw [List.length_map]
  cases ao with
  | none =>
    obtain ⟨hl, rfl⟩ := hnil rfl
    obtain rfl : l = [] := by simpa using hl
    rw [show ([] : List UInt8).length = 0 from rfl, run_convert_bytes_string w src dst e none 0 0 hs he hd]; rfl
  | some ad =>
    refine run_convert_bytes_back (P := P) w src dst e ad cap l hs he hd fun j hj => ?_
    refine (hc ad rfl).2 j _ ?_
    rw [bytesL_map]; simp [hj]
theorem add_str {P : Program} (x y : List UInt8) (h : x.length + y.length ≤ 4611686018427387904) (w : World) : (Op.stringOp .add (str x) (str y)).run P w = .ok (.string (str (x ++ y))) w := by
  rw [run_string_add_sum w _ _ (by rw [str_size, str_size]; omega), str_append]
theorem index_str {P : Program} (w : World) {t : TypeId} (l : List UInt8) (k : IntKind) (i : Nat) (c : UInt8) (hi : l[i]? = some c) (ht : P.underlying t = some .string) :
    (Instr.index t (.string (str l)) (.int k (i : Int))).run P w = .ok (.int .u8 (c.toNat : Int)) w := by
  obtain ⟨h, rfl⟩ := List.getElem?_eq_some_iff.1 hi
  rw [run_index_string w t (str l) k i ht, dif_pos ⟨by omega, by rw [str_size]; omega⟩]
  simp [str, ByteArray.getElem_eq_getElem_data]
/-- Two texts one behind the other, as an operation. -/
theorem add_op {P : Program} {o : Oper} {a : Act} {t rt : TypeId} {x y : Operand} {l m : List UInt8} (ho : o.op = .binOp .add t x y rt) (hx : a.eval x = .string (str l)) (hy : a.eval y = .string (str m)) (hn : l.length + m.length ≤ 4611686018427387904) :
    ∀ w, (execOp a.eval o).run P w = .ok (.value (.string (str (l ++ m)))) w := fun w => by
  simp only [execOp, ho, hx, hy, Sem.run_bind, eqGuard_add, Sem.run_pure, Result.andThen_ok, binOp_string_add, add_str l m hn]
theorem bytesLess_irrefl (l : List UInt8) : Op.bytesLess l l = false := by
  induction l with
  | nil => rfl
  | cons a l ih => simp [Op.bytesLess, ih]
/-- A number loaded from a cell that is known in every world at hand. -/
theorem cell_yields {P : Program} {ops : Array Oper} {S : World → Prop} {o : Oper} {a : Act} (hw : Region.wanted o (yielded ops a.tmps) = true) (ty : TypeId) (x : Operand) (ho : o.op = .load ty x)
    (b off : Nat) (hx : a.eval x = .pointer (some ⟨b, off, none⟩)) (k : IntKind) (z : Int) (hu : P.underlying ty = some (.int k)) (hS : ∀ w, S w → w.cell? ⟨b, off, none⟩ = some (.int k z)) : YieldsIf P ops S o (.int k z) a :=
  .inl ⟨hw, fun w h => by
    have hc := hS w h
    unfold execOp
    simp [ho, hx, Instr.loadAt, Instr.sureAddr, loadVar, isAgg, run_underlying hu, hc]⟩
end Go.Proofs.YtppmbdpfledejaaGreatDoor
namespace Go.Proofs.YtppmbdpfledejaaGreatDoor
open Go.RowKit
/-- The figures of a number to the base 10. -/
def digs (m : Nat) : List UInt8 := if m < 10 then [UInt8.ofNat (48 + m)] else digs (m / 10) ++ [UInt8.ofNat (48 + m % 10)]
termination_by m
decreasing_by omega
theorem digs_lo (m : Nat) (h : m < 10) : digs m = [UInt8.ofNat (48 + m)] := by rw [digs, if_pos h]
theorem digs_hi (m : Nat) (h : 10 ≤ m) : digs m = digs (m / 10) ++ [UInt8.ofNat (48 + m % 10)] := by rw [digs, if_neg (by omega)]
def numL (n : Int) : List UInt8 := if n < 0 then 45 :: digs n.natAbs else digs n.natAbs
theorem digs_length (k : Nat) : ∀ m, m < 10 ^ k → 0 < k → (digs m).length ≤ k := by
  induction k with
  | zero => intro m _ h; omega
  | succ k ih =>
    intro m hm _
    by_cases h : m < 10
    · rw [digs_lo m h]; simp
    · rw [digs_hi m (by omega), List.length_append]
      have h1 : m / 10 < 10 ^ k := by rw [Nat.pow_succ] at hm; omega
      have h2 : 0 < k := by
        rcases Nat.eq_zero_or_pos k with rfl | h
        · simp at h1; omega
        · exact h
      have := ih (m / 10) h1 h2
      simp; omega
end Go.Proofs.YtppmbdpfledejaaGreatDoor
namespace Go.Proofs.YtppmbdpfledejaaGreatDoor
open Go.RowKit
/-- May a byte stand in a part? -/
def isLet (c : UInt8) : Bool := (decide (97 ≤ c.toNat) && decide (c.toNat ≤ 122)) || (decide (65 ≤ c.toNat) && decide (c.toNat ≤ 90)) || (decide (48 ≤ c.toNat) && decide (c.toNat ≤ 57)) || c == 45 || c == 46 || c == 95 || c == 43 || c == 126
/-- Is it a part? -/
def isPart (s : List UInt8) : Bool := s.all isLet && (decide (1 ≤ s.length) && (decide (s.length ≤ 100) && (s != [46] && s != [46, 46])))
/-- What stands between the bytes /. -/
def pieces : List UInt8 → List (List UInt8)
  | [] => [[]]
  | c :: t => if c = 47 then [] :: pieces t else match pieces t with
    | p :: ps => (c :: p) :: ps
    | [] => [[c]]
theorem pieces_ne (s : List UInt8) : pieces s ≠ [] := by
  cases s with
  | nil => simp [pieces]
  | cons c t =>
    rw [pieces]
    by_cases h : c = 47
    · rw [if_pos h]; simp
    · rw [if_neg h]; cases pieces t <;> simp
theorem pieces_end (a : List UInt8) (h : ∀ c ∈ a, c ≠ 47) : pieces a = [a] := by
  induction a with
  | nil => rfl
  | cons c t ih => rw [pieces, if_neg (h c (by simp)), ih fun c hc => h c (by simp [hc])]
/-- Of two texts with a byte / between, the pieces are those of the one, then those of the other. -/
theorem pieces_append (a b : List UInt8) : pieces (a ++ 47 :: b) = pieces a ++ pieces b := by
  induction a with
  | nil => simp [pieces]
  | cons c t ih =>
    rw [List.cons_append, pieces, pieces]
    by_cases h : c = 47
    · rw [if_pos h, if_pos h, ih]; rfl
    · rw [if_neg h, if_neg h, ih]
      cases hp : pieces t with
      | nil => exact absurd hp (pieces_ne t)
      | cons p ps => rfl
/-- Is it parts, with / between? -/
def isParts (s : List UInt8) : Bool := (pieces s).all isPart
theorem isParts_append (a b : List UInt8) : isParts (a ++ 47 :: b) = (isParts a && isParts b) := by rw [isParts, pieces_append, List.all_append]; rfl
theorem isParts_nil : isParts [] = false := by decide
theorem isPart_let {s : List UInt8} (h : isPart s = true) : ∀ c ∈ s, isLet c = true := by
  simp only [isPart, Bool.and_eq_true, List.all_eq_true] at h
  exact h.1
def cutI (s : List UInt8) : Option Nat := (List.range s.length).find? fun i => s.getD i 0 == 47 && decide (s.length - i - 1 ≤ 100)
theorem cut_some {s : List UInt8} {i : Nat} (h : cutI s = some i) : i < s.length ∧ s.getD i 0 = 47 ∧ s.length - i - 1 ≤ 100 ∧ ∀ j, j < i → s.getD j 0 = 47 → 100 < s.length - j - 1 := by
  unfold cutI at h
  have h1 := List.find?_some h
  have h2 := List.mem_of_find?_eq_some h
  simp only [Bool.and_eq_true, beq_iff_eq, decide_eq_true_eq] at h1
  refine ⟨by simpa using h2, h1.1, h1.2, fun j hj hs => ?_⟩
  obtain ⟨-, as1, bs, hab, hn⟩ := List.find?_eq_some_iff_append.1 h
  have hlen : as1.length = i := by
    have e1 := congrArg (·[as1.length]?) hab
    simp only [List.getElem?_append_right (Nat.le_refl _), Nat.sub_self, List.getElem?_cons_zero] at e1
    rw [List.getElem?_range (by
      rcases Nat.lt_or_ge as1.length s.length with h | h
      · exact h
      · have := congrArg List.length hab; simp at this; omega)] at e1
    exact Option.some.inj e1
  have hm : j ∈ as1 := by
    have e1 := congrArg (·[j]?) hab
    simp only [List.getElem?_append_left (show j < as1.length by omega)] at e1
    rw [List.getElem?_range (by have := (show i < s.length by simpa using h2); omega)] at e1
    exact List.mem_of_getElem? e1.symm
  have := hn j hm
  simp only [Bool.not_eq_true', Bool.and_eq_false_iff, beq_eq_false_iff_ne, decide_eq_false_iff_not] at this
  rcases this with h | h
  · exact absurd hs h
  · omega
/-- A path's two fields. -/
def splitR (s : List UInt8) : Option (List UInt8 × List UInt8) :=
  if isParts s = false ∨ 254 < s.length then none
  else if s.length ≤ 100 then some ([], s)
  else match cutI s with
    | some i => if 155 < i then none else some (s.take i, s.drop (i + 1))
    | none => none
def splitA (s : List UInt8) : List UInt8 := match splitR s with | some x => x.1 | none => []
def splitB (s : List UInt8) : List UInt8 := match splitR s with | some x => x.2 | none => []
def splitErr (s : List UInt8) : Int := match splitR s with | some _ => 0 | none => 9
def mayP (s : List UInt8) : Bool := (splitR s).isSome
theorem take_slash {s : List UInt8} {i : Nat} (hi : i < s.length) (hs : s.getD i 0 = 47) : s = s.take i ++ 47 :: s.drop (i + 1) := by
  have e : s[i] = 47 := by rw [← hs]; simp [hi]
  rw [← e, ← List.drop_eq_getElem_cons hi, List.take_append_drop]
/-- What is known of a path that was split. -/
theorem split_some {s a b : List UInt8} (h : splitR s = some (a, b)) : isParts s = true ∧ s.length ≤ 254 ∧ a.length ≤ 155 ∧ b.length ≤ 100 ∧ b ≠ [] ∧ (if a = [] then b else a ++ 47 :: b) = s := by
  unfold splitR at h
  by_cases h1 : isParts s = false ∨ 254 < s.length
  · rw [if_pos h1] at h; cases h
  · rw [if_neg h1] at h
    have hp : isParts s = true := by
      cases hp : isParts s with
      | true => rfl
      | false => exact absurd (.inl hp) h1
    by_cases h2 : s.length ≤ 100
    · rw [if_pos h2] at h
      cases h
      refine ⟨hp, by omega, by simp, h2, fun e => ?_, by rw [if_pos rfl]⟩
      subst e; rw [isParts_nil] at hp; cases hp
    · rw [if_neg h2] at h
      cases hc : cutI s with
      | none => rw [hc] at h; cases h
      | some i =>
        rw [hc] at h
        simp only at h
        obtain ⟨k1, k2, k3, k4⟩ := cut_some hc
        by_cases h3 : 155 < i
        · rw [if_pos h3] at h; cases h
        · rw [if_neg h3] at h
          cases h
          have e := take_slash k1 k2
          have hpp := hp
          rw [e, isParts_append, Bool.and_eq_true] at hpp
          have ha : s.take i ≠ [] := fun e1 => by rw [e1, isParts_nil] at hpp; cases hpp.1
          refine ⟨hp, by omega, by rw [List.length_take]; omega, by rw [List.length_drop]; omega, fun e1 => ?_, by rw [if_neg ha]; exact e.symm⟩
          rw [e1, isParts_nil] at hpp; cases hpp.2
/-- Two fields' path. -/
def joinS (p n : List UInt8) : List UInt8 := if p = [] then n else p ++ 47 :: n
def joinOk (p n : List UInt8) : Bool := splitR (joinS p n) == some (p, n)
def joinT (p n : List UInt8) : List UInt8 := if joinOk p n then joinS p n else []
def joinErr (p n : List UInt8) : Int := if joinOk p n then 0 else 9
/-- Is it a user's path? -/
def tail31 : List UInt8 := [126, 51, 49, 45, 49, 48, 57, 57, 53, 49, 49, 54, 50, 55, 55, 55, 54]
def ownP (s : List UInt8) : Bool := !s.contains 126 && (mayP s && (decide (s.length ≤ 200) && mayP (s ++ tail31)))
/-- Does it lie below? -/
def underP (s d : List UInt8) : Bool := decide (d.length + 1 < s.length) && (s.take d.length == d && s.getD d.length 0 == 47)
theorem under_iff (s d : List UInt8) : underP s d = true ↔ ∃ r, r ≠ [] ∧ s = d ++ 47 :: r := by
  simp only [underP, Bool.and_eq_true, decide_eq_true_eq, beq_iff_eq]
  constructor
  · rintro ⟨h1, h2, h3⟩
    have := take_slash (s := s) (i := d.length) (by omega) h3
    rw [h2] at this
    refine ⟨s.drop (d.length + 1), fun e => ?_, this⟩
    have := congrArg List.length e
    simp at this; omega
  · rintro ⟨r, hr, rfl⟩
    have : 0 < r.length := List.length_pos_iff.2 hr
    refine ⟨by simp; omega, by simp, ?_⟩
    rw [List.getD_eq_getElem?_getD, List.getElem?_append_right (Nat.le_refl _), Nat.sub_self]; rfl
/-- A copy's path. -/
def copyL (s : List UInt8) (r q : Int) : List UInt8 := s ++ 126 :: (numL r ++ 45 :: numL q)
/-- A text's last piece. -/
theorem last_piece (a : List UInt8) : (∀ c ∈ a, c ≠ 47) ∨ ∃ h l, a = h ++ 47 :: l ∧ ∀ c ∈ l, c ≠ 47 := by
  induction a with
  | nil => exact .inl fun c hc => by simp at hc
  | cons c t ih =>
    rcases ih with h | ⟨h, l, rfl, hl⟩
    · by_cases hc : c = 47
      · exact .inr ⟨[], t, by rw [hc]; rfl, h⟩
      · exact .inl fun d hd => by
          rcases List.mem_cons.1 hd with rfl | hd
          · exact hc
          · exact h d hd
    · exact .inr ⟨c :: h, l, rfl, hl⟩
theorem isParts_one {l : List UInt8} (hl : ∀ c ∈ l, c ≠ 47) : isParts l = isPart l := by rw [isParts, pieces_end l hl]; simp
end Go.Proofs.YtppmbdpfledejaaGreatDoor
namespace Go.Proofs.YtppmbdpfledejaaGreatDoor
open Go.RowKit
def cmpD (r q r' q' : Int) : Int := if r = r' ∧ q = q' then 0 else if r < r' ∨ (r = r' ∧ q < q') then -1 else 1
def mayD (r q : Int) : Bool := decide (0 ≤ r ∧ r ≤ 31 ∧ 1 ≤ q ∧ q ≤ 1099511627776)
theorem cmp_cases (r q r' q' : Int) : cmpD r q r' q' = 0 ∧ r = r' ∧ q = q' ∨ cmpD r q r' q' = -1 ∧ (r < r' ∨ r = r' ∧ q < q') ∨ cmpD r q r' q' = 1 ∧ (r' < r ∨ r = r' ∧ q' < q) := by
  unfold cmpD
  split
  · rename_i h; exact .inl ⟨rfl, h.1, h.2⟩
  · split
    · rename_i h; exact .inr (.inl ⟨rfl, h⟩)
    · rename_i h1 h2; exact .inr (.inr ⟨rfl, by omega⟩)
end Go.Proofs.YtppmbdpfledejaaGreatDoor
namespace Go.Proofs.YtppmbdpfledejaaGreatDoor
open Go.RowKit
abbrev D2 := Int × Int
def mayT (d : D2) : Bool := mayD d.1 d.2
theorem mayT_bd {d : D2} (h : mayT d = true) : 0 ≤ d.1 ∧ d.1 ≤ 31 ∧ 1 ≤ d.2 ∧ d.2 ≤ 1099511627776 := of_decide_eq_true h
/-- How many events of a replica are told. -/
def seen (i : Nat) (m : Int) (d : D2) : Int := if mayT d = true ∧ d.1 = (i : Int) ∧ m < d.2 then d.2 else m
def allV (l : List D2) (i : Nat) : Int := l.foldl (seen i) 0
theorem allV_nil (i : Nat) : allV [] i = 0 := rfl
theorem allV_snoc (l : List D2) (d : D2) (i : Nat) : allV (l ++ [d]) i = seen i (allV l i) d := by simp [allV, List.foldl_append]
theorem allV_take {l : List D2} {k : Nat} (hk : k < l.length) (i : Nat) : allV (l.take (k + 1)) i = seen i (allV (l.take k) i) (l[k]) := by
  rw [List.take_add_one, List.getElem?_eq_getElem hk]; exact allV_snoc _ _ _
theorem fold_bd (i : Nat) (l : List D2) : ∀ m, 0 ≤ m → m ≤ 1099511627776 → 0 ≤ l.foldl (seen i) m ∧ l.foldl (seen i) m ≤ 1099511627776 := by
  induction l with
  | nil => intro m h0 h1; exact ⟨h0, h1⟩
  | cons d t ih =>
    intro m h0 h1
    rw [List.foldl_cons]
    by_cases h : mayT d = true ∧ d.1 = (i : Int) ∧ m < d.2
    · have := mayT_bd h.1
      exact ih _ (by rw [seen, if_pos h]; omega) (by rw [seen, if_pos h]; omega)
    · exact ih _ (by rw [seen, if_neg h]; exact h0) (by rw [seen, if_neg h]; exact h1)
theorem allV_bd (l : List D2) (i : Nat) : 0 ≤ allV l i ∧ allV l i ≤ 1099511627776 := fold_bd i l 0 (by omega) (by omega)
/-- The vector of how many. -/
def ofN (n : Nat → Int) : Nat → List D2
  | 0 => []
  | k + 1 => ofN n k ++ (if 0 < n k then [((k : Int), n k)] else [])
def ofV (n : Nat → Int) : List D2 := ofN n 32
theorem ofN_mem {n : Nat → Int} {k : Nat} {d : D2} (h : d ∈ ofN n k) : ∃ i, i < k ∧ d = ((i : Int), n i) ∧ 0 < n i := by
  induction k with
  | zero => cases h
  | succ k ih =>
    rw [ofN] at h
    rcases List.mem_append.1 h with h | h
    · obtain ⟨i, h1, h2⟩ := ih h; exact ⟨i, by omega, h2⟩
    · by_cases hp : 0 < n k
      · rw [if_pos hp] at h; exact ⟨k, by omega, List.mem_singleton.1 h, hp⟩
      · rw [if_neg hp] at h; cases h
theorem ofN_length (n : Nat → Int) (k : Nat) : (ofN n k).length ≤ k := by
  induction k with
  | zero => exact Nat.le_refl _
  | succ k ih => rw [ofN, List.length_append]; split <;> simp <;> omega
theorem ofN_congr {n m : Nat → Int} {k : Nat} (h : ∀ i, i < k → n i = m i) : ofN n k = ofN m k := by
  induction k with
  | zero => rfl
  | succ k ih => rw [ofN, ofN, ih (fun i hi => h i (by omega)), h k (by omega)]
/-- Numbers that may be events' numbers. -/
def Cnt (n : Nat → Int) : Prop := ∀ i, i < 32 → 0 ≤ n i ∧ n i ≤ 1099511627776
theorem allV_cnt (l : List D2) : Cnt (allV l) := fun i _ => allV_bd l i
theorem allV_ofN {n : Nat → Int} (h : Cnt n) (i : Nat) : ∀ k, k ≤ 32 → allV (ofN n k) i = if i < k then n i else 0 := by
  intro k
  induction k with
  | zero => intro _; rw [if_neg (by omega)]; rfl
  | succ k ih =>
    intro hk
    have hi := ih (by omega)
    have hc := h k (by omega)
    rw [ofN]
    by_cases hp : 0 < n k
    · rw [if_pos hp, allV_snoc, hi, seen]
      by_cases e : i = k
      · subst e
        rw [if_neg (Nat.lt_irrefl _), if_pos ⟨decide_eq_true (by simp only; omega), rfl, hp⟩, if_pos (by omega)]
      · rw [if_neg (fun hh => e (by have := hh.2.1; simp only at this; omega))]
        by_cases h1 : i < k
        · rw [if_pos h1, if_pos (by omega)]
        · rw [if_neg h1, if_neg (by omega)]
    · rw [if_neg hp, List.append_nil, hi]
      by_cases e : i = k
      · subst e
        rw [if_neg (Nat.lt_irrefl _), if_pos (by omega)]; omega
      · by_cases h1 : i < k
        · rw [if_pos h1, if_pos (by omega)]
        · rw [if_neg h1, if_neg (by omega)]
theorem allV_ofV {n : Nat → Int} (h : Cnt n) {i : Nat} (hi : i < 32) : allV (ofV n) i = n i := by
  rw [ofV, allV_ofN h i 32 (Nat.le_refl _), if_pos hi]
def vecOf (l : List D2) : List D2 := ofV (allV l)
theorem vecOf_ofV {n : Nat → Int} (h : Cnt n) : vecOf (ofV n) = ofV n := ofN_congr fun _ hi => allV_ofV h hi
/-- What package vec answers. -/
def mayV (l : List D2) : Bool := l == vecOf l
def leqV (a b : List D2) : Bool := (List.range 32).all fun i => decide (allV a i ≤ allV b i)
def getV (l : List D2) (r : Int) : Int := if r < 0 ∨ 31 < r then 0 else allV l r.toNat
def hasV (l : List D2) (r q : Int) : Bool := mayD r q && decide (q ≤ getV l r)
def withN (l : List D2) (r q : Int) (i : Nat) : Int := if mayD r q = true ∧ r = (i : Int) ∧ allV l i < q then q else allV l i
def withV (l : List D2) (r q : Int) : List D2 := ofV (withN l r q)
def joinN (a b : List D2) (i : Nat) : Int := max (allV a i) (allV b i)
def joinV (a b : List D2) : List D2 := ofV (joinN a b)
theorem leqV_iff (a b : List D2) : leqV a b = true ↔ ∀ i, i < 32 → allV a i ≤ allV b i := by
  simp [leqV, List.all_eq_true]
theorem joinN_cnt (a b : List D2) : Cnt (joinN a b) := fun i _ => by
  have h1 := allV_bd a i; have h2 := allV_bd b i; unfold joinN; omega
theorem withN_cnt (l : List D2) (r q : Int) : Cnt (withN l r q) := fun i _ => by
  have h1 := allV_bd l i
  unfold withN
  split
  · rename_i h; have := mayT_bd (d := (r, q)) h.1; simp only at this; omega
  · exact h1
theorem all_join (a b : List D2) {i : Nat} (hi : i < 32) : allV (joinV a b) i = max (allV a i) (allV b i) := allV_ofV (joinN_cnt a b) hi
theorem all_with (l : List D2) (r q : Int) {i : Nat} (hi : i < 32) : allV (withV l r q) i = withN l r q i := allV_ofV (withN_cnt l r q) hi
theorem mayV_ofV {n : Nat → Int} (h : Cnt n) : mayV (ofV n) = true := by rw [mayV, vecOf_ofV h]; simp
theorem mayV_join (a b : List D2) : mayV (joinV a b) = true := mayV_ofV (joinN_cnt a b)
theorem mayV_with (l : List D2) (r q : Int) : mayV (withV l r q) = true := mayV_ofV (withN_cnt l r q)
theorem getV_bd (l : List D2) (r : Int) : 0 ≤ getV l r ∧ getV l r ≤ 1099511627776 := by
  unfold getV; split
  · omega
  · exact allV_bd l _
/-- Lattice. -/
theorem leq_join (a b : List D2) : leqV a (joinV a b) = true ∧ leqV b (joinV a b) = true := by
  rw [leqV_iff, leqV_iff]
  exact ⟨fun i hi => by rw [all_join a b hi]; omega, fun i hi => by rw [all_join a b hi]; omega⟩
theorem withN_max (l : List D2) (r q : Int) (i : Nat) : withN l r q i = if mayD r q = true ∧ r = (i : Int) then max (allV l i) q else allV l i := by
  unfold withN
  by_cases h : mayD r q = true ∧ r = (i : Int)
  · rw [if_pos h]
    by_cases h2 : allV l i < q
    · rw [if_pos ⟨h.1, h.2, h2⟩]; omega
    · rw [if_neg (fun hh => h2 hh.2.2)]; omega
  · rw [if_neg h, if_neg (fun hh => h ⟨hh.1, hh.2.1⟩)]
theorem leq_trans {a b c : List D2} (h1 : leqV a b = true) (h2 : leqV b c = true) : leqV a c = true := by
  rw [leqV_iff] at h1 h2 ⊢
  intro i hi; have := h1 i hi; have := h2 i hi; omega
end Go.Proofs.YtppmbdpfledejaaGreatDoor
namespace Go.Proofs.YtppmbdpfledejaaGreatDoor
/-- The whole pieces ahead of the last byte c, and what stands behind it. -/
def cutStep (c : UInt8) (st : List (List UInt8) × List UInt8) (b : UInt8) : List (List UInt8) × List UInt8 := if b = c then (st.1 ++ [st.2], []) else (st.1, st.2 ++ [b])
def cutS (c : UInt8) (s : List UInt8) : List (List UInt8) × List UInt8 := s.foldl (cutStep c) ([], [])
def piecesB (c : UInt8) (s : List UInt8) : List (List UInt8) := (cutS c s).1 ++ [(cutS c s).2]
theorem list_snoc {α : Type} (l : List α) (h : l ≠ []) : ∃ a b, l = a ++ [b] := ⟨l.dropLast, l.getLast h, (List.dropLast_concat_getLast h).symm⟩
theorem snoc_ind {α : Type} {P : List α → Prop} (h0 : P []) (h1 : ∀ l a, P l → P (l ++ [a])) : ∀ l, P l := by
  have : ∀ n (l : List α), l.length = n → P l := by
    intro n
    induction n with
    | zero => intro l hl; rw [List.eq_nil_of_length_eq_zero hl]; exact h0
    | succ n ih =>
      intro l hl
      obtain ⟨a, b, rfl⟩ := list_snoc l (fun h => by rw [h] at hl; simp at hl)
      exact h1 a b (ih a (by simpa using hl))
  exact fun l => this l.length l rfl
end Go.Proofs.YtppmbdpfledejaaGreatDoor
namespace Go.Proofs.YtppmbdpfledejaaGreatDoor
open Go.RowKit
theorem numL_length (n : Int) (h : -9223372036854775808 ≤ n) (h2 : n < 9223372036854775808) : (numL n).length ≤ 20 := by
  have := digs_length 19 n.natAbs (by omega) (by omega)
  unfold numL; split <;> simp <;> omega
end Go.Proofs.YtppmbdpfledejaaGreatDoor
namespace Go.Proofs.YtppmbdpfledejaaGreatDoor
open Go.RowKit
/-- Texts as the cells of a slice. -/
def textsL (ls : List (List UInt8)) : List Value := ls.map fun l => Value.string (str l)
/-- A slice value whose elements are these texts. -/
def HasTexts (w : World) (v : Value) (ls : List (List UInt8)) : Prop :=
  ∃ ao cap, v = .slice ao ls.length cap ∧ (ao = none → ls = [] ∧ cap = 0) ∧ ∀ ad, ao = some ad → ls.length ≤ cap ∧ ∀ j u, (textsL ls)[j]? = some u → w.cell? (ad.add j) = some u
theorem texts_nil (w : World) : HasTexts w (.slice none 0 0) [] := ⟨none, 0, rfl, fun _ => ⟨rfl, rfl⟩, fun _ h => by cases h⟩
theorem texts_of_own {w : World} {base : Nat} {e : TypeId} {v : Value} {ls : List (List UInt8)} (h : w.ownsRow base e 1 v ls.length (textsL ls)) : HasTexts w v ls := by
  rcases h.2 with ⟨rfl, h0⟩ | ⟨g, cap, cur, rfl, rest⟩
  · obtain rfl : ls = [] := List.eq_nil_of_length_eq_zero h0
    exact texts_nil w
  · exact ⟨some ⟨g, 0, none⟩, cap, rfl, (fun h => by cases h), fun ad had => ⟨rest.2.2.1, fun j u hu => by
      cases had; exact h.cells rfl j u hu⟩⟩
theorem texts_below {w w' : World} {v : Value} {ls : List (List UInt8)} (h : HasTexts w v ls) (hb : Below w.heap.size w w') : HasTexts w' v ls := by
  obtain ⟨ao, cap, rfl, hnil, hc⟩ := h
  refine ⟨ao, cap, rfl, hnil, fun ad had => ⟨(hc ad had).1, fun j u hu => ?_⟩⟩
  have h1 := (hc ad had).2 j u hu
  exact (World.cell?_of_block (hb.block (ad.add j).block (World.block_lt_of_cell? w _ h1))).trans h1
/-- A text of such a slice. -/
theorem texts_at {w : World} {v : Value} {ls : List (List UInt8)} (h : HasTexts w v ls) (n k : Nat) (hn : ls.length = n) (hk : k < n) (l : List UInt8) (hl : ls[k]? = some l) : ∃ ad cap, v = .slice (some ad) n cap ∧ w.cell? (ad.add k) = some (.string (str l)) := by
  obtain ⟨ao, cap, rfl, hnil, hcs⟩ := h
  subst hn
  cases ao with
  | none => obtain ⟨hl, _⟩ := hnil rfl; subst hl; simp at hk
  | some ad =>
    refine ⟨ad, cap, rfl, (hcs ad rfl).2 k _ ?_⟩
    simp only [textsL, List.getElem?_map, hl, Option.map]
theorem texts_shape {w : World} {v : Value} {ls : List (List UInt8)} (h : HasTexts w v ls) (n : Nat) (hn : ls.length = n) : ∃ ao cap, v = .slice ao n cap := by
  obtain ⟨ao, cap, rfl, -⟩ := h
  exact ⟨ao, cap, by rw [hn]⟩
end Go.Proofs.YtppmbdpfledejaaGreatDoor
namespace Go.Proofs.YtppmbdpfledejaaGreatDoor
open Go.RowKit
/-- Dots as the cells of a slice. -/
def dotsC : List D2 → List Value
  | [] => []
  | d :: t => .int .i64 d.1 :: .int .i64 d.2 :: dotsC t
theorem dotsC_append (l m : List D2) : dotsC (l ++ m) = dotsC l ++ dotsC m := by
  induction l with
  | nil => rfl
  | cons d t ih => rw [List.cons_append, dotsC, dotsC, ih]; rfl
theorem dotsC_at (l : List D2) : ∀ k d, l[k]? = some d → (dotsC l)[k * 2]? = some (.int .i64 d.1) ∧ (dotsC l)[k * 2 + 1]? = some (.int .i64 d.2) := by
  induction l with
  | nil => intro k d h; simp at h
  | cons y t ih =>
    intro k d h
    cases k with
    | zero => simp at h; subst h; exact ⟨rfl, rfl⟩
    | succ k =>
      have := ih k d (by simpa using h)
      rw [dotsC, show (k + 1) * 2 = k * 2 + 2 from by omega]
      exact this
theorem dotsC_one (l : List D2) : ∀ u ∈ dotsC l, u.oneCell' = true := by
  induction l with
  | nil => intro u h; cases h
  | cons d t ih =>
    intro u hu
    rw [dotsC] at hu
    rcases List.mem_cons.1 hu with rfl | hu
    · rfl
    · rcases List.mem_cons.1 hu with rfl | hu
      · rfl
      · exact ih u hu
/-- A slice value whose elements are these dots. -/
def HasDots (w : World) (v : Value) (l : List D2) : Prop :=
  ∃ ao cap, v = .slice ao l.length cap ∧ (ao = none → l = [] ∧ cap = 0) ∧ ∀ ad, ao = some ad → l.length ≤ cap ∧ ∀ j u, (dotsC l)[j]? = some u → w.cell? (ad.add j) = some u
theorem dots_nil (w : World) : HasDots w (.slice none 0 0) [] := ⟨none, 0, rfl, fun _ => ⟨rfl, rfl⟩, fun _ h => by cases h⟩
theorem dots_below {w w' : World} {v : Value} {l : List D2} (h : HasDots w v l) (hb : Below w.heap.size w w') : HasDots w' v l := by
  obtain ⟨ao, cap, rfl, hnil, hc⟩ := h
  refine ⟨ao, cap, rfl, hnil, fun ad had => ⟨(hc ad had).1, fun j u hu => ?_⟩⟩
  have h1 := (hc ad had).2 j u hu
  exact (World.cell?_of_block (hb.block (ad.add j).block (World.block_lt_of_cell? w _ h1))).trans h1
theorem dots_shape {w : World} {v : Value} {l : List D2} (h : HasDots w v l) (n : Nat) (hn : n = l.length) : ∃ ao cap, v = .slice ao n cap := by
  obtain ⟨ao, cap, rfl, -⟩ := h
  exact ⟨ao, cap, by rw [hn]⟩
theorem addr_next2 (ad : Addr) (k : Nat) : ad.add (k + 1) = ⟨(ad.add k).block, (ad.add k).off + 1, none⟩ := by
  unfold Addr.add
  rw [if_neg (by omega)]
  split
  · rename_i h; subst h; rfl
  · rfl
/-- A dot of such a slice. -/
theorem dots_at {w : World} {v : Value} {l : List D2} (h : HasDots w v l) (n k : Nat) (hn : l.length = n) (d : D2) (hd : l[k]? = some d) : ∃ ad cap, v = .slice (some ad) n cap ∧ w.cell? (ad.add (k * 2)) = some (.int .i64 d.1) ∧ w.cell? ⟨(ad.add (k * 2)).block, (ad.add (k * 2)).off + 1, none⟩ = some (.int .i64 d.2) := by
  obtain ⟨ao, cap, rfl, hnil, hc⟩ := h
  cases ao with
  | none => obtain ⟨rfl, _⟩ := hnil rfl; simp at hd
  | some ad =>
    obtain ⟨p1, p2⟩ := dotsC_at l k d hd
    exact ⟨ad, cap, by rw [← hn], (hc ad rfl).2 _ _ p1, by rw [← addr_next2]; exact (hc ad rfl).2 _ _ p2⟩
theorem dots_of_own {w : World} {base : Nat} {e : TypeId} {v : Value} {l : List D2} (h : w.ownsRow base e 2 v l.length (dotsC l)) : HasDots w v l := by
  rcases h.2 with ⟨rfl, h0⟩ | ⟨g, cap, cur, rfl, rest⟩
  · obtain rfl : l = [] := List.eq_nil_of_length_eq_zero h0
    exact dots_nil w
  · exact ⟨some ⟨g, 0, none⟩, cap, rfl, (fun h => by cases h), fun ad had => ⟨rest.2.2.1, fun j u hu => by
      cases had; exact h.cells rfl j u hu⟩⟩
/-- Dots in a block that holds dots alone. -/
def TypDots (w : World) (v : Value) (l : List D2) : Prop := HasDots w v l ∧ (l = [] ∨ ∃ k cs fr, v.ownBlock = some k ∧ w.heap[k]? = some (.cells cs 29 fr))
theorem typ_nil (w : World) : TypDots w (.slice none 0 0) [] := ⟨dots_nil w, .inl rfl⟩
theorem typ_of_own {w : World} {base : Nat} {v : Value} {l : List D2} (h : w.ownsRow base 29 2 v l.length (dotsC l)) : TypDots w v l := by
  refine ⟨dots_of_own h, ?_⟩
  rcases h.2 with ⟨rfl, h0⟩ | ⟨g, cap, cur, rfl, h1, h2, rest⟩
  · exact .inl (List.eq_nil_of_length_eq_zero h0)
  · exact .inr ⟨g, cur, (0, 0), rfl, h2⟩
theorem typ_below {w w' : World} {v : Value} {l : List D2} (h : TypDots w v l) (hb : Below w.heap.size w w') : TypDots w' v l := by
  refine ⟨dots_below h.1 hb, h.2.elim .inl fun ⟨k, cs, fr, h1, h2⟩ => .inr ⟨k, cs, fr, h1, ?_⟩⟩
  exact (hb.block k (Array.getElem?_eq_some_iff.1 h2).1).trans h2
theorem dots_own_nil (w : World) (e : TypeId) (base : Nat) : w.ownsRow base e 2 (.slice none 0 0) ([] : List D2).length (dotsC []) := ⟨rfl, .inl ⟨rfl, rfl⟩⟩
theorem append_dot {P : Program} {w : World} {ops : Array Oper} {rest : List Oper} {o : Oper} {a : Act} {Q : Exit → Act → World → Prop} (hgd : o.guard = none) (s x : Operand) (t : TypeId)
    (ho : o.op = .call { callee := .builtin .append, args := #[s, x], argTypes := #[t, t] })
    (base : Nat) (e : TypeId) (i : TypeInfo) (ht : P.underlying t = some (.slice e)) (hi : P.info? e = some i) (hz : (i.zero.map (·.cells.size), i.size, i.bytes) = (some 2, 2, 16))
    (v : Value) (l : List D2) (d : D2) (hs : a.eval s = v) (hown : w.ownsRow base e 2 v l.length (dotsC l)) (ad : Addr) (c : Nat) (hx : a.eval x = .slice (some ad) 1 c)
    (hc : w.cell? ad = some (.int .i64 d.1) ∧ w.cell? (ad.add 1) = some (.int .i64 d.2))
    (hlen : l.length + 1 ≤ 2000000) (hbase : base ≤ w.heap.size)
    (h : ∀ v' w', w'.ownsRow base e 2 v' (l ++ [d]).length (dotsC (l ++ [d])) → w.grownBy w' v.ownBlock → wpList P ops Q rest (a.put o.dst v') w') : wpList P ops Q (o :: rest) a w := by
  have hadd : ad.add 0 = ad := by unfold Addr.add; split <;> simp_all
  simp only [Prod.mk.injEq] at hz
  obtain ⟨hz1, hz2, hz3⟩ := hz
  cases hzz : i.zero with
  | none => rw [hzz] at hz1; cases hz1
  | some z =>
    rw [hzz] at hz1
    simp only [Option.map_some, Option.some.injEq] at hz1
    refine wpList_append_own w hgd s x t ho base e i z 2 16 ht hi hzz hz2 hz3 hz1 (by decide) v l.length (dotsC l) hs hown ad 1 c (dotsC [d]) hx rfl (fun j u hj => ?_) (fun u hu => dotsC_one [d] u hu)
      (by unfold maxLen; omega) (by omega) hbase fun v' w' h1 h2 _ => h v' w' (by rw [dotsC_append, List.length_append]; exact h1) h2
    match j, hj with
    | 0, hj => rw [hadd, hc.1]; exact hj
    | 1, hj => rw [hc.2]; exact hj
/-- An array of n numbers, each told by a function of its place. -/
def nums (n : Nat) (f : Nat → Int) : Array Value := ((List.range n).map fun i => Value.int .i64 (f i)).toArray
theorem nums_size (n : Nat) (f : Nat → Int) : (nums n f).size = n := by simp [nums]
theorem nums_get (n : Nat) (f : Nat → Int) (i : Nat) (h : i < n) : (nums n f)[i]? = some (.int .i64 (f i)) := by simp [nums, h]
theorem nums_congr (n : Nat) (f g : Nat → Int) (h : ∀ i, i < n → f i = g i) : nums n f = nums n g := by
  unfold nums; congr 1
  apply List.map_congr_left
  intro i hi
  rw [h i (by simpa using hi)]
theorem nums_set (n : Nat) (f g : Nat → Int) (i : Nat) (x : Int) (h : ∀ j, j < n → (if j = i then x else f j) = g j) : (nums n f).setIfInBounds i (.int .i64 x) = nums n g := by
  rw [← nums_congr n _ _ h]
  apply Array.ext_getElem?
  intro j
  rw [Array.getElem?_setIfInBounds, nums_size]
  by_cases hj : j < n
  · rw [nums_get _ _ _ hj]
    by_cases h : i = j
    · subst h; rw [if_pos rfl, if_pos hj, nums_get _ _ _ hj, if_pos rfl]
    · rw [if_neg h, nums_get _ _ _ hj, if_neg (Ne.symm h)]
  · have e1 : (nums n f)[j]? = none := by rw [Array.getElem?_eq_none_iff, nums_size]; omega
    have e2 : (nums n fun j => if j = i then x else f j)[j]? = none := by rw [Array.getElem?_eq_none_iff, nums_size]; omega
    rw [e1, e2]
    split
    · rw [if_neg (by omega)]
    · rfl
theorem nums_one (n : Nat) (f : Nat → Int) : (nums n f).all (·.oneCell') = true := by simp [nums, Value.oneCell']
theorem nums_cell {w : World} {g n : Nat} {t : TypeId} {f : Nat → Int} (h : w.heap[g]? = some (.cells (nums n f) t (0, 0))) (i : Nat) (hi : i < n) : w.cell? ⟨g, i, none⟩ = some (.int .i64 (f i)) := by
  rw [cell_of_row _ _ i _ _ _ h, nums_get _ _ _ hi]
/-- Two arrays as opaque values, compared by ==. -/
def numsV (n : Nat) (f : Nat → Int) : Value := .agg (nums n f)
/-- An array by value read at a place. -/
theorem index_nums {P : Program} (w : World) {t e : TypeId} {n : Nat} (f : Nat → Int) (i : Nat) (hi : i < n) (ht : P.underlying t = some (.array n e)) (he : P.underlying e = some (.int .i64)) (hc : P.cellsOf e = 1) :
    (Instr.index t (.agg (nums n f)) (.int .i64 (i : Int))).run P w = .ok (.int .i64 (f i)) w := by
  obtain ⟨inf, hinf⟩ := info_of he
  have hg := nums_get n f i hi
  have hn : (0 ≤ (i : Int) ∧ (i : Int) < (n : Int)) := by omega
  simp [Instr.index, run_underlying ht, run_underlying he, run_sizeOf w hinf, asIntOf, hn, hc, hg, hi, isAgg, go_sem]
end Go.Proofs.YtppmbdpfledejaaGreatDoor
