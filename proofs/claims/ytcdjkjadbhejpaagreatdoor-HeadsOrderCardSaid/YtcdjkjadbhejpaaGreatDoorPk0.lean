/-
Texts that all claims of this seat share, part 0: Bits, Words, Block, Sha, Mem, Held, Bytes, Cells, Text, Hexa, Path, Dot, Vec, Cut, Ref04Num, VecMore, HexaFace, Event, EventOrd, RawMap, Hist.
-/
import Derived.WalkKit
import Derived.ChangeKeysEq
import Derived.Laws.StructEq
import Derived.Deep.Draws
import Derived.Deep.QuietTactic
import Derived.Laws.CopyOwn
import Derived.Deep.RegionHeld3
import Derived.Laws.AppendOwnNone
import Derived.Deep.MidRow
import Derived.Laws.Concat
import Derived.Laws.IdiomStrings
import Derived.Laws.ResultCell
import Derived.Test.YtcdjkjadbhejpaaGreatDoorProg
import Derived.StillTailTactics
import Derived.Lib.Hide
import Derived.Deep.RegionWith
import Derived.WalkLawsBesides
import Derived.Lib.ItoaNum
import Derived.Lib.LaidTab
import Derived.Lib.Split
import Derived.Lib.IndexBytes
import Derived.Lib.IndexLaws
import Derived.Sort.Walk0
import Derived.Maps.OwnSet
import Derived.Sort.KeysCollected
namespace Go.Proofs.YtcdjkjadbhejpaaGreatDoor
open Go.RowKit
def u32 (x : BitVec 32) : Int := x.toNat
theorem u32_lo (x : BitVec 32) : 0 ≤ u32 x := by unfold u32; omega
theorem u32_hi (x : BitVec 32) : u32 x < 4294967296 := by unfold u32; have := x.isLt; omega
theorem u32_inj {x y : BitVec 32} (h : u32 x = u32 y) : x = y := by
  unfold u32 at h; exact BitVec.eq_of_toNat_eq (by omega)
theorem u32_of (a : Int) (h0 : 0 ≤ a) (h1 : a < 4294967296) : u32 (BitVec.ofInt 32 a) = a := by
  unfold u32; rw [BitVec.toNat_ofInt]; omega
@[go_sem] theorem u32_xor (x y : BitVec 32) : bits .xor .u32 (u32 x) (u32 y) = u32 (x ^^^ y) := by
  unfold u32; rw [u32_xor_nat _ _ x.isLt y.isLt, BitVec.toNat_xor]
@[go_sem] theorem u32_and' (x y : BitVec 32) : bits .and .u32 (u32 x) (u32 y) = u32 (x &&& y) := by
  unfold u32; rw [u32_and_nat _ _ x.isLt y.isLt, BitVec.toNat_and]
@[go_sem] theorem u32_or' (x y : BitVec 32) : bits .or .u32 (u32 x) (u32 y) = u32 (x ||| y) := by
  unfold u32; rw [u32_or_nat _ _ x.isLt y.isLt, BitVec.toNat_or]
@[go_sem] theorem u32_not (x : BitVec 32) : bits .xor .u32 4294967295 (u32 x) = u32 (~~~x) := by
  have h : (4294967295 : Int) = u32 (BitVec.allOnes 32) := by decide
  rw [h, u32_xor, BitVec.allOnes_xor]
@[go_sem] theorem u32_not' (x : BitVec 32) : bits .xor .u32 IntKind.u32.max (u32 x) = u32 (~~~x) := u32_not x
@[go_sem] theorem and31 (n : Int) : bits .and .u64 (IntKind.u64.wrap n) 31 = n % 32 := by
  have h := u64_and (IntKind.u64.wrap n) 31 (by rw [IntKind.wrap_u64]; omega) (by rw [IntKind.wrap_u64]; omega) (by decide) (by decide)
  rw [h, IntKind.wrap_u64, show (31 : Int).toNat = 31 from rfl, nat_mask5]
  omega
@[go_sem] theorem u32_shr (x : BitVec 32) (k : Nat) : u32 x / 2 ^ k = u32 (x >>> k) := by
  unfold u32; rw [BitVec.toNat_ushiftRight, Nat.shiftRight_eq_div_pow]; simp
@[go_sem] theorem u32_shr3 (x : BitVec 32) : u32 x / (8 : Int) = u32 (x >>> 3) := u32_shr x 3
@[go_sem] theorem u32_shr10 (x : BitVec 32) : u32 x / (1024 : Int) = u32 (x >>> 10) := u32_shr x 10
@[go_sem] theorem u32_shl (x : BitVec 32) (k : Nat) : u32 x * 2 ^ k % 4294967296 = u32 (x <<< k) := by
  unfold u32; rw [BitVec.toNat_shiftLeft, Nat.shiftLeft_eq]; simp
@[go_sem] theorem u32_beq (x y : BitVec 32) : (u32 x == u32 y) = (x == y) := by
  rw [Bool.eq_iff_iff, beq_iff_eq, beq_iff_eq]; exact ⟨u32_inj, congrArg _⟩
/-- x turned by n places to the right. -/
def rot (x : BitVec 32) (n : Int) : BitVec 32 := x >>> (n % 32).toNat ||| x <<< (32 - n % 32).toNat
@[go_sem] theorem u32_tdiv2 (x : BitVec 32) : (u32 x).tdiv (2 : Int) % (4294967296 : Int) = u32 (x >>> 1) := by
  have h0 := u32_lo x
  have h1 := u32_hi x
  rw [Int.tdiv_eq_ediv_of_nonneg h0, ← u32_shr x 1]
  omega
def ch (x y z : BitVec 32) : BitVec 32 := x &&& y ^^^ ~~~x &&& z
def maj (x y z : BitVec 32) : BitVec 32 := x &&& y ^^^ x &&& z ^^^ y &&& z
def big0 (x : BitVec 32) : BitVec 32 := rot x 2 ^^^ rot x 13 ^^^ rot x 22
def big1 (x : BitVec 32) : BitVec 32 := rot x 6 ^^^ rot x 11 ^^^ rot x 25
end Go.Proofs.YtcdjkjadbhejpaaGreatDoor
namespace Go.Proofs.YtcdjkjadbhejpaaGreatDoor
open Go.RowKit
/-- A row of n words, of kind k. -/
def row (k : IntKind) (n : Nat) (f : Nat → BitVec 32) : Array Value := ((List.range n).map fun i => Value.int k (u32 (f i))).toArray
theorem row_size (k : IntKind) (n : Nat) (f : Nat → BitVec 32) : (row k n f).size = n := by simp [row]
theorem row_get (k : IntKind) (n : Nat) (f : Nat → BitVec 32) (i : Nat) (h : i < n) : (row k n f)[i]? = some (.int k (u32 (f i))) := by
  simp [row, h]
theorem row_one (k : IntKind) (n : Nat) (f : Nat → BitVec 32) : (row k n f).all (·.oneCell') = true := by simp [row, Value.oneCell']
theorem wf_u8_bd {a : Int} (h : (Lit.int .u8 a).wf = true) : 0 ≤ a ∧ a < 256 := by
  simp [Lit.wf, IntKind.min, IntKind.max, IntKind.signed, IntKind.bits] at h; omega
/-- Whether two rows are the same. -/
def sameRow (n : Nat) (f g : Nat → BitVec 32) : Bool := (List.range n).all fun i => f i == g i
theorem sameRow_self (n : Nat) (f : Nat → BitVec 32) : sameRow n f f = true := by simp [sameRow]
theorem info_of {P : Program} {t : TypeId} {u : TypeDesc} (h : P.underlying t = some u) : ∃ inf, P.info? t = some inf := by
  cases e : P.info? t with
  | some inf => exact ⟨inf, rfl⟩
  | none => simp [Program.underlying, e] at h
theorem part_row {P : Program} (w : World) {t : TypeId} {k : IntKind} (n : Nat) (f : Nat → BitVec 32) (i : Nat) (hi : i < n) (ht : P.underlying t = some (.int k)) :
    (part t (row k n f) i).run P w = .ok (.int k (u32 (f i))) w :=
  run_part_plain w (by simp [Program.plainKey, ht]) (row_get k n f i hi)
theorem items_row {P : Program} (w : World) (d : Nat) {e : TypeId} {k : IntKind} (n : Nat) (f g : Nat → BitVec 32) (he : P.underlying e = some (.int k)) (hc : P.cellsOf e = 1) : ∀ is : List Nat, (∀ i ∈ is, i < n) →
    (Op.eqItems (d + 1) e (P.cellsOf e) (row k n f) (row k n g) is).run P w = .ok (is.all fun i => f i == g i) w
  | [], _ => by simp [Op.eqItems]
  | i :: is, h => by
    have hi := h i (by simp)
    have ih := items_row w d n f g he hc is fun j hj => h j (by simp [hj])
    rw [hc] at ih
    simp only [Op.eqItems, Sem.run_bind, hc, Nat.mul_one, part_row w n f i hi he, part_row w n g i hi he, Result.andThen_ok, run_equalIn_int w d e k k _ _ he, u32_beq]
    cases hb : f i == g i
    · simp [hb]
    · simp [hb, ih]
/-- Two rows compared by ==. -/
theorem eql_row {P : Program} (w : World) {t e : TypeId} {k : IntKind} {n : Nat} (f g : Nat → BitVec 32) (ht : P.underlying t = some (.array n e)) (he : P.underlying e = some (.int k)) (hc : P.cellsOf e = 1) :
    (binOp .eql t (.agg (row k n f)) (.agg (row k n g))).run P w = .ok (.bool (sameRow n f g)) w := by
  obtain ⟨inf, hinf⟩ := info_of he
  rw [run_eql_struct, run_equalIn_array w 9999 _ _ ht hinf, items_row w 9998 n f g he hc (List.range n) (by simp)]
  rfl
end Go.Proofs.YtcdjkjadbhejpaaGreatDoor
namespace Go.Proofs.YtcdjkjadbhejpaaGreatDoor
open Go.RowKit
@[go_sem] theorem u32_add (x y : BitVec 32) : (u32 x + u32 y) % 4294967296 = u32 (x + y) := by
  unfold u32; rw [BitVec.toNat_add]; omega
@[go_sem] theorem u32_sub (x y : BitVec 32) : (u32 x - u32 y) % 4294967296 = u32 (x - y) := by
  unfold u32; rw [BitVec.toNat_sub]; have := x.isLt; have := y.isLt; omega
@[go_sem] theorem u32_wrap (x : BitVec 32) : IntKind.u32.wrap (u32 x) = u32 x := by
  have h0 := u32_lo x
  have h1 := u32_hi x
  rw [IntKind.wrap_u32]; omega
@[go_sem] theorem u32_shl24 (x : BitVec 32) : u32 x * (16777216 : Int) % (4294967296 : Int) = u32 (x <<< 24) := u32_shl x 24
@[go_sem] theorem u32_shl16 (x : BitVec 32) : u32 x * (65536 : Int) % (4294967296 : Int) = u32 (x <<< 16) := u32_shl x 16
@[go_sem] theorem u32_shl8 (x : BitVec 32) : u32 x * (256 : Int) % (4294967296 : Int) = u32 (x <<< 8) := u32_shl x 8
@[go_sem] theorem u32_mul256 (x : BitVec 32) : (256 : Int) * u32 x % (4294967296 : Int) = u32 (x <<< 8) := by rw [Int.mul_comm]; exact u32_shl8 x
@[go_sem] theorem wrap_shl24 (x : BitVec 32) : IntKind.u32.wrap (u32 x * 16777216) = u32 (x <<< 24) := by rw [IntKind.wrap_u32, u32_shl24]
@[go_sem] theorem wrap_shl16 (x : BitVec 32) : IntKind.u32.wrap (u32 x * 65536) = u32 (x <<< 16) := by rw [IntKind.wrap_u32, u32_shl16]
@[go_sem] theorem wrap_shl8 (x : BitVec 32) : IntKind.u32.wrap (u32 x * 256) = u32 (x <<< 8) := by rw [IntKind.wrap_u32, u32_shl8]
@[go_sem] theorem wrap_mul256 (x : BitVec 32) : IntKind.u32.wrap (256 * u32 x) = u32 (x <<< 8) := by rw [IntKind.wrap_u32, u32_mul256]
@[go_sem] theorem wrap_add (x y : BitVec 32) : IntKind.u32.wrap (u32 x + u32 y) = u32 (x + y) := by rw [IntKind.wrap_u32, u32_add]
@[go_sem] theorem wrap_sub (x y : BitVec 32) : IntKind.u32.wrap (u32 x - u32 y) = u32 (x - y) := by rw [IntKind.wrap_u32, u32_sub]
/-- The word of four bytes, the highest first. -/
def word (a b c d : BitVec 32) : BitVec 32 := a <<< 24 ||| b <<< 16 ||| c <<< 8 ||| d
/-- The word of bytes, as they are put behind one another. -/
def grown (f : Nat → BitVec 32) (t : Nat) : Nat → BitVec 32
  | 0 => 0#32
  | i + 1 => grown f t i <<< 8 + f (4 * t + i)
attribute [irreducible] word
attribute [irreducible] grown
/-- A round. -/
def one (h : Nat → BitVec 32) (k w : BitVec 32) : BitVec 32 := h 7 + big1 (h 4) + ch (h 4) (h 5) (h 6) + k + w
def two (h : Nat → BitVec 32) : BitVec 32 := big0 (h 0) + maj (h 0) (h 1) (h 2)
end Go.Proofs.YtcdjkjadbhejpaaGreatDoor
namespace Go.Proofs.YtcdjkjadbhejpaaGreatDoor
open Go.RowKit
/-- Bytes as cells. -/
def bytesL (bs : List (BitVec 32)) : List Value := bs.map fun x => Value.int .u8 (u32 x)
theorem bytesL_get (bs : List (BitVec 32)) (i : Nat) (h : i < bs.length) : (bytesL bs)[i]? = some (.int .u8 (u32 (bs.getD i 0#32))) := by
  simp [bytesL, h]
@[go_sem] theorem u32_div256 (x : BitVec 32) : u32 x / (256 : Int) = u32 (x >>> 8) := u32_shr x 8
theorem u32_mod256 (x : BitVec 32) : u32 x % (256 : Int) = u32 (x &&& 255#32) := by
  unfold u32
  rw [BitVec.toNat_and, show (255#32).toNat = 2 ^ 8 - 1 from rfl, Nat.and_two_pow_sub_one_eq_mod]
  omega
@[go_sem] theorem u32_tdiv256 (x : BitVec 32) : (u32 x).tdiv (256 : Int) % (4294967296 : Int) = u32 (x >>> 8) := by
  have h0 := u32_lo x
  have h1 := u32_hi x
  rw [Int.tdiv_eq_ediv_of_nonneg h0, ← u32_div256]
  omega
@[go_sem] theorem u32_tmod256 (x : BitVec 32) : (u32 x).tmod (256 : Int) % (256 : Int) = u32 (x &&& 255#32) := by
  rw [Int.tmod_eq_emod_of_nonneg (u32_lo x), ← u32_mod256]
  omega
end Go.Proofs.YtcdjkjadbhejpaaGreatDoor
namespace Go.Proofs.YtcdjkjadbhejpaaGreatDoor
open Go.RowKit
theorem heap_at_alloc (w : World) (o : Obj) (i : Nat) : (w.alloc o).heap[i]? = if i = w.heap.size then some o else w.heap[i]? := by
  show (w.heap.push o)[i]? = _
  rw [Array.getElem?_push]
theorem size_of_alloc (w : World) (o : Obj) : (w.alloc o).heap.size = w.heap.size + 1 := by
  show (w.heap.push o).size = _
  rw [Array.size_push]
theorem below_draws {B : Nat} {a w : World} (h : Below B a w) (n : Nat) : Below B a (w.drewN n) := ⟨h.os, h.tape, h.output, h.size, h.block⟩
theorem below_next {w w1 w2 : World} (h1 : Below w.heap.size w w1) (h2 : Below w1.heap.size w1 w2) : Below w.heap.size w w2 := h1.trans (h2.mono h1.size)
/-- The last block made. -/
theorem heap_last (w : World) (o : Obj) : (w.alloc o).heap[w.heap.size]? = some o := by rw [heap_at_alloc, if_pos rfl]
/-- A whole row stored in a block that was just made: the memory behind it under a name of its own, with what is known of it. -/
theorem store_new {P : Program} {ops : Array Oper} {rest : List Oper} {o : Oper} {a : Act} {w : World} {Q : Exit → Act → World → Prop} (hgd : o.guard = none) (ty : TypeId) (x y : Operand) (ho : o.op = .store ty x y) (hd : o.dst = none)
    (w0 : World) (old cells : Array Value) (t : TypeId) (hw : w = w0.alloc (.cells old t (0, 0))) (hx : a.eval x = .pointer (some ⟨w0.heap.size, 0, none⟩)) (hy : a.eval y = .agg cells)
    (hi : (P.info? ty).map (·.size) = some cells.size) (hold : old.size = cells.size) (h1 : cells.all (·.oneCell') = true)
    (h : ∀ w', w'.heap[w0.heap.size]? = some (.cells cells t (0, 0)) → Below w0.heap.size w0 w' → w0.heap.size < w'.heap.size → wpList P ops Q rest a w') : wpList P ops Q (o :: rest) a w := by
  subst hw
  have hg := heap_last w0 (.cells old t (0, 0))
  refine wpList_store_row hgd ty x y ho w0.heap.size cells hx hy t old hg hi hold h1 ?_
  rw [hd]
  exact h _ (setRow_heap _ _ _ _ _ _ hg) (below_setRow ((Below.refl _ _).alloc (Nat.le_refl _) _) (Nat.le_refl _) _) (by simp [World.setRow])
/-- Memory that has grown, old memory being as it was. -/
theorem below_grown {B : Nat} {w0 w w' : World} {row : Option Nat} (hb : Below B w0 w) (hg : w.grownBy w' row) (hB : B ≤ w.heap.size) (hrow : ∀ k, row = some k → B ≤ k) : Below B w0 w' :=
  ⟨hg.os.trans hb.os, hg.tape.trans hb.tape, hg.output.trans hb.output, Nat.le_trans hb.size hg.size,
    fun k hk => (hg.block k (Nat.lt_of_lt_of_le hk hB) (fun e => absurd (hrow k e.symm) (by omega))).trans (hb.block k hk)⟩
end Go.Proofs.YtcdjkjadbhejpaaGreatDoor
namespace Go.Proofs.YtcdjkjadbhejpaaGreatDoor
open Go.RowKit
theorem cell_same {w w' : World} {g : Nat} (h : w'.heap[g]? = w.heap[g]?) (j : Nat) : w'.cell? ⟨g, j, none⟩ = w.cell? ⟨g, j, none⟩ := by
  simp [World.cell?, h]
theorem sure_yes {P : Program} {ops : Array Oper} {S : World → Prop} {o : Oper} {v : Value} {a : Act} (hw : Region.wanted o (yielded ops a.tmps) = true) (h : ∀ w, (execOp a.eval o).run P w = .ok (.value v) w) : YieldsIf P ops S o v a := Or.inl ⟨hw, fun w _ => h w⟩
/-- An operation taken first, the slot that it writes said by its number. -/
theorem take_at {P : Program} {ops : Array Oper} {Q : Exit → Act → World → Prop} {md : Region.Mode} {S : World → Prop} {i : Nat} {oi : Oper} {v : Value} {fuel : Nat} {listed : Array Bool} {ts : Array Value} {ds : List Deferred} {w : World} (d : Nat) (hi : ops[i]? = some oi) (hd : oi.dst = some d)
    (hs : Region.noSelect ops = true) (hf : Region.free md ops listed i = true) (hr : (Region.ready md ops listed).contains i = true)
    (hQ : ∀ c a w, Q (.panic c) (a.put oi.dst v) w → Q (.panic c) a w) (hy : YieldsIf P ops S oi v { tmps := ts, defers := ds }) (hS : S w)
    (h : wpAnyH P md ops Q S fuel (listed.setIfInBounds i true) { tmps := ts.setIfInBounds d v, defers := ds } w) : wpAnyH P md ops Q S (fuel + 1) listed { tmps := ts, defers := ds } w :=
  wpAnyH_take hi hs hf hr hQ hy hS (by rw [hd]; exact h)
/-- A row as a value, under a name that no rule looks into. -/
def rowV (k : IntKind) (n : Nat) (f : Nat → BitVec 32) : Value := .agg (row k n f)
theorem eql_rowV {P : Program} {t e : TypeId} {k : IntKind} {n : Nat} (ht : P.underlying t = some (.array n e)) (he : P.underlying e = some (.int k)) (hc : P.cellsOf e = 1) (f g : Nat → BitVec 32) {b : Bool} (hb : sameRow n f g = b) :
    ∀ w, (binOp .eql t (rowV k n f) (rowV k n g)).run P w = .ok (.bool b) w := fun w => by
  rw [← hb]; exact eql_row w f g ht he hc
theorem guard_rowV {P : Program} {t : TypeId} (hm : P.eqGuardType P.depth t = false) (x y : Operand) (k : IntKind) (n : Nat) (f g : Nat → BitVec 32) :
    ∀ w, (eqGuard .eql t x y (rowV k n f) (rowV k n g)).run P w = .ok () w := fun w => run_eqGuard_agg w .eql t x y _ _ hm
end Go.Proofs.YtcdjkjadbhejpaaGreatDoor
namespace Go.Proofs.YtcdjkjadbhejpaaGreatDoor
open Go.RowKit
/-- A slice value whose elements are these bytes. -/
def HasBytes (w : World) (v : Value) (bs : List (BitVec 32)) : Prop :=
  ∃ ao cap, v = .slice ao bs.length cap ∧ (ao = none → bs = [] ∧ cap = 0) ∧ ∀ ad, ao = some ad → bs.length ≤ cap ∧ ∀ j u, (bytesL bs)[j]? = some u → w.cell? (ad.add j) = some u
/-- What is a call's own is a slice of that length. -/
theorem own_slice {w : World} {base : Nat} {e : TypeId} {size : Nat} {v : Value} {n : Nat} {xs : List Value} (h : w.ownsRow base e size v n xs) : ∃ ao cap, v = .slice ao n cap := by
  rcases h.2 with ⟨rfl, rfl⟩ | ⟨b, cap, cur, rfl, -⟩
  · exact ⟨_, _, rfl⟩
  · exact ⟨_, _, rfl⟩
/-- What a call has made stays its own while only new memory is made. -/
theorem own_below {w w' : World} {base : Nat} {e : TypeId} {size : Nat} {v : Value} {n : Nat} {xs : List Value} (h : w.ownsRow base e size v n xs) (hb : Below w.heap.size w w') : w'.ownsRow base e size v n xs := by
  refine ⟨h.1, ?_⟩
  rcases h.2 with hn | ⟨g, cap, cur, rfl, hbase, hg, rest⟩
  · exact .inl hn
  · exact .inr ⟨g, cap, cur, rfl, hbase, (hb.block g (Array.getElem?_eq_some_iff.1 hg).1).trans hg, rest⟩
theorem has_below {w w' : World} {v : Value} {bs : List (BitVec 32)} (h : HasBytes w v bs) (hb : Below w.heap.size w w') : HasBytes w' v bs := by
  obtain ⟨ao, cap, rfl, hnil, hc⟩ := h
  refine ⟨ao, cap, rfl, hnil, fun ad had => ⟨(hc ad had).1, fun j u hu => ?_⟩⟩
  have h1 := (hc ad had).2 j u hu
  exact (World.cell?_of_block (hb.block (ad.add j).block (World.block_lt_of_cell? w _ h1))).trans h1
end Go.Proofs.YtcdjkjadbhejpaaGreatDoor
namespace Go.Proofs.YtcdjkjadbhejpaaGreatDoor
open Go.RowKit
/-- Only block g has changed. -/
structure Solo (g : Nat) (w w' : World) : Prop where
  os : w'.os = w.os
  tape : w'.tape = w.tape
  output : w'.output = w.output
  size : w'.heap.size = w.heap.size
  block : ∀ k, k ≠ g → w'.heap[k]? = w.heap[k]?
theorem solo_setRow (w : World) (g : Nat) (cs : Array Value) : Solo g w (w.setRow g cs) := ⟨rfl, rfl, rfl, by simp [World.setRow], fun k hk => setRow_other w g k _ hk⟩
theorem splice_eq {α : Type} (cur : List α) (off : Nat) (cells : List α) : cur.take off ++ cells ++ cur.drop (off + cells.length) = splice cur off cells := by simp [splice]
theorem run_store_in {P : Program} (w : World) (ty : TypeId) (g off : Nat) (cur cells : List Value) (t : TypeId) (hg : w.heap[g]? = some (.cells cur.toArray t (0, 0)))
    (hi : (P.info? ty).map (·.size) = some cells.length) (hfit : off + cells.length ≤ cur.length) (h1 : ∀ v ∈ cells, v.oneCell' = true) :
    (Instr.storeAt ty (.pointer (some ⟨g, off, none⟩)) (.agg cells.toArray)).run P w = .ok () (w.setRow g (splice cur off cells).toArray) := by
  have hst := run_storeCells_at (P := P) g off t cells 0 cur.toArray w hg (by simpa using hfit) h1
  simp only [Nat.add_zero, splice_eq] at hst
  cases hq : P.info? ty with
  | none => simp [hq] at hi
  | some i =>
    have hs : cells.length = i.size := by simp [hq] at hi; omega
    simp [Instr.storeAt, Instr.sureAddr, storeVar, sizeOf, typeInfo, hq, Value.cells, hs, hst]
/-- Some cells stored in the middle of a block that is known whole: one operation. -/
theorem wp_store_in {P : Program} {o : Oper} {a : Act} {w : World} {K : Act → World → Prop} {Q : Exit → Act → World → Prop} (ty : TypeId) (x y : Operand) (ho : o.op = .store ty x y) (hd : o.dst = none)
    (g off : Nat) (cur cells : List Value) (t : TypeId) (hg : w.heap[g]? = some (.cells cur.toArray t (0, 0))) (hx : a.eval x = .pointer (some ⟨g, off, none⟩)) (hy : a.eval y = .agg cells.toArray)
    (hi : (P.info? ty).map (·.size) = some cells.length) (hfit : off + cells.length ≤ cur.length) (h1 : ∀ v ∈ cells, v.oneCell' = true)
    (h : ∀ w', w'.heap[g]? = some (.cells (splice cur off cells).toArray t (0, 0)) → Solo g w w' → K a w') : o.wp P a w K Q := by
  have hst := run_store_in (P := P) w ty g off cur cells t hg hi hfit h1
  unfold Oper.wp execOp
  simp only [ho, hx, hy, Sem.run_bind, Sem.run_pure, Result.andThen_ok, hst]
  have h' := h _ (setRow_heap w g cur.toArray (splice cur off cells).toArray t _ hg) (solo_setRow w g _)
  simpa [Oper.upon, hd, Act.put] using h'
/-- Some cells stored in the middle of a block that is known whole. -/
theorem store_in {P : Program} {ops : Array Oper} {rest : List Oper} {o : Oper} {a : Act} {w : World} {Q : Exit → Act → World → Prop} (hgd : o.guard = none) (ty : TypeId) (x y : Operand) (ho : o.op = .store ty x y) (hd : o.dst = none)
    (g off : Nat) (cur cells : List Value) (t : TypeId) (hg : w.heap[g]? = some (.cells cur.toArray t (0, 0))) (hx : a.eval x = .pointer (some ⟨g, off, none⟩)) (hy : a.eval y = .agg cells.toArray)
    (hi : (P.info? ty).map (·.size) = some cells.length) (hfit : off + cells.length ≤ cur.length) (h1 : ∀ v ∈ cells, v.oneCell' = true)
    (h : ∀ w', w'.heap[g]? = some (.cells (splice cur off cells).toArray t (0, 0)) → Solo g w w' → wpList P ops Q rest a w') : wpList P ops Q (o :: rest) a w :=
  wpList_plain hgd fun _ hK => wp_store_in ty x y ho hd g off cur cells t hg hx hy hi hfit h1 fun w' e s => hK _ _ (h w' e s)
/-- A number stored in a cell of a block that is known whole. -/
theorem store_cell {P : Program} {ops : Array Oper} {rest : List Oper} {o : Oper} {a : Act} {w : World} {Q : Exit → Act → World → Prop} (hgd : o.guard = none) (ty : TypeId) (x y : Operand) (ho : o.op = .store ty x y) (hd : o.dst = none)
    (k : IntKind) (g off : Nat) (cur : Array Value) (z : Int) (t : TypeId) (hg : w.heap[g]? = some (.cells cur t (0, 0))) (hx : a.eval x = .pointer (some ⟨g, off, none⟩)) (hy : a.eval y = .int k z) (hfit : off < cur.size)
    (hi : (P.info? ty).map (·.size) = some 1)
    (h : ∀ w', w'.heap[g]? = some (.cells (cur.setIfInBounds off (.int k z)) t (0, 0)) → Solo g w w' → wpList P ops Q rest a w') : wpList P ops Q (o :: rest) a w := by
  refine wpList_plain hgd fun K hK => ?_
  have hcell : w.cell? ⟨g, off, none⟩ = some cur[off] := by simp [World.cell?, hg, hfit]
  have hfro : w.frozen? ⟨g, off, none⟩ = false := by simp [World.frozen?, hg]
  have hadd : (⟨g, off, none⟩ : Addr).add 0 = ⟨g, off, none⟩ := by unfold Addr.add; split <;> simp_all
  have hst : (storeVar ty ⟨g, off, none⟩ (.int k z)).run P w = .ok () (w.setRow g (cur.setIfInBounds off (.int k z))) := by
    cases hq : P.info? ty with
    | none => simp [hq] at hi
    | some i =>
      have hs : i.size = 1 := by simpa [hq] using hi
      simp [storeVar, sizeOf, typeInfo, hq, Value.cells, hs, storeCells, hadd, run_store P w _ _ _ (show (Value.int k z).oneCell' = true from rfl), hcell, hfro, setCell_eq_setRow w g off cur t (0, 0) _ hg]
  unfold Oper.wp execOp
  simp only [ho, hx, hy, Instr.storeAt, Instr.sureAddr, Sem.run_bind, Sem.run_pure, Result.andThen_ok, hst]
  refine hK _ _ ?_
  rw [hd]
  exact h _ (setRow_heap w g cur _ t _ hg) (solo_setRow w g _)
/-- A whole row loaded, where the operation's guard lets it run. -/
theorem load_row_on {P : Program} {ops : Array Oper} {rest : List Oper} {o : Oper} {a : Act} {w : World} {Q : Exit → Act → World → Prop} (hw : Region.wanted o (yielded ops a.tmps) = true) (ty : TypeId) (x : Operand) (ho : o.op = .load ty x)
    (g : Nat) (hx : a.eval x = .pointer (some ⟨g, 0, none⟩)) (t : TypeId) (cs : Array Value) (fr : Nat × Nat) (d : TypeDesc) (hg : w.heap[g]? = some (.cells cs t fr))
    (hu : P.underlying ty = some d) (hd : (match d with | .struct _ | .array _ _ => true | _ => false) = true) (hi : (P.info? ty).map (·.size) = some cs.size)
    (h : wpList P ops Q rest (a.put o.dst (.agg cs)) w) : wpList P ops Q (o :: rest) a w :=
  wpList_step fun K hK => by rw [if_pos hw]; exact wp_load_row ty x ho g hx t cs fr d hg hu hd hi (hK _ _ h)
/-- A value built of parts, where the operation's guard lets it run. -/
theorem build_on {P : Program} {ops : Array Oper} {rest : List Oper} {o : Oper} {a : Act} {w : World} {Q : Exit → Act → World → Prop} (hw : Region.wanted o (yielded ops a.tmps) = true) (t : TypeId) (parts : Array (Nat × Operand)) (ho : o.op = .build t parts) (ps : List (Nat × Value)) (cs : Array Value)
    (hb : P.built t ps = some cs) (hp : (parts.map fun (i, x) => (i, a.eval x)).toList = ps) (h : wpList P ops Q rest (a.put o.dst (.agg cs)) w) : wpList P ops Q (o :: rest) a w := by
  subst hp
  refine wpList_step fun K hK => ?_
  rw [if_pos hw]
  refine wp_build t parts ho (by rw [hb]; rfl) ?_
  rw [hb]; exact hK _ _ h
/-- A block made of a type's zero value: one operation. -/
theorem wp_alloc_as {P : Program} {o : Oper} {a : Act} {w : World} {K : Act → World → Prop} {Q : Exit → Act → World → Prop} (t : TypeId) (ho : o.op = .alloc t) (cs : Array Value)
    (hz : (P.info? t).map (fun i => i.zero) = some (some (.agg cs))) (h : K (a.put o.dst (.pointer (some ⟨w.heap.size, 0, none⟩))) (w.alloc (.cells cs t (0, 0)))) : o.wp P a w K Q := by
  cases hq : P.info? t with
  | none => simp [hq] at hz
  | some i =>
    have hi : i.zero = some (.agg cs) := by simpa [hq] using hz
    unfold Oper.wp execOp
    simp only [ho]
    simp [Instr.alloc, zeroValue, typeInfo, hq, hi, newVar, newRow, Value.cells, Oper.upon]
    exact h
/-- A block made within a region, the slot said by its number. -/
theorem alloc_at {P : Program} {ops : Array Oper} {o : Oper} {ts : Array Value} {ds : List Deferred} {w : World} {K : Act → World → Prop} {Q : Exit → Act → World → Prop} {E : Prop} (d : Nat) (hd : o.dst = some d) (hw : Region.wanted o (yielded ops ts) = true) (t : TypeId) (ho : o.op = .alloc t) (cs : Array Value)
    (hz : (P.info? t).map (fun i => i.zero) = some (some (.agg cs))) (h : K { tmps := ts.setIfInBounds d (.pointer (some ⟨w.heap.size, 0, none⟩)), defers := ds } (w.alloc (.cells cs t (0, 0)))) : if Region.wanted o (yielded ops ts) = true then Oper.wp P o { tmps := ts, defers := ds } w K Q else E := by
  rw [if_pos hw]
  exact wp_alloc_as t ho cs hz (by rw [hd]; exact h)
/-- A whole row stored within a region, into a block that holds a row. -/
theorem store_at {P : Program} {ops : Array Oper} {o : Oper} {a : Act} {w : World} {K : Act → World → Prop} {Q : Exit → Act → World → Prop} {E : Prop} (hd : o.dst = none) (hw : Region.wanted o (yielded ops a.tmps) = true) (ty : TypeId) (x y : Operand) (ho : o.op = .store ty x y)
    (g : Nat) (cells : Array Value) (hx : a.eval x = .pointer (some ⟨g, 0, none⟩)) (hy : a.eval y = .agg cells) (t : TypeId) (old : Array Value) (hg : w.heap[g]? = some (.cells old t (0, 0))) (hi : (P.info? ty).map (·.size) = some cells.size)
    (hold : old.size = cells.size) (h1 : cells.all (·.oneCell') = true) (h : K a (w.setRow g cells)) : if Region.wanted o (yielded ops a.tmps) = true then Oper.wp P o a w K Q else E := by
  rw [if_pos hw]
  exact wp_store_row ty x y ho g cells hx hy t old hg hi hold h1 (by rw [hd]; exact h)
/-- A block made of a type's zero value, whatever its size. -/
theorem alloc_as {P : Program} {ops : Array Oper} {rest : List Oper} {o : Oper} {a : Act} {w : World} {Q : Exit → Act → World → Prop} (hgd : o.guard = none) (t : TypeId) (ho : o.op = .alloc t) (cs : Array Value)
    (hz : (P.info? t).map (fun i => i.zero) = some (some (.agg cs))) (h : wpList P ops Q rest (a.put o.dst (.pointer (some ⟨w.heap.size, 0, none⟩))) (w.alloc (.cells cs t (0, 0)))) : wpList P ops Q (o :: rest) a w := by
  refine wpList_plain hgd fun K hK => ?_
  cases hq : P.info? t with
  | none => simp [hq] at hz
  | some i =>
    have hi : i.zero = some (.agg cs) := by simpa [hq] using hz
    unfold Oper.wp execOp
    simp only [ho]
    simp [Instr.alloc, zeroValue, typeInfo, hq, hi, newVar, newRow, Value.cells, Oper.upon]
    exact hK _ _ h
end Go.Proofs.YtcdjkjadbhejpaaGreatDoor
namespace Go.Proofs.YtcdjkjadbhejpaaGreatDoor
open Go.RowKit
/-- A byte as a word. -/
def w8 (b : UInt8) : BitVec 32 := BitVec.ofNat 32 b.toNat
/-- A list of bytes as a string. -/
def str (l : List UInt8) : ByteArray := ⟨l.toArray⟩
theorem str_size (l : List UInt8) : (str l).size = l.length := by simp [str, ByteArray.size]
theorem str_toList (l : List UInt8) : (str l).toList = l := ByteArray.toList_mk l
theorem str_append (x y : List UInt8) : str x ++ str y = str (x ++ y) := ByteArray.mk_append_mk x y
theorem add_str {P : Program} (x y : List UInt8) (h : x.length + y.length ≤ 4611686018427387904) (w : World) : (Op.stringOp .add (str x) (str y)).run P w = .ok (.string (str (x ++ y))) w := by
  rw [run_string_add_sum w _ _ (by rw [str_size, str_size]; omega), str_append]
theorem index_str {P : Program} (w : World) {t : TypeId} (l : List UInt8) (k : IntKind) (i : Nat) (c : UInt8) (hi : l[i]? = some c) (ht : P.underlying t = some .string) :
    (Instr.index t (.string (str l)) (.int k (i : Int))).run P w = .ok (.int .u8 (c.toNat : Int)) w := by
  obtain ⟨h, rfl⟩ := List.getElem?_eq_some_iff.1 hi
  rw [run_index_string w t (str l) k i ht, dif_pos ⟨by omega, by rw [str_size]; omega⟩]
  simp [str, ByteArray.getElem_eq_getElem_data]
/-- Two texts one behind the other, as an operation. -/
theorem add_op {P : Program} {o : Oper} {a : Act} {t rt : TypeId} {x y : Operand} {l m : List UInt8} (ho : o.op = .binOp .add t x y rt) (hx : a.eval x = .string (str l)) (hy : a.eval y = .string (str m)) (hn : l.length + m.length ≤ 4611686018427387904) :
    ∀ w, (execOp a.eval o).run P w = .ok (.value (.string (str (l ++ m)))) w := fun w => by
  simp only [execOp, ho, hx, hy, Sem.run_bind, eqGuard_add, Sem.run_pure, Result.andThen_ok, binOp_string_add, add_str l m hn]
theorem bytesLess_irrefl (l : List UInt8) : Op.bytesLess l l = false := by
  induction l with
  | nil => rfl
  | cons a l ih => simp [Op.bytesLess, ih]
/-- A number loaded from a cell that is known in every world at hand. -/
theorem cell_yields {P : Program} {ops : Array Oper} {S : World → Prop} {o : Oper} {a : Act} (hw : Region.wanted o (yielded ops a.tmps) = true) (ty : TypeId) (x : Operand) (ho : o.op = .load ty x)
    (b off : Nat) (hx : a.eval x = .pointer (some ⟨b, off, none⟩)) (k : IntKind) (z : Int) (hu : P.underlying ty = some (.int k)) (hS : ∀ w, S w → w.cell? ⟨b, off, none⟩ = some (.int k z)) : YieldsIf P ops S o (.int k z) a :=
  .inl ⟨hw, fun w h => by
    have hc := hS w h
    unfold execOp
    simp [ho, hx, Instr.loadAt, Instr.sureAddr, loadVar, isAgg, run_underlying hu, hc]⟩
end Go.Proofs.YtcdjkjadbhejpaaGreatDoor
namespace Go.Proofs.YtcdjkjadbhejpaaGreatDoor
open Go.RowKit
/-- The figures of a number to the base 10. -/
def digs (m : Nat) : List UInt8 := if m < 10 then [UInt8.ofNat (48 + m)] else digs (m / 10) ++ [UInt8.ofNat (48 + m % 10)]
termination_by m
decreasing_by omega
theorem digs_lo (m : Nat) (h : m < 10) : digs m = [UInt8.ofNat (48 + m)] := by rw [digs, if_pos h]
theorem digs_hi (m : Nat) (h : 10 ≤ m) : digs m = digs (m / 10) ++ [UInt8.ofNat (48 + m % 10)] := by rw [digs, if_neg (by omega)]
def numL (n : Int) : List UInt8 := if n < 0 then 45 :: digs n.natAbs else digs n.natAbs
theorem digs_length (k : Nat) : ∀ m, m < 10 ^ k → 0 < k → (digs m).length ≤ k := by
  induction k with
  | zero => intro m _ h; omega
  | succ k ih =>
    intro m hm _
    by_cases h : m < 10
    · rw [digs_lo m h]; simp
    · rw [digs_hi m (by omega), List.length_append]
      have h1 : m / 10 < 10 ^ k := by rw [Nat.pow_succ] at hm; omega
      have h2 : 0 < k := by
        rcases Nat.eq_zero_or_pos k with rfl | h
        · simp at h1; omega
        · exact h
      have := ih (m / 10) h1 h2
      simp; omega
end Go.Proofs.YtcdjkjadbhejpaaGreatDoor
namespace Go.Proofs.YtcdjkjadbhejpaaGreatDoor
open Go.RowKit
/-- May a byte stand in a part? -/
def isLet (c : UInt8) : Bool := (decide (97 ≤ c.toNat) && decide (c.toNat ≤ 122)) || (decide (65 ≤ c.toNat) && decide (c.toNat ≤ 90)) || (decide (48 ≤ c.toNat) && decide (c.toNat ≤ 57)) || c == 45 || c == 46 || c == 95 || c == 43 || c == 126
/-- Is it a part? -/
def isPart (s : List UInt8) : Bool := s.all isLet && (decide (1 ≤ s.length) && (decide (s.length ≤ 100) && (s != [46] && s != [46, 46])))
/-- What stands between the bytes /. -/
def pieces : List UInt8 → List (List UInt8)
  | [] => [[]]
  | c :: t => if c = 47 then [] :: pieces t else match pieces t with
    | p :: ps => (c :: p) :: ps
    | [] => [[c]]
theorem pieces_ne (s : List UInt8) : pieces s ≠ [] := by
  cases s with
  | nil => simp [pieces]
  | cons c t =>
    rw [pieces]
    by_cases h : c = 47
    · rw [if_pos h]; simp
    · rw [if_neg h]; cases pieces t <;> simp
theorem pieces_end (a : List UInt8) (h : ∀ c ∈ a, c ≠ 47) : pieces a = [a] := by
  induction a with
  | nil => rfl
  | cons c t ih => rw [pieces, if_neg (h c (by simp)), ih fun c hc => h c (by simp [hc])]
theorem pieces_slash (a b : List UInt8) (h : ∀ c ∈ a, c ≠ 47) : pieces (a ++ 47 :: b) = a :: pieces b := by
  induction a with
  | nil => rw [List.nil_append, pieces, if_pos rfl]
  | cons c t ih => rw [List.cons_append, pieces, if_neg (h c (by simp)), ih fun c hc => h c (by simp [hc])]
/-- Is it parts, with / between? -/
def isParts (s : List UInt8) : Bool := (pieces s).all isPart
theorem isPart_len {s : List UInt8} (h : isPart s = true) : 1 ≤ s.length ∧ s.length ≤ 100 := by
  simp only [isPart, Bool.and_eq_true, decide_eq_true_eq] at h
  exact ⟨h.2.1, h.2.2.1⟩
def cutI (s : List UInt8) : Option Nat := (List.range s.length).find? fun i => s.getD i 0 == 47 && decide (s.length - i - 1 ≤ 100)
theorem cut_some {s : List UInt8} {i : Nat} (h : cutI s = some i) : i < s.length ∧ s.getD i 0 = 47 ∧ s.length - i - 1 ≤ 100 ∧ ∀ j, j < i → s.getD j 0 = 47 → 100 < s.length - j - 1 := by
  unfold cutI at h
  have h1 := List.find?_some h
  have h2 := List.mem_of_find?_eq_some h
  simp only [Bool.and_eq_true, beq_iff_eq, decide_eq_true_eq] at h1
  refine ⟨by simpa using h2, h1.1, h1.2, fun j hj hs => ?_⟩
  obtain ⟨-, as1, bs, hab, hn⟩ := List.find?_eq_some_iff_append.1 h
  have hlen : as1.length = i := by
    have e1 := congrArg (·[as1.length]?) hab
    simp only [List.getElem?_append_right (Nat.le_refl _), Nat.sub_self, List.getElem?_cons_zero] at e1
    rw [List.getElem?_range (by
      rcases Nat.lt_or_ge as1.length s.length with h | h
      · exact h
      · have := congrArg List.length hab; simp at this; omega)] at e1
    exact Option.some.inj e1
  have hm : j ∈ as1 := by
    have e1 := congrArg (·[j]?) hab
    simp only [List.getElem?_append_left (show j < as1.length by omega)] at e1
    rw [List.getElem?_range (by have := (show i < s.length by simpa using h2); omega)] at e1
    exact List.mem_of_getElem? e1.symm
  have := hn j hm
  simp only [Bool.not_eq_true', Bool.and_eq_false_iff, beq_eq_false_iff_ne, decide_eq_false_iff_not] at this
  rcases this with h | h
  · exact absurd hs h
  · omega
theorem cut_none {s : List UInt8} (h : cutI s = none) (j : Nat) (hj : j < s.length) (hs : s.getD j 0 = 47) : 100 < s.length - j - 1 := by
  unfold cutI at h
  have := List.find?_eq_none.1 h j (by simpa using hj)
  simp only [Bool.not_eq_true, Bool.and_eq_false_iff, beq_eq_false_iff_ne, decide_eq_false_iff_not] at this
  rcases this with h | h
  · exact absurd hs h
  · omega
theorem cut_of {s : List UInt8} {i : Nat} (hi : i < s.length) (hs : s.getD i 0 = 47) (h1 : s.length - i - 1 ≤ 100) (h2 : ∀ j, j < i → s.getD j 0 = 47 → 100 < s.length - j - 1) : cutI s = some i := by
  cases h : cutI s with
  | none => have := cut_none h i hi hs; omega
  | some k =>
    obtain ⟨k1, k2, k3, k4⟩ := cut_some h
    rcases Nat.lt_trichotomy i k with hlt | rfl | hlt
    · have := k4 i hlt hs; omega
    · rfl
    · have := h2 k hlt k2; omega
theorem cut_no {s : List UInt8} (h2 : ∀ j, j < s.length → s.getD j 0 = 47 → 100 < s.length - j - 1) : cutI s = none := by
  cases h : cutI s with
  | none => rfl
  | some k =>
    obtain ⟨k1, k2, k3, k4⟩ := cut_some h
    have := h2 k k1 k2; omega
/-- A path's two fields. -/
def splitR (s : List UInt8) : Option (List UInt8 × List UInt8) :=
  if isParts s = false ∨ 254 < s.length then none
  else if s.length ≤ 100 then some ([], s)
  else match cutI s with
    | some i => if 155 < i then none else some (s.take i, s.drop (i + 1))
    | none => none
def splitA (s : List UInt8) : List UInt8 := match splitR s with | some x => x.1 | none => []
def splitB (s : List UInt8) : List UInt8 := match splitR s with | some x => x.2 | none => []
def splitErr (s : List UInt8) : Int := match splitR s with | some _ => 0 | none => 9
def mayP (s : List UInt8) : Bool := (splitR s).isSome
theorem splitErr_zero (s : List UInt8) : (splitErr s == 0) = mayP s := by unfold splitErr mayP; cases splitR s <;> rfl
theorem take_slash {s : List UInt8} {i : Nat} (hi : i < s.length) (hs : s.getD i 0 = 47) : s = s.take i ++ 47 :: s.drop (i + 1) := by
  have e : s[i] = 47 := by rw [← hs]; simp [hi]
  rw [← e, ← List.drop_eq_getElem_cons hi, List.take_append_drop]
/-- Is it a user's path? -/
def tail31 : List UInt8 := [126, 51, 49, 45, 49, 48, 57, 57, 53, 49, 49, 54, 50, 55, 55, 55, 54]
def ownP (s : List UInt8) : Bool := !s.contains 126 && (mayP s && (decide (s.length ≤ 200) && mayP (s ++ tail31)))
/-- A copy's path. -/
def copyL (s : List UInt8) (r q : Int) : List UInt8 := s ++ 126 :: (numL r ++ 45 :: numL q)
theorem own_iff (s : List UInt8) : ownP s = true ↔ 126 ∉ s ∧ mayP s = true ∧ s.length ≤ 200 ∧ mayP (s ++ tail31) = true := by
  simp only [ownP, Bool.and_eq_true, Bool.not_eq_true', decide_eq_true_eq]
  rw [List.contains_eq_mem, decide_eq_false_iff_not]
end Go.Proofs.YtcdjkjadbhejpaaGreatDoor
namespace Go.Proofs.YtcdjkjadbhejpaaGreatDoor
open Go.RowKit
def cmpD (r q r' q' : Int) : Int := if r = r' ∧ q = q' then 0 else if r < r' ∨ (r = r' ∧ q < q') then -1 else 1
def mayD (r q : Int) : Bool := decide (0 ≤ r ∧ r ≤ 31 ∧ 1 ≤ q ∧ q ≤ 1099511627776)
theorem cmp_cases (r q r' q' : Int) : cmpD r q r' q' = 0 ∧ r = r' ∧ q = q' ∨ cmpD r q r' q' = -1 ∧ (r < r' ∨ r = r' ∧ q < q') ∨ cmpD r q r' q' = 1 ∧ (r' < r ∨ r = r' ∧ q' < q) := by
  unfold cmpD
  split
  · rename_i h; exact .inl ⟨rfl, h.1, h.2⟩
  · split
    · rename_i h; exact .inr (.inl ⟨rfl, h⟩)
    · rename_i h1 h2; exact .inr (.inr ⟨rfl, by omega⟩)
end Go.Proofs.YtcdjkjadbhejpaaGreatDoor
namespace Go.Proofs.YtcdjkjadbhejpaaGreatDoor
open Go.RowKit
abbrev D2 := Int × Int
def mayT (d : D2) : Bool := mayD d.1 d.2
theorem mayT_bd {d : D2} (h : mayT d = true) : 0 ≤ d.1 ∧ d.1 ≤ 31 ∧ 1 ≤ d.2 ∧ d.2 ≤ 1099511627776 := of_decide_eq_true h
/-- How many events of a replica are told. -/
def seen (i : Nat) (m : Int) (d : D2) : Int := if mayT d = true ∧ d.1 = (i : Int) ∧ m < d.2 then d.2 else m
def allV (l : List D2) (i : Nat) : Int := l.foldl (seen i) 0
theorem allV_nil (i : Nat) : allV [] i = 0 := rfl
theorem allV_snoc (l : List D2) (d : D2) (i : Nat) : allV (l ++ [d]) i = seen i (allV l i) d := by simp [allV, List.foldl_append]
theorem allV_take {l : List D2} {k : Nat} (hk : k < l.length) (i : Nat) : allV (l.take (k + 1)) i = seen i (allV (l.take k) i) (l[k]) := by
  rw [List.take_add_one, List.getElem?_eq_getElem hk]; exact allV_snoc _ _ _
theorem fold_bd (i : Nat) (l : List D2) : ∀ m, 0 ≤ m → m ≤ 1099511627776 → 0 ≤ l.foldl (seen i) m ∧ l.foldl (seen i) m ≤ 1099511627776 := by
  induction l with
  | nil => intro m h0 h1; exact ⟨h0, h1⟩
  | cons d t ih =>
    intro m h0 h1
    rw [List.foldl_cons]
    by_cases h : mayT d = true ∧ d.1 = (i : Int) ∧ m < d.2
    · have := mayT_bd h.1
      exact ih _ (by rw [seen, if_pos h]; omega) (by rw [seen, if_pos h]; omega)
    · exact ih _ (by rw [seen, if_neg h]; exact h0) (by rw [seen, if_neg h]; exact h1)
theorem allV_bd (l : List D2) (i : Nat) : 0 ≤ allV l i ∧ allV l i ≤ 1099511627776 := fold_bd i l 0 (by omega) (by omega)
/-- The vector of how many. -/
def ofN (n : Nat → Int) : Nat → List D2
  | 0 => []
  | k + 1 => ofN n k ++ (if 0 < n k then [((k : Int), n k)] else [])
def ofV (n : Nat → Int) : List D2 := ofN n 32
theorem ofN_mem {n : Nat → Int} {k : Nat} {d : D2} (h : d ∈ ofN n k) : ∃ i, i < k ∧ d = ((i : Int), n i) ∧ 0 < n i := by
  induction k with
  | zero => cases h
  | succ k ih =>
    rw [ofN] at h
    rcases List.mem_append.1 h with h | h
    · obtain ⟨i, h1, h2⟩ := ih h; exact ⟨i, by omega, h2⟩
    · by_cases hp : 0 < n k
      · rw [if_pos hp] at h; exact ⟨k, by omega, List.mem_singleton.1 h, hp⟩
      · rw [if_neg hp] at h; cases h
theorem ofN_length (n : Nat → Int) (k : Nat) : (ofN n k).length ≤ k := by
  induction k with
  | zero => exact Nat.le_refl _
  | succ k ih => rw [ofN, List.length_append]; split <;> simp <;> omega
theorem ofN_congr {n m : Nat → Int} {k : Nat} (h : ∀ i, i < k → n i = m i) : ofN n k = ofN m k := by
  induction k with
  | zero => rfl
  | succ k ih => rw [ofN, ofN, ih (fun i hi => h i (by omega)), h k (by omega)]
/-- Numbers that may be events' numbers. -/
def Cnt (n : Nat → Int) : Prop := ∀ i, i < 32 → 0 ≤ n i ∧ n i ≤ 1099511627776
theorem allV_cnt (l : List D2) : Cnt (allV l) := fun i _ => allV_bd l i
theorem allV_ofN {n : Nat → Int} (h : Cnt n) (i : Nat) : ∀ k, k ≤ 32 → allV (ofN n k) i = if i < k then n i else 0 := by
  intro k
  induction k with
  | zero => intro _; rw [if_neg (by omega)]; rfl
  | succ k ih =>
    intro hk
    have hi := ih (by omega)
    have hc := h k (by omega)
    rw [ofN]
    by_cases hp : 0 < n k
    · rw [if_pos hp, allV_snoc, hi, seen]
      by_cases e : i = k
      · subst e
        rw [if_neg (Nat.lt_irrefl _), if_pos ⟨decide_eq_true (by simp only; omega), rfl, hp⟩, if_pos (by omega)]
      · rw [if_neg (fun hh => e (by have := hh.2.1; simp only at this; omega))]
        by_cases h1 : i < k
        · rw [if_pos h1, if_pos (by omega)]
        · rw [if_neg h1, if_neg (by omega)]
    · rw [if_neg hp, List.append_nil, hi]
      by_cases e : i = k
      · subst e
        rw [if_neg (Nat.lt_irrefl _), if_pos (by omega)]; omega
      · by_cases h1 : i < k
        · rw [if_pos h1, if_pos (by omega)]
        · rw [if_neg h1, if_neg (by omega)]
theorem allV_ofV {n : Nat → Int} (h : Cnt n) {i : Nat} (hi : i < 32) : allV (ofV n) i = n i := by
  rw [ofV, allV_ofN h i 32 (Nat.le_refl _), if_pos hi]
def vecOf (l : List D2) : List D2 := ofV (allV l)
theorem vecOf_ofV {n : Nat → Int} (h : Cnt n) : vecOf (ofV n) = ofV n := ofN_congr fun _ hi => allV_ofV h hi
/-- What package vec answers. -/
def mayV (l : List D2) : Bool := l == vecOf l
def leqV (a b : List D2) : Bool := (List.range 32).all fun i => decide (allV a i ≤ allV b i)
def getV (l : List D2) (r : Int) : Int := if r < 0 ∨ 31 < r then 0 else allV l r.toNat
def hasV (l : List D2) (r q : Int) : Bool := mayD r q && decide (q ≤ getV l r)
def withN (l : List D2) (r q : Int) (i : Nat) : Int := if mayD r q = true ∧ r = (i : Int) ∧ allV l i < q then q else allV l i
def withV (l : List D2) (r q : Int) : List D2 := ofV (withN l r q)
def joinN (a b : List D2) (i : Nat) : Int := max (allV a i) (allV b i)
def joinV (a b : List D2) : List D2 := ofV (joinN a b)
theorem leqV_iff (a b : List D2) : leqV a b = true ↔ ∀ i, i < 32 → allV a i ≤ allV b i := by
  simp [leqV, List.all_eq_true]
theorem joinN_cnt (a b : List D2) : Cnt (joinN a b) := fun i _ => by
  have h1 := allV_bd a i; have h2 := allV_bd b i; unfold joinN; omega
theorem withN_cnt (l : List D2) (r q : Int) : Cnt (withN l r q) := fun i _ => by
  have h1 := allV_bd l i
  unfold withN
  split
  · rename_i h; have := mayT_bd (d := (r, q)) h.1; simp only at this; omega
  · exact h1
theorem all_join (a b : List D2) {i : Nat} (hi : i < 32) : allV (joinV a b) i = max (allV a i) (allV b i) := allV_ofV (joinN_cnt a b) hi
theorem all_with (l : List D2) (r q : Int) {i : Nat} (hi : i < 32) : allV (withV l r q) i = withN l r q i := allV_ofV (withN_cnt l r q) hi
theorem mayV_ofV {n : Nat → Int} (h : Cnt n) : mayV (ofV n) = true := by rw [mayV, vecOf_ofV h]; simp
theorem mayV_join (a b : List D2) : mayV (joinV a b) = true := mayV_ofV (joinN_cnt a b)
theorem mayV_with (l : List D2) (r q : Int) : mayV (withV l r q) = true := mayV_ofV (withN_cnt l r q)
theorem getV_bd (l : List D2) (r : Int) : 0 ≤ getV l r ∧ getV l r ≤ 1099511627776 := by
  unfold getV; split
  · omega
  · exact allV_bd l _
/-- Lattice. -/
theorem leq_join (a b : List D2) : leqV a (joinV a b) = true ∧ leqV b (joinV a b) = true := by
  rw [leqV_iff, leqV_iff]
  exact ⟨fun i hi => by rw [all_join a b hi]; omega, fun i hi => by rw [all_join a b hi]; omega⟩
/-- Which dots are known. -/
theorem getV_in {l : List D2} {r : Int} (h0 : 0 ≤ r) (h1 : r ≤ 31) : ∃ i : Nat, i < 32 ∧ r = (i : Int) ∧ getV l r = allV l i := by
  refine ⟨r.toNat, by omega, by omega, ?_⟩
  rw [getV, if_neg (by omega)]
theorem hasV_eq (l : List D2) (r q : Int) : hasV l r q = true ↔ ∃ i : Nat, i < 32 ∧ r = (i : Int) ∧ 1 ≤ q ∧ q ≤ allV l i := by
  rw [hasV, Bool.and_eq_true, decide_eq_true_eq]
  constructor
  · rintro ⟨hm, hq⟩
    have := mayT_bd (d := (r, q)) hm
    simp only at this
    obtain ⟨i, h1, h2, h3⟩ := getV_in (l := l) this.1 this.2.1
    exact ⟨i, h1, h2, this.2.2.1, by omega⟩
  · rintro ⟨i, h1, rfl, h2, h3⟩
    have hb := allV_bd l i
    refine ⟨decide_eq_true (by omega), ?_⟩
    rw [getV, if_neg (by omega), Int.toNat_natCast]; exact h3
theorem withN_max (l : List D2) (r q : Int) (i : Nat) : withN l r q i = if mayD r q = true ∧ r = (i : Int) then max (allV l i) q else allV l i := by
  unfold withN
  by_cases h : mayD r q = true ∧ r = (i : Int)
  · rw [if_pos h]
    by_cases h2 : allV l i < q
    · rw [if_pos ⟨h.1, h.2, h2⟩]; omega
    · rw [if_neg (fun hh => h2 hh.2.2)]; omega
  · rw [if_neg h, if_neg (fun hh => h ⟨hh.1, hh.2.1⟩)]
theorem leq_trans {a b c : List D2} (h1 : leqV a b = true) (h2 : leqV b c = true) : leqV a c = true := by
  rw [leqV_iff] at h1 h2 ⊢
  intro i hi; have := h1 i hi; have := h2 i hi; omega
end Go.Proofs.YtcdjkjadbhejpaaGreatDoor
namespace Go.Proofs.YtcdjkjadbhejpaaGreatDoor
/-- The whole pieces ahead of the last byte c, and what stands behind it. -/
def cutStep (c : UInt8) (st : List (List UInt8) × List UInt8) (b : UInt8) : List (List UInt8) × List UInt8 := if b = c then (st.1 ++ [st.2], []) else (st.1, st.2 ++ [b])
def cutS (c : UInt8) (s : List UInt8) : List (List UInt8) × List UInt8 := s.foldl (cutStep c) ([], [])
def piecesB (c : UInt8) (s : List UInt8) : List (List UInt8) := (cutS c s).1 ++ [(cutS c s).2]
theorem list_snoc {α : Type} (l : List α) (h : l ≠ []) : ∃ a b, l = a ++ [b] := ⟨l.dropLast, l.getLast h, (List.dropLast_concat_getLast h).symm⟩
theorem snoc_ind {α : Type} {P : List α → Prop} (h0 : P []) (h1 : ∀ l a, P l → P (l ++ [a])) : ∀ l, P l := by
  have : ∀ n (l : List α), l.length = n → P l := by
    intro n
    induction n with
    | zero => intro l hl; rw [List.eq_nil_of_length_eq_zero hl]; exact h0
    | succ n ih =>
      intro l hl
      obtain ⟨a, b, rfl⟩ := list_snoc l (fun h => by rw [h] at hl; simp at hl)
      exact h1 a b (ih a (by simpa using hl))
  exact fun l => this l.length l rfl
end Go.Proofs.YtcdjkjadbhejpaaGreatDoor
namespace Go.Proofs.YtcdjkjadbhejpaaGreatDoor
open Go.RowKit
theorem numL_length (n : Int) (h : -9223372036854775808 ≤ n) (h2 : n < 9223372036854775808) : (numL n).length ≤ 20 := by
  have := digs_length 19 n.natAbs (by omega) (by omega)
  unfold numL; split <;> simp <;> omega
end Go.Proofs.YtcdjkjadbhejpaaGreatDoor
namespace Go.Proofs.YtcdjkjadbhejpaaGreatDoor
/-- Whether a dot may stand next behind others. -/
def fol (l : List D2) (d : D2) : Bool := mayT d && (l.isEmpty || decide ((l.getLastD (0, 0)).1 < d.1))
/-- Dots that may be, of rising replicas. -/
def Rising (l : List D2) : Prop := l.Pairwise (fun a b => a.1 < b.1) ∧ ∀ d ∈ l, mayT d = true
theorem rising_nil : Rising [] := ⟨List.Pairwise.nil, fun _ h => by cases h⟩
theorem rising_snoc (l : List D2) (d : D2) : Rising (l ++ [d]) ↔ Rising l ∧ fol l d = true := by
  unfold Rising fol
  rw [List.pairwise_append, Bool.and_eq_true, Bool.or_eq_true, decide_eq_true_eq]
  constructor
  · rintro ⟨⟨h1, -, h2⟩, h3⟩
    refine ⟨⟨h1, fun x hx => h3 x (List.mem_append.2 (.inl hx))⟩, h3 d (by simp), ?_⟩
    by_cases h : l = []
    · left; rw [h]; rfl
    · right
      obtain ⟨a, b, rfl⟩ := list_snoc l h
      rw [List.getLastD_concat]; exact h2 b (by simp) d (by simp)
  · rintro ⟨⟨h1, h2⟩, h3, h4⟩
    refine ⟨⟨h1, List.pairwise_singleton _ _, fun x hx y hy => ?_⟩, fun x hx => ?_⟩
    · rw [List.mem_singleton.1 hy]
      rcases h4 with h4 | h4
      · rw [List.isEmpty_iff.1 h4] at hx; cases hx
      · obtain ⟨a, b, rfl⟩ := list_snoc l (fun e => by rw [e] at hx; cases hx)
        rw [List.getLastD_concat] at h4
        rcases List.mem_append.1 hx with hx | hx
        · have := (List.pairwise_append.1 h1).2.2 x hx b (by simp); omega
        · rw [List.mem_singleton.1 hx]; exact h4
    · rcases List.mem_append.1 hx with hx | hx
      · exact h2 x hx
      · rw [List.mem_singleton.1 hx]; exact h3
theorem allV_none {l : List D2} {i : Nat} (h : ∀ d ∈ l, d.1 ≠ (i : Int)) : allV l i = 0 := by
  revert h
  refine snoc_ind (P := fun l => (∀ d ∈ l, d.1 ≠ (i : Int)) → allV l i = 0) (fun _ => rfl) ?_ l
  intro l a ih h
  rw [allV_snoc, ih (fun d hd => h d (List.mem_append.2 (.inl hd))), seen, if_neg (fun hh => h a (by simp) hh.2.1)]
theorem ofN_stay {n : Nat → Int} {k : Nat} : ∀ m, k ≤ m → (∀ i, k ≤ i → i < m → n i = 0) → ofN n m = ofN n k := by
  intro m
  induction m with
  | zero => intro h _; rw [show k = 0 by omega]
  | succ m ih =>
    intro h h0
    by_cases e : k = m + 1
    · rw [e]
    · rw [ofN, ih (by omega) (fun i h1 h2 => h0 i h1 (by omega)), h0 m (by omega) (by omega), if_neg (by omega), List.append_nil]
theorem rising_of {l : List D2} (h : Rising l) : ∀ N : Nat, (∀ d ∈ l, d.1 < (N : Int)) → ofN (allV l) N = l := by
  revert h
  refine snoc_ind (P := fun l => Rising l → ∀ N : Nat, (∀ d ∈ l, d.1 < (N : Int)) → ofN (allV l) N = l) ?_ ?_ l
  · intro _ N _
    exact ofN_stay (n := allV []) (k := 0) N (Nat.zero_le _) (fun i _ _ => rfl)
  · intro l d ih h N hN
    have hh := (rising_snoc l d).1 h
    have hm := mayT_bd (h.2 d (by simp))
    have hlt : ∀ x ∈ l, x.1 < d.1 := fun x hx => (List.pairwise_append.1 h.1).2.2 x hx d (by simp)
    obtain ⟨k, hk⟩ : ∃ k : Nat, d.1 = (k : Int) := ⟨d.1.toNat, by omega⟩
    have hkN : k < N := by have := hN d (by simp); omega
    have h0 : allV l k = 0 := allV_none fun x hx => by have := hlt x hx; omega
    have hbig : ∀ i, k + 1 ≤ i → i < N → allV (l ++ [d]) i = 0 := fun i h1 _ => allV_none fun x hx => by
      rcases List.mem_append.1 hx with hx | hx
      · have := hlt x hx; omega
      · rw [List.mem_singleton.1 hx]; omega
    have hd : allV (l ++ [d]) k = d.2 := by
      rw [allV_snoc, h0, seen, if_pos ⟨h.2 d (by simp), hk, by omega⟩]
    rw [ofN_stay (k := k + 1) N (by omega) hbig, ofN, hd, if_pos (by omega)]
    rw [ofN_congr (m := allV l) (fun i hi => by rw [allV_snoc, seen, if_neg (fun hh => by have := hh.2.1; omega)]), ih hh.1 k (fun x hx => by have := hlt x hx; omega), ← hk]
theorem ofN_rising {n : Nat → Int} (h : Cnt n) : ∀ k, k ≤ 32 → Rising (ofN n k) := by
  intro k
  induction k with
  | zero => intro _; exact rising_nil
  | succ k ih =>
    intro hk
    rw [ofN]
    by_cases hp : 0 < n k
    · rw [if_pos hp, rising_snoc]
      refine ⟨ih (by omega), ?_⟩
      have hc := h k (by omega)
      have hm : mayT ((k : Int), n k) = true := decide_eq_true (by simp only; omega)
      rw [fol, hm, Bool.true_and, Bool.or_eq_true, decide_eq_true_eq]
      by_cases e : ofN n k = []
      · left; rw [e]; rfl
      · right
        obtain ⟨a, b, hab⟩ := list_snoc _ e
        rw [hab, List.getLastD_concat]
        obtain ⟨i, h1, h2, -⟩ := ofN_mem (n := n) (k := k) (d := b) (by rw [hab]; simp)
        rw [h2]; simp only; omega
    · rw [if_neg hp, List.append_nil]; exact ih (by omega)
theorem mayV_rising (l : List D2) : mayV l = true ↔ Rising l := by
  rw [mayV, beq_iff_eq]
  constructor
  · intro h; rw [h]; exact ofN_rising (allV_cnt l) 32 (Nat.le_refl _)
  · intro h; exact (rising_of h 32 (fun d hd => by have := mayT_bd (h.2 d hd); omega)).symm
/-- A vector, dot by dot. -/
theorem mayV_take {l : List D2} {k : Nat} {d : D2} (hd : l[k]? = some d) : mayV (l.take (k + 1)) = (mayV (l.take k) && fol (l.take k) d) := by
  obtain ⟨h, rfl⟩ := List.getElem?_eq_some_iff.1 hd
  rw [List.take_add_one, List.getElem?_eq_getElem h, Bool.eq_iff_iff, Bool.and_eq_true, mayV_rising, mayV_rising]
  exact rising_snoc _ _
theorem mayV_ahead {l : List D2} {k : Nat} (h : mayV (l.take k) = false) : mayV l = false := by
  cases hh : mayV l with
  | false => rfl
  | true =>
    have h1 := (mayV_rising l).1 hh
    have : mayV (l.take k) = true := (mayV_rising _).2 ⟨h1.1.sublist (List.take_sublist k l), fun d hd => h1.2 d (List.mem_of_mem_take hd)⟩
    rw [h] at this; cases this
theorem mayV_nil : mayV [] = true := (mayV_rising []).2 rising_nil
theorem rising_length {l : List D2} (h : mayV l = true) : l.length ≤ 32 := by
  rw [mayV, beq_iff_eq] at h
  rw [h]; exact ofN_length _ 32
end Go.Proofs.YtcdjkjadbhejpaaGreatDoor
namespace Go.Proofs.YtcdjkjadbhejpaaGreatDoor
open Go.RowKit
/-- The table of the powers of ten, as strconv lays it. -/
def PowTab (w : World) : Prop := Lib.TabIs Tryz.prog w "internal/strconv.uint64pow10" .u64 Lib.pow10Tab
theorem gPow : Tryz.prog.globalNamed "internal/strconv.uint64pow10" = some 2 := by kernel_rfl
theorem powTab_below {w w' : World} (h : PowTab w) (hb : Below w.heap.size w w') : PowTab w' := by
  unfold PowTab Lib.TabIs World.var? at h ⊢
  rw [gPow] at h ⊢
  simp only [Option.bind_some] at h ⊢
  have hlt : 2 < w.heap.size := by
    rcases Nat.lt_or_ge 2 w.heap.size with h' | h'
    · exact h'
    · rw [Array.getElem?_eq_none h'] at h; cases h
  rw [hb.block _ hlt]
  exact h
theorem cellsByte : Tryz.prog.cellsOf 5 = 1 := by kernel_rfl
theorem digestGuard : Tryz.prog.eqGuardType Tryz.prog.depth 28 = false := by kernel_rfl
theorem slice_to {P : Program} (w : World) (t : TypeId) (l : List UInt8) (n : Nat) (hn : n ≤ l.length) (ht : P.underlying t = some .string) : (Instr.slice t (.string (str l)) none (some (.int .i64 (n : Int))) none).run P w = .ok (.string (str (l.take n))) w := by
  rw [run_slice_string_h w t (str l) ht .i64 n (by omega) (by rw [str_size]; omega)]
  have e : (str l).extract 0 (n : Int).toNat = str (l.take n) := by
    unfold str; rw [ByteArray.extract_mk]; simp
  rw [e]
end Go.Proofs.YtcdjkjadbhejpaaGreatDoor
namespace Go.Proofs.YtcdjkjadbhejpaaGreatDoor
open Go.RowKit
/-- An event: its dot, what was known, its kind, its path, the digest, the size. -/
structure Ev where
  r : Int
  q : Int
  deps : List D2
  kind : Int
  path : List UInt8
  sum : Nat → BitVec 32
  size : Int
def zeroF : Nat → BitVec 32 := fun _ => 0#32
theorem zeroF_byt (i : Nat) : u32 (zeroF i) < 256 := by unfold zeroF; decide
def noEv : Ev := ⟨0, 0, [], 0, [], zeroF, 0⟩
def mayH (e : Ev) : Bool := if e.kind = 1 then decide (0 ≤ e.size) && decide (e.size ≤ 65536) else if e.kind = 2 then decide (e.size = 0) && sameRow 32 e.sum zeroF else false
def knownE (e : Ev) : Bool := mayV e.deps && decide (getV e.deps e.r = e.q - 1)
def mayE (e : Ev) : Bool := mayD e.r e.q && (knownE e && (ownP e.path && mayH e))
/-- The k-th word of a text, by its blanks. -/
def wd (s : List UInt8) (k : Nat) : List UInt8 := (piecesB 32 s).getD k []
/-- Two events of which all fields are the same (their digests as rows). -/
def SameE (e f : Ev) : Prop := e.r = f.r ∧ e.q = f.q ∧ e.deps = f.deps ∧ e.kind = f.kind ∧ e.path = f.path ∧ sameRow 32 e.sum f.sum = true ∧ e.size = f.size
end Go.Proofs.YtcdjkjadbhejpaaGreatDoor
namespace Go.Proofs.YtcdjkjadbhejpaaGreatDoor
open Go.RowKit
theorem bl_trans : ∀ (a b c : List UInt8), Op.bytesLess a b = true → Op.bytesLess b c = true → Op.bytesLess a c = true
  | [], [], _, h, _ => by simp [Op.bytesLess] at h
  | _ :: _, [], _, h, _ => by simp [Op.bytesLess] at h
  | _, _ :: _, [], _, h => by simp [Op.bytesLess] at h
  | [], _ :: _, _ :: _, _, _ => by simp [Op.bytesLess]
  | x :: a, y :: b, z :: c, h, h' => by
    simp only [Op.bytesLess, Bool.or_eq_true, decide_eq_true_eq, Bool.and_eq_true, beq_iff_eq] at h h' ⊢
    rcases h with h | ⟨rfl, h⟩
    · rcases h' with h' | ⟨rfl, h'⟩
      · exact .inl (UInt8.lt_trans h h')
      · exact .inl h
    · rcases h' with h' | ⟨rfl, h'⟩
      · exact .inl h'
      · exact .inr ⟨rfl, bl_trans a b c h h'⟩
theorem bl_asymm {a b : List UInt8} (h : Op.bytesLess a b = true) : Op.bytesLess b a = false := by
  cases h' : Op.bytesLess b a with
  | false => rfl
  | true => have := bl_trans a b a h h'; rw [bytesLess_irrefl] at this; cases this
theorem bl_tri : ∀ (a b : List UInt8), Op.bytesLess a b = false → Op.bytesLess b a = false → a = b
  | [], [], _, _ => rfl
  | [], _ :: _, h, _ => by simp [Op.bytesLess] at h
  | _ :: _, [], _, h => by simp [Op.bytesLess] at h
  | x :: a, y :: b, h, h' => by
    simp only [Op.bytesLess, Bool.or_eq_false_iff, decide_eq_false_iff_not, Bool.and_eq_false_iff, beq_eq_false_iff_ne] at h h'
    have hxy : x = y := by
      apply UInt8.toNat_inj.1
      have h1 := h.1; have h2 := h'.1
      rw [UInt8.lt_iff_toNat_lt] at h1 h2
      omega
    subst hxy
    rw [bl_tri a b (h.2.resolve_left fun k => k rfl) (h'.2.resolve_left fun k => k rfl)]
/-- Which of two texts is ahead. -/
def cmpB (a b : List UInt8) : Int := if Op.bytesLess a b then -1 else if Op.bytesLess b a then 1 else 0
theorem cmpB_cases (a b : List UInt8) : (cmpB a b = 0 ∧ a = b) ∨ (cmpB a b = -1 ∧ Op.bytesLess a b = true ∧ a ≠ b) ∨ (cmpB a b = 1 ∧ Op.bytesLess b a = true ∧ a ≠ b) := by
  unfold cmpB
  cases h : Op.bytesLess a b with
  | true => exact .inr (.inl ⟨by simp, rfl, fun e => by rw [e, bytesLess_irrefl] at h; cases h⟩)
  | false =>
    cases h' : Op.bytesLess b a with
    | true => exact .inr (.inr ⟨by simp, rfl, fun e => by rw [e, bytesLess_irrefl] at h'; cases h'⟩)
    | false => exact .inl ⟨by simp, bl_tri a b h h'⟩
theorem cmpB_neg (a b : List UInt8) : cmpB b a = -cmpB a b := by
  unfold cmpB
  cases h : Op.bytesLess a b with
  | true => simp [bl_asymm h]
  | false => cases h' : Op.bytesLess b a <;> simp
def cmpE (e f : Ev) : Int := if cmpB e.path f.path = 0 then cmpD e.r e.q f.r f.q else cmpB e.path f.path
theorem cmpD_neg (r q r' q' : Int) : cmpD r' q' r q = -cmpD r q r' q' := by
  unfold cmpD
  by_cases h1 : r = r' <;> by_cases h2 : q = q'
  · subst h1; subst h2; simp
  all_goals
    rcases Int.lt_trichotomy r r' with h | h | h <;> rcases Int.lt_trichotomy q q' with k | k | k
    all_goals first
      | (exfalso; omega)
      | (repeat' split
         all_goals omega)
theorem cmpE_neg (e f : Ev) : cmpE f e = -cmpE e f := by
  unfold cmpE
  rw [cmpB_neg e.path f.path, cmpD_neg e.r e.q f.r f.q]
  by_cases h : cmpB e.path f.path = 0
  · rw [if_pos h, if_pos (by omega)]
  · rw [if_neg h, if_neg (by omega)]
theorem cmpE_zero (e f : Ev) : (cmpE e f = 0) ↔ (e.path = f.path ∧ e.r = f.r ∧ e.q = f.q) := by
  unfold cmpE
  rcases cmpB_cases e.path f.path with ⟨h, he⟩ | ⟨h, -, hn⟩ | ⟨h, -, hn⟩
  · rw [if_pos h]
    rcases cmp_cases e.r e.q f.r f.q with ⟨k, k1, k2⟩ | ⟨k, k1⟩ | ⟨k, k1⟩
    · rw [k]; simp [he, k1, k2]
    · rw [k]; constructor
      · intro x; omega
      · rintro ⟨-, x, y⟩; omega
    · rw [k]; constructor
      · intro x; omega
      · rintro ⟨-, x, y⟩; omega
  · rw [if_neg (by omega), h]; constructor
    · intro x; omega
    · rintro ⟨x, -⟩; exact absurd x hn
  · rw [if_neg (by omega), h]; constructor
    · intro x; omega
    · rintro ⟨x, -⟩; exact absurd x hn
theorem cmpD_trans (r q r' q' a b : Int) : (cmpD r q r' q' ≤ 0 → cmpD r' q' a b ≤ 0 → cmpD r q a b ≤ 0) ∧ (cmpD r q r' q' < 0 → cmpD r' q' a b < 0 → cmpD r q a b < 0) := by
  rcases cmp_cases r q r' q' with ⟨h, h1, h2⟩ | ⟨h, h1⟩ | ⟨h, h1⟩ <;> rcases cmp_cases r' q' a b with ⟨k, k1, k2⟩ | ⟨k, k1⟩ | ⟨k, k1⟩ <;> rcases cmp_cases r q a b with ⟨m, m1, m2⟩ | ⟨m, m1⟩ | ⟨m, m1⟩ <;> rw [h, k, m] <;> omega
theorem cmpE_trans (e f g : Ev) : (cmpE e f ≤ 0 → cmpE f g ≤ 0 → cmpE e g ≤ 0) ∧ (cmpE e f < 0 → cmpE f g < 0 → cmpE e g < 0) := by
  have hd := cmpD_trans e.r e.q f.r f.q g.r g.q
  unfold cmpE
  rcases cmpB_cases e.path f.path with ⟨h, he⟩ | ⟨h, hl, hn⟩ | ⟨h, hl, hn⟩ <;> rcases cmpB_cases f.path g.path with ⟨k, ke⟩ | ⟨k, kl, kn⟩ | ⟨k, kl, kn⟩
  · have hz : cmpB e.path g.path = 0 := by rw [he]; exact k
    rw [if_pos h, if_pos k, if_pos hz]; exact hd
  · have hz : cmpB e.path g.path = -1 := by rw [he]; exact k
    rw [if_pos h, if_neg (by omega), if_neg (by omega), k, hz]; omega
  · rw [if_neg (show ¬ cmpB f.path g.path = 0 by omega), k]; omega
  · have hz : cmpB e.path g.path = -1 := by rw [← ke]; exact h
    rw [if_neg (by omega), if_pos k, if_neg (by omega), h, hz]; omega
  · have hz : cmpB e.path g.path = -1 := by unfold cmpB; rw [if_pos (bl_trans _ _ _ hl kl)]
    rw [if_neg (show ¬ cmpB e.path g.path = 0 by omega), hz]; omega
  · rw [if_neg (show ¬ cmpB f.path g.path = 0 by omega), k]; omega
  · rw [if_neg (show ¬ cmpB e.path f.path = 0 by omega), h]; omega
  · rw [if_neg (show ¬ cmpB e.path f.path = 0 by omega), h]; omega
  · rw [if_neg (show ¬ cmpB e.path f.path = 0 by omega), h]; omega
theorem cmpE_path (e f : Ev) (h : Op.bytesLess e.path f.path = true) : cmpE e f = -1 := by
  unfold cmpE
  have : cmpB e.path f.path = -1 := by unfold cmpB; rw [if_pos h]
  rw [if_neg (by omega), this]
end Go.Proofs.YtcdjkjadbhejpaaGreatDoor
namespace Go.Proofs.YtcdjkjadbhejpaaGreatDoor
open Go.RowKit Go.Maps
/-- An element as it stands. -/
def rawR (v : Value) : Option (DataW Value × List MemPlace) := some (.held v, [])
/-- Block b is a map by text of at most n entries; what each text has. -/
def RawM (P : Program) (k : TypeId) (w : World) (b n : Nat) (m : List UInt8 → Option Value) : Prop :=
  ∃ D : DataW Value, w.ownsMap P k rawR b n D ∧ (∀ p, has D (.string p) = (m p).isSome) ∧ ∀ p v z, m p = some v → D.atKey (.string p) z = .held v
def putM (m : List UInt8 → Option Value) (p : List UInt8) (v : Value) : List UInt8 → Option Value := fun q => if q = p then some v else m q
theorem rawM_made (P : Program) (k : TypeId) (w : World) : RawM P k (w.alloc (.map #[] 0)) w.heap.size 0 fun _ => none :=
  ⟨.map [], World.ownsMap_made w _ _ _, fun p => by simp [has], fun p v z h => by cases h⟩
theorem rawM_block {P : Program} {k : TypeId} {w w' : World} {b n : Nat} {m : List UInt8 → Option Value} (h : RawM P k w b n m) (hb : w'.heap[b]? = w.heap[b]?) : RawM P k w' b n m := by
  obtain ⟨D, ⟨es, clock, h1, h2⟩, h3⟩ := h
  exact ⟨D, ⟨es, clock, hb.trans h1, h2⟩, h3⟩
theorem rawM_lt {P : Program} {k : TypeId} {w : World} {b n : Nat} {m : List UInt8 → Option Value} (h : RawM P k w b n m) : b < w.heap.size := by
  obtain ⟨D, h1, -⟩ := h; exact h1.lt
theorem rawM_is {P : Program} {k : TypeId} {w : World} {b n : Nat} {m : List UInt8 → Option Value} (h : RawM P k w b n m) : ∃ es clock, w.heap[b]? = some (.map es clock) := by
  obtain ⟨D, ⟨es, clock, h1, -⟩, -⟩ := h; exact ⟨es, clock, h1⟩
theorem str_key {P : Program} {k : TypeId} (hk : P.underlying k = some .string) (p : List UInt8) (hp : p.length ≤ maxLen) : keyOf P k (.string (str p)) = some (.string p) := by
  have h := WideMaps.keyOf_string_mk hk (s := str p) (by rw [str_size]; exact hp)
  exact h
theorem rawM_look {P : Program} {k t e : TypeId} {w : World} {b n : Nat} {m : List UInt8 → Option Value} (h : RawM P k w b n m) (hk : P.underlying k = some .string) (ht : P.underlying t = some (.map k e)) {z : Value} (hz : (zeroValue e).run P w = .ok z w) (p : List UInt8) (hp : p.length ≤ maxLen) :
    (Instr.lookup t (.map (some b)) (.string (str p)) false).run P w = .ok ((m p).getD z) w := by
  obtain ⟨D, hown, h1, h2⟩ := h
  obtain ⟨v, ps, hr, hv⟩ := hown.lookup (string_keyed hk) ht hz (show rawR z = some (.held z, []) from rfl) (str_key hk p hp)
  rw [hr]
  simp only [rawR, Option.some.injEq, Prod.mk.injEq] at hv
  cases hm : m p with
  | some u => rw [h2 p u _ hm] at hv; rw [DataW.held.inj hv.1]; rfl
  | none =>
    rw [atKey_of_not_has (by rw [h1, hm]; rfl)] at hv
    rw [DataW.held.inj hv.1]; rfl
theorem rawM_put {P : Program} {k t e : TypeId} {w : World} {b n : Nat} {m : List UInt8 → Option Value} (h : RawM P k w b n m) (hk : P.underlying k = some .string) (ht : P.underlying t = some (.map k e)) (hn : n < maxLen) (p : List UInt8) (hp : p.length ≤ maxLen) (v : Value) :
    ∃ w', (Instr.mapUpdate t (.map (some b)) (.string (str p)) v).run P w = .ok () w' ∧ RawM P k w' b (n + 1) (putM m p v) ∧ w.grownBy w' (some b) := by
  obtain ⟨D, hown, h1, h2⟩ := h
  obtain ⟨w', hr, ho, hg⟩ := hown.update (string_keyed hk) ht hn (str_key hk p hp) (show rawR v = some (.held v, []) from rfl)
  refine ⟨w', hr, ⟨_, ho, fun q => ?_, fun q u z hq => ?_⟩, hg⟩
  · unfold putM
    by_cases hqp : q = p
    · subst hqp; rw [if_pos rfl, has_put_same hown.isMap ((string_keyed hk).key (str_key hk q hp))]; rfl
    · rw [if_neg hqp, has_put_other (fun e => hqp (by injection e)), h1]
  · unfold putM at hq
    by_cases hqp : q = p
    · subst hqp
      rw [if_pos rfl] at hq
      rw [atKey_put_same hown.isMap ((string_keyed hk).key (str_key hk q hp)), Option.some.inj hq]
    · rw [if_neg hqp] at hq
      rw [atKey_put_other (fun e => hqp (by injection e)), h2 q u z hq]
/-- The texts of a map, each once. -/
theorem rawM_keys {P : Program} {k : TypeId} {w : World} {b n : Nat} {m : List UInt8 → Option Value} (h : RawM P k w b n m) (hk : P.underlying k = some .string) :
    ∃ D : DataW Value, w.ownsMap P k rawR b n D ∧ (strKeys D).Nodup ∧ (∀ p, p ∈ strKeys D ↔ (m p).isSome = true) ∧ Maps.size D ≤ n ∧ ∀ p ∈ strKeys D, p.length ≤ maxLen := by
  obtain ⟨D, hown, h1, h2⟩ := h
  refine ⟨D, hown, ?_, fun p => ?_, hown.size_le, strKeys_le hown hk⟩
  · obtain ⟨es, hD, hpw, _⟩ := hown.entries (string_keyed hk)
    obtain ⟨es', hD', hko⟩ := hown.keysOf
    obtain rfl : es = es' := by rw [hD] at hD'; simpa using hD'
    subst hD
    show (es.map fun p => strOf p.1).Nodup
    refine List.pairwise_map.2 (hpw.imp_of_mem fun {x y} hx hy hne e => hne ?_)
    obtain ⟨v, hv⟩ := hko x hx
    obtain ⟨u, hu⟩ := hko y hy
    obtain ⟨a, -, ha, -⟩ := Maps.keyOf_str hk hv
    obtain ⟨c, -, hc, -⟩ := Maps.keyOf_str hk hu
    rw [ha, hc] at e ⊢
    exact congrArg _ e
  · rw [← h1 p]
    obtain ⟨es, hD, hko⟩ := hown.keysOf
    subst hD
    rw [has_eq, List.any_eq_true]
    show p ∈ es.map (fun p => strOf p.1) ↔ _
    constructor
    · intro hp
      obtain ⟨x, hx, rfl⟩ := List.mem_map.1 hp
      obtain ⟨v, hv⟩ := hko x hx
      obtain ⟨a, -, ha, -⟩ := Maps.keyOf_str hk hv
      exact ⟨x, hx, by rw [ha]; simp [strOf, Lit.sameKey]⟩
    · rintro ⟨x, hx, hs⟩
      exact List.mem_map.2 ⟨x, hx, by rw [WideAt.sameKey_eq hs]; rfl⟩
/-- What is sorted rises, if no text stands twice. -/
theorem sorted_rises {ss : List (List UInt8)} (h : ss.Nodup) : (ss.mergeSort (fun x y => decide (x ≤ y))).Pairwise fun a b => Op.bytesLess a b = true := by
  have tr : ∀ a b c : List UInt8, leB a b = true → leB b c = true → leB a c = true := fun a b c h1 h2 => by simp only [leB, decide_eq_true_eq] at *; exact List.le_trans h1 h2
  have to : ∀ a b : List UInt8, (leB a b || leB b a) = true := fun a b => by simp only [leB, Bool.or_eq_true, decide_eq_true_eq]; exact List.le_total a b
  have h1 := List.pairwise_mergeSort tr to ss
  have h2 : (ss.mergeSort leB).Nodup := (List.mergeSort_perm ss leB).nodup_iff.2 h
  refine (h1.and h2).imp fun {a b} ⟨x, y⟩ => ?_
  have h3 : Op.bytesLess b a = false := by
    rw [Go.Proofs.bytesLess_eq]
    simp only [leB, decide_eq_true_eq] at x
    exact decide_eq_false fun h => (List.not_lt.2 x) h
  cases h4 : Op.bytesLess a b with
  | true => rfl
  | false => exact absurd (bl_tri a b h4 h3) y
theorem cell_not_map {w w' : World} {b : Nat} {es : Array MapEntry} {clock : Nat} (hm : w.heap[b]? = some (.map es clock)) (hg : w.grownBy w' (some b)) {A : Addr} {u : Value} (hc : w.cell? A = some u) : w'.cell? A = some u :=
  hg.cell hc fun e => by
    cases e
    simp [World.cell?, hm] at hc
end Go.Proofs.YtcdjkjadbhejpaaGreatDoor
namespace Go.Proofs.YtcdjkjadbhejpaaGreatDoor
open Go.RowKit
/-- What somebody does. -/
structure DeedT where
  who : Nat
  other : Nat
  path : Nat
  learns : Bool
  gone : Bool
  size : Nat
structure Hist where
  know : Nat → List D2
  out : List Ev
def pathsH : List (List UInt8) := [[97], [97, 47, 98], [99], [100]]
def sizeF (n : Nat) : Nat → BitVec 32 := fun i => if i = 0 then BitVec.ofNat 32 n else 0#32
def evH (h : Hist) (d : DeedT) : Ev :=
  ⟨(d.who % 3 : Nat), getV (h.know (d.who % 3)) (d.who % 3 : Nat) + 1, h.know (d.who % 3), if d.gone then 2 else 1, pathsH.getD (d.path % 4) [], if d.gone then zeroF else sizeF d.size, if d.gone then 0 else (d.size : Int)⟩
def putK (k : Nat → List D2) (w : Nat) (l : List D2) : Nat → List D2 := fun i => if i = w then l else k i
def stepH (h : Hist) (d : DeedT) : Hist :=
  if d.learns then ⟨putK h.know (d.who % 3) (joinV (h.know (d.who % 3)) (h.know (d.other % 3))), h.out⟩
  else ⟨putK h.know (d.who % 3) (withV (h.know (d.who % 3)) (evH h d).r (evH h d).q), h.out ++ [evH h d]⟩
def hist0 : Hist := ⟨fun _ => [], []⟩
def histN (l : List DeedT) : Hist := (l.take 40).foldl stepH hist0
theorem getV_nat (l : List D2) {a : Nat} (h : a < 32) : getV l (a : Int) = allV l a := by
  unfold getV; rw [if_neg (by omega)]; rfl
structure InvH (h : Hist) (n : Nat) : Prop where
  vec : ∀ i, i < 3 → mayV (h.know i) = true
  top : ∀ i j, i < 3 → j < 3 → allV (h.know i) j ≤ allV (h.know j) j
  cnt : ∀ i, i < 3 → allV (h.know i) i ≤ n
  evs : ∀ e ∈ h.out, mayE e = true ∧ (∀ i, u32 (e.sum i) < 256) ∧ ∃ a : Nat, a < 3 ∧ e.r = (a : Int) ∧ 1 ≤ e.q ∧ e.q ≤ allV (h.know a) a ∧ allV e.deps a = e.q - 1 ∧ ∀ j, j < 3 → allV e.deps j ≤ allV (h.know j) j
  clos : ∀ i a : Nat, i < 3 → a < 3 → ∀ e ∈ h.out, e.r = (a : Int) → e.q ≤ allV (h.know i) a → leqV e.deps (h.know i) = true
  trans : ∀ e ∈ h.out, ∀ f ∈ h.out, ∀ a : Nat, a < 3 → f.r = (a : Int) → f.q ≤ allV e.deps a → leqV f.deps e.deps = true
  rise : h.out.Pairwise fun e f => e.r = f.r → e.q < f.q
theorem inv0 : InvH hist0 0 where
  vec := fun _ _ => mayV_nil
  top := fun _ _ _ _ => by simp [hist0]
  cnt := fun _ _ => by simp [hist0, allV_nil]
  evs := fun e he => by simp [hist0] at he
  clos := fun _ _ _ _ e he => by simp [hist0] at he
  trans := fun e he => by simp [hist0] at he
  rise := List.Pairwise.nil
theorem sizeF_lt {n : Nat} (hn : n < 256) (i : Nat) : u32 (sizeF n i) < 256 := by
  unfold sizeF; split
  · unfold u32; rw [BitVec.toNat_ofNat]; omega
  · decide
theorem path_own {k : Nat} (hk : k < 4) : ownP (pathsH.getD k []) = true := by
  match k, hk with
  | 0, _ => decide +kernel
  | 1, _ => decide +kernel
  | 2, _ => decide +kernel
  | 3, _ => decide +kernel
theorem leq_refl (a : List D2) : leqV a a = true := (leqV_iff a a).2 fun _ _ => Int.le_refl _
theorem inv_learn {h : Hist} {n : Nat} (H : InvH h n) {w o : Nat} (hw : w < 3) (ho : o < 3) : InvH ⟨putK h.know w (joinV (h.know w) (h.know o)), h.out⟩ (n + 1) := by
  have hd : ∀ i j, i < 3 → j < 32 → allV (putK h.know w (joinV (h.know w) (h.know o)) i) j = if i = w then max (allV (h.know w) j) (allV (h.know o) j) else allV (h.know i) j := fun i j hi hj => by
    unfold putK; split
    · rw [all_join _ _ hj]
    · rfl
  have hdi : ∀ j, j < 3 → allV (putK h.know w (joinV (h.know w) (h.know o)) j) j = allV (h.know j) j := fun j hj => by
    rw [hd j j hj (by omega)]
    split
    · rename_i e; subst e
      have := H.top o j ho hj; omega
    · rfl
  refine ⟨fun i hi => ?_, fun i j hi hj => ?_, fun i hi => ?_, fun e he => ?_, fun i a hi ha e he hr hq => ?_, H.trans, H.rise⟩
  · show mayV (putK h.know w _ i) = true
    unfold putK; split
    · exact mayV_join _ _
    · exact H.vec i hi
  · show allV (putK h.know w _ i) j ≤ allV (putK h.know w _ j) j
    rw [hdi j hj, hd i j hi (by omega)]
    have h1 := H.top w j hw hj
    have h2 := H.top o j ho hj
    have h3 := H.top i j hi hj
    split <;> omega
  · show allV (putK h.know w _ i) i ≤ ((n + 1 : Nat) : Int)
    rw [hdi i hi]; have := H.cnt i hi; omega
  · obtain ⟨h1, h2, a, h3, h4, h5, h6, h7, h8⟩ := H.evs e he
    refine ⟨h1, h2, a, h3, h4, h5, ?_, h7, fun j hj => ?_⟩
    · show e.q ≤ allV (putK h.know w _ a) a
      rw [hdi a h3]; exact h6
    · show allV e.deps j ≤ allV (putK h.know w _ j) j
      rw [hdi j hj]; exact h8 j hj
  · have hq' : e.q ≤ allV (putK h.know w (joinV (h.know w) (h.know o)) i) a := hq
    show leqV e.deps (putK h.know w _ i) = true
    rw [hd i a hi (by omega)] at hq'
    unfold putK
    by_cases hiw : i = w
    · rw [if_pos hiw] at hq' ⊢
      rcases Int.le_total (allV (h.know w) a) (allV (h.know o) a) with hc | hc
      · exact leq_trans (H.clos o a ho ha e he hr (by omega)) (leq_join _ _).2
      · exact leq_trans (H.clos w a hw ha e he hr (by omega)) (leq_join _ _).1
    · rw [if_neg hiw] at hq' ⊢
      exact H.clos i a hi ha e he hr hq'
theorem inv_event {h : Hist} {n : Nat} (H : InvH h n) (hn : n < 1000) {w : Nat} (hw : w < 3) (e : Ev) (er : e.r = (w : Int)) (eq : e.q = allV (h.know w) w + 1) (ed : e.deps = h.know w) (ep : ownP e.path = true) (eh : mayH e = true) (es : ∀ i, u32 (e.sum i) < 256) :
    InvH ⟨putK h.know w (withV (h.know w) e.r e.q), h.out ++ [e]⟩ (n + 1) := by
  have hc := H.cnt w hw
  have hp := (allV_bd (h.know w) w).1
  have hmd : mayD e.r e.q = true := by rw [er, eq]; unfold mayD; rw [decide_eq_true_eq]; omega
  have hd : ∀ i j, i < 3 → j < 32 → allV (putK h.know w (withV (h.know w) e.r e.q) i) j = if i = w then (if j = w then e.q else allV (h.know w) j) else allV (h.know i) j := fun i j hi hj => by
    unfold putK; split
    · rw [all_with _ _ _ hj, withN_max, hmd, er]
      by_cases hjw : j = w
      · subst hjw; rw [if_pos ⟨rfl, rfl⟩, if_pos rfl]; omega
      · rw [if_neg (by omega), if_neg hjw]
    · rfl
  have hle : ∀ i j, i < 3 → j < 32 → allV (h.know i) j ≤ allV (putK h.know w (withV (h.know w) e.r e.q) i) j := fun i j hi hj => by
    rw [hd i j hi hj]
    by_cases hiw : i = w
    · subst hiw; rw [if_pos rfl]; split
      · rename_i e'; subst e'; omega
      · omega
    · rw [if_neg hiw]; omega
  have hnew : mayE e = true := by
    simp only [mayE, knownE, Bool.and_eq_true, decide_eq_true_eq]
    refine ⟨hmd, ⟨by rw [ed]; exact H.vec w hw, ?_⟩, ep, eh⟩
    rw [ed, er, eq, getV_nat _ (by omega)]; omega
  have htop : ∀ i j, i < 3 → j < 3 → allV (putK h.know w (withV (h.know w) e.r e.q) i) j ≤ allV (putK h.know w (withV (h.know w) e.r e.q) j) j := fun i j hi hj => by
    have h3 := H.top i j hi hj
    have h4 := hle j j hj (by omega)
    rw [hd i j hi (by omega)]
    by_cases hiw : i = w
    · subst hiw; rw [if_pos rfl]; split
      · rename_i e'; subst e'; rw [hd j j hj (by omega), if_pos rfl, if_pos rfl]; omega
      · omega
    · rw [if_neg hiw]; omega
  have hclos : ∀ i a : Nat, i < 3 → a < 3 → ∀ f ∈ h.out ++ [e], f.r = (a : Int) → f.q ≤ allV (putK h.know w (withV (h.know w) e.r e.q) i) a → leqV f.deps (putK h.know w (withV (h.know w) e.r e.q) i) = true := fun i a hi ha f hf hr hq => by
    rcases List.mem_append.1 hf with hf | hf
    · obtain ⟨-, -, a', h3, h4, h5, h6, h7, h8⟩ := H.evs f hf
      obtain rfl : a' = a := by omega
      have hq' : f.q ≤ allV (h.know i) a' := by
        rw [hd i a' hi (by omega)] at hq
        by_cases hiw : i = w
        · subst hiw; rw [if_pos rfl] at hq
          by_cases hjw : a' = i
          · subst hjw; exact h6
          · rwa [if_neg hjw] at hq
        · rwa [if_neg hiw] at hq
      have hl := H.clos i a' hi ha f hf hr hq'
      rw [leqV_iff] at hl ⊢
      exact fun j hj => Int.le_trans (hl j hj) (hle i j hi hj)
    · obtain rfl : f = e := by simpa using hf
      obtain rfl : w = a := by omega
      rw [hd i w hi (by omega)] at hq
      by_cases hiw : i = w
      · subst hiw
        rw [leqV_iff, ed]
        exact fun j hj => hle i j hi hj
      · rw [if_neg hiw] at hq
        have := H.top i w hi hw; omega
  refine ⟨fun i hi => ?_, htop, fun i hi => ?_, fun f hf => ?_, hclos, fun f hf g hg a ha hr hq => ?_, ?_⟩
  · show mayV (putK h.know w _ i) = true
    unfold putK; split
    · exact mayV_with _ _ _
    · exact H.vec i hi
  · show allV (putK h.know w _ i) i ≤ ((n + 1 : Nat) : Int)
    have := H.cnt i hi
    rw [hd i i hi (by omega)]
    by_cases hiw : i = w
    · subst hiw; rw [if_pos rfl, if_pos rfl]; omega
    · rw [if_neg hiw]; omega
  · rcases List.mem_append.1 hf with hf | hf
    · obtain ⟨h1, h2, a, h3, h4, h5, h6, h7, h8⟩ := H.evs f hf
      refine ⟨h1, h2, a, h3, h4, h5, Int.le_trans h6 (hle a a h3 (by omega)), h7, fun j hj => Int.le_trans (h8 j hj) (hle j j hj (by omega))⟩
    · obtain rfl : f = e := by simpa using hf
      refine ⟨hnew, es, w, hw, er, by omega, ?_, by rw [ed]; omega, fun j hj => ?_⟩
      · show f.q ≤ allV (putK h.know w _ w) w
        rw [hd w w hw (by omega), if_pos rfl, if_pos rfl]; omega
      · show allV f.deps j ≤ allV (putK h.know w _ j) j
        rw [ed]
        exact Int.le_trans (H.top w j hw hj) (hle j j hj (by omega))
  · rcases List.mem_append.1 hf with hf1 | hf1
    · rcases List.mem_append.1 hg with hg1 | hg1
      · exact H.trans f hf1 g hg1 a ha hr hq
      · obtain ⟨-, -, -, -, -, -, -, -, h8⟩ := H.evs f hf1
        obtain rfl : g = e := by simpa using hg1
        obtain rfl : w = a := by omega
        have := h8 w hw; omega
    · obtain rfl : f = e := by simpa using hf1
      rcases List.mem_append.1 hg with hg1 | hg1
      · rw [ed] at hq ⊢
        exact H.clos w a hw ha g hg1 hr hq
      · obtain rfl : g = f := by simpa using hg1
        exact leq_refl _
  · show List.Pairwise _ (h.out ++ [e])
    rw [List.pairwise_append]
    refine ⟨H.rise, List.pairwise_singleton _ _, fun f hf g hg hrr => ?_⟩
    obtain rfl : g = e := by simpa using hg
    obtain ⟨-, -, a, h3, h4, h5, h6, h7, h8⟩ := H.evs f hf
    obtain rfl : a = w := by omega
    omega
theorem evH_may (h : Hist) (d : DeedT) (hs : d.size < 256) : mayH (evH h d) = true ∧ ∀ i, u32 ((evH h d).sum i) < 256 := by
  cases hg : d.gone with
  | true => exact ⟨by simp [mayH, evH, hg, sameRow_self], fun i => by simp only [evH, hg]; exact zeroF_byt i⟩
  | false => exact ⟨by simp [mayH, evH, hg]; omega, fun i => by simp only [evH, hg]; exact sizeF_lt hs i⟩
theorem inv_step {h : Hist} {n : Nat} (H : InvH h n) (hn : n < 1000) {d : DeedT} (hs : d.size < 256) : InvH (stepH h d) (n + 1) := by
  have hw : d.who % 3 < 3 := Nat.mod_lt _ (by decide)
  unfold stepH
  split
  · exact inv_learn H hw (Nat.mod_lt _ (by decide))
  · obtain ⟨h1, h2⟩ := evH_may h d hs
    exact inv_event H hn hw (evH h d) rfl (by show getV _ _ + 1 = _; rw [getV_nat _ (by omega)]) rfl (path_own (Nat.mod_lt _ (by decide))) h1 h2
theorem inv_fold : ∀ (l : List DeedT) (h : Hist) (n : Nat), InvH h n → n + l.length ≤ 1000 → (∀ d ∈ l, d.size < 256) → InvH (l.foldl stepH h) (n + l.length)
  | [], h, n, H, _, _ => H
  | d :: t, h, n, H, hn, hs => by
    rw [List.length_cons] at hn ⊢
    have := inv_fold t (stepH h d) (n + 1) (inv_step H (by omega) (hs d (by simp))) (by omega) (fun x hx => hs x (by simp [hx]))
    rw [show n + (t.length + 1) = n + 1 + t.length by omega]
    exact this
theorem inv_hist (l : List DeedT) (hs : ∀ d ∈ l, d.size < 256) : ∃ n, InvH (histN l) n := by
  have hl : (l.take 40).length ≤ 40 := by rw [List.length_take]; omega
  exact ⟨_, inv_fold (l.take 40) hist0 0 inv0 (by omega) (fun d hd => hs d (List.mem_of_mem_take hd))⟩
/-- What the statement asks of any two events of a history. -/
theorem hist_says {h : Hist} {n : Nat} (H : InvH h n) {i k : Nat} {e f : Ev} (he : h.out[i]? = some e) (hf : h.out[k]? = some f) :
    mayE e = true ∧ hasV e.deps e.r e.q = false ∧ (hasV e.deps f.r f.q = true → hasV f.deps e.r e.q = false ∧ leqV f.deps e.deps = true) ∧ (i ≠ k → ¬ (e.r = f.r ∧ e.q = f.q)) := by
  have hme : e ∈ h.out := List.mem_of_getElem? he
  have hmf : f ∈ h.out := List.mem_of_getElem? hf
  obtain ⟨e1, -, a, e3, e4, e5, e6, e7, e8⟩ := H.evs e hme
  obtain ⟨f1, -, b, f3, f4, f5, f6, f7, f8⟩ := H.evs f hmf
  have hself : hasV e.deps e.r e.q = false := by
    cases hc : hasV e.deps e.r e.q with
    | false => rfl
    | true =>
      obtain ⟨i', h1, h2, h3, h4⟩ := (hasV_eq _ _ _).1 hc
      obtain rfl : i' = a := by omega
      omega
  refine ⟨e1, hself, fun hk => ?_, fun hik => ?_⟩
  · obtain ⟨i', h1, h2, h3, h4⟩ := (hasV_eq _ _ _).1 hk
    obtain rfl : i' = b := by omega
    have hl := H.trans e hme f hmf i' f3 f4 h4
    refine ⟨?_, hl⟩
    cases hc : hasV f.deps e.r e.q with
    | false => rfl
    | true =>
      obtain ⟨j', g1, g2, g3, g4⟩ := (hasV_eq _ _ _).1 hc
      obtain rfl : j' = a := by omega
      have := (leqV_iff _ _).1 hl j' g1
      omega
  · rintro ⟨hr, hq⟩
    have hpw := List.pairwise_iff_getElem.1 H.rise
    obtain ⟨hi, hei⟩ := List.getElem?_eq_some_iff.1 he
    obtain ⟨hk, hek⟩ := List.getElem?_eq_some_iff.1 hf
    rcases Nat.lt_or_gt_of_ne hik with hlt | hgt
    · have := hpw i k hi hk hlt (by rw [hei, hek]; exact hr)
      rw [hei, hek] at this; omega
    · have := hpw k i hk hi hgt (by rw [hei, hek]; exact hr.symm)
      rw [hei, hek] at this; omega
end Go.Proofs.YtcdjkjadbhejpaaGreatDoor
