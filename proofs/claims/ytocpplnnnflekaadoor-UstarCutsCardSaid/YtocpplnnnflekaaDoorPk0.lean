/-
Texts that all claims of this seat share, part 0: Bits, Words, Block, Sha, Mem, Held, Bytes, Cells, Text, Mark, Zeros, Octal, Path, Header.
-/
import Derived.WalkKit
import Derived.ChangeKeysEq
import Derived.Laws.StructEq
import Derived.Deep.Draws
import Derived.Deep.QuietTactic
import Derived.Laws.CopyOwn
import Derived.Deep.RegionHeld3
import Derived.Laws.AppendOwnNone
import Derived.Deep.MidRow
import Derived.Laws.Concat
import Derived.Laws.IdiomStrings
import Derived.Laws.ResultCell
import Derived.Laws.AppendOwn
import Derived.Lib.AppendStr
namespace Go.Proofs.YtocpplnnnflekaaDoor
open Go.RowKit
def u32 (x : BitVec 32) : Int := x.toNat
theorem u32_lo (x : BitVec 32) : 0 ≤ u32 x := by unfold u32; omega
theorem u32_hi (x : BitVec 32) : u32 x < 4294967296 := by unfold u32; have := x.isLt; omega
theorem u32_inj {x y : BitVec 32} (h : u32 x = u32 y) : x = y := by
  unfold u32 at h; exact BitVec.eq_of_toNat_eq (by omega)
theorem u32_of (a : Int) (h0 : 0 ≤ a) (h1 : a < 4294967296) : u32 (BitVec.ofInt 32 a) = a := by
  unfold u32; rw [BitVec.toNat_ofInt]; omega
@[go_sem] theorem u32_xor (x y : BitVec 32) : bits .xor .u32 (u32 x) (u32 y) = u32 (x ^^^ y) := by
  unfold u32; rw [u32_xor_nat _ _ x.isLt y.isLt, BitVec.toNat_xor]
@[go_sem] theorem u32_and' (x y : BitVec 32) : bits .and .u32 (u32 x) (u32 y) = u32 (x &&& y) := by
  unfold u32; rw [u32_and_nat _ _ x.isLt y.isLt, BitVec.toNat_and]
@[go_sem] theorem u32_or' (x y : BitVec 32) : bits .or .u32 (u32 x) (u32 y) = u32 (x ||| y) := by
  unfold u32; rw [u32_or_nat _ _ x.isLt y.isLt, BitVec.toNat_or]
@[go_sem] theorem u32_not (x : BitVec 32) : bits .xor .u32 4294967295 (u32 x) = u32 (~~~x) := by
  have h : (4294967295 : Int) = u32 (BitVec.allOnes 32) := by decide
  rw [h, u32_xor, BitVec.allOnes_xor]
@[go_sem] theorem u32_not' (x : BitVec 32) : bits .xor .u32 IntKind.u32.max (u32 x) = u32 (~~~x) := u32_not x
@[go_sem] theorem and31 (n : Int) : bits .and .u64 (IntKind.u64.wrap n) 31 = n % 32 := by
  have h := u64_and (IntKind.u64.wrap n) 31 (by rw [IntKind.wrap_u64]; omega) (by rw [IntKind.wrap_u64]; omega) (by decide) (by decide)
  rw [h, IntKind.wrap_u64, show (31 : Int).toNat = 31 from rfl, nat_mask5]
  omega
@[go_sem] theorem u32_shr (x : BitVec 32) (k : Nat) : u32 x / 2 ^ k = u32 (x >>> k) := by
  unfold u32; rw [BitVec.toNat_ushiftRight, Nat.shiftRight_eq_div_pow]; simp
@[go_sem] theorem u32_shr3 (x : BitVec 32) : u32 x / (8 : Int) = u32 (x >>> 3) := u32_shr x 3
@[go_sem] theorem u32_shr10 (x : BitVec 32) : u32 x / (1024 : Int) = u32 (x >>> 10) := u32_shr x 10
@[go_sem] theorem u32_shl (x : BitVec 32) (k : Nat) : u32 x * 2 ^ k % 4294967296 = u32 (x <<< k) := by
  unfold u32; rw [BitVec.toNat_shiftLeft, Nat.shiftLeft_eq]; simp
@[go_sem] theorem u32_beq (x y : BitVec 32) : (u32 x == u32 y) = (x == y) := by
  rw [Bool.eq_iff_iff, beq_iff_eq, beq_iff_eq]; exact ⟨u32_inj, congrArg _⟩
/-- x turned by n places to the right. -/
def rot (x : BitVec 32) (n : Int) : BitVec 32 := x >>> (n % 32).toNat ||| x <<< (32 - n % 32).toNat
@[go_sem] theorem u32_tdiv2 (x : BitVec 32) : (u32 x).tdiv (2 : Int) % (4294967296 : Int) = u32 (x >>> 1) := by
  have h0 := u32_lo x
  have h1 := u32_hi x
  rw [Int.tdiv_eq_ediv_of_nonneg h0, ← u32_shr x 1]
  omega
def ch (x y z : BitVec 32) : BitVec 32 := x &&& y ^^^ ~~~x &&& z
def maj (x y z : BitVec 32) : BitVec 32 := x &&& y ^^^ x &&& z ^^^ y &&& z
def big0 (x : BitVec 32) : BitVec 32 := rot x 2 ^^^ rot x 13 ^^^ rot x 22
def big1 (x : BitVec 32) : BitVec 32 := rot x 6 ^^^ rot x 11 ^^^ rot x 25
end Go.Proofs.YtocpplnnnflekaaDoor
namespace Go.Proofs.YtocpplnnnflekaaDoor
open Go.RowKit
/-- A row of n words, of kind k. -/
def row (k : IntKind) (n : Nat) (f : Nat → BitVec 32) : Array Value := ((List.range n).map fun i => Value.int k (u32 (f i))).toArray
theorem wf_u8_bd {a : Int} (h : (Lit.int .u8 a).wf = true) : 0 ≤ a ∧ a < 256 := by
  simp [Lit.wf, IntKind.min, IntKind.max, IntKind.signed, IntKind.bits] at h; omega
end Go.Proofs.YtocpplnnnflekaaDoor
namespace Go.Proofs.YtocpplnnnflekaaDoor
open Go.RowKit
@[go_sem] theorem u32_add (x y : BitVec 32) : (u32 x + u32 y) % 4294967296 = u32 (x + y) := by
  unfold u32; rw [BitVec.toNat_add]; omega
@[go_sem] theorem u32_sub (x y : BitVec 32) : (u32 x - u32 y) % 4294967296 = u32 (x - y) := by
  unfold u32; rw [BitVec.toNat_sub]; have := x.isLt; have := y.isLt; omega
@[go_sem] theorem u32_wrap (x : BitVec 32) : IntKind.u32.wrap (u32 x) = u32 x := by
  have h0 := u32_lo x
  have h1 := u32_hi x
  rw [IntKind.wrap_u32]; omega
@[go_sem] theorem u32_shl24 (x : BitVec 32) : u32 x * (16777216 : Int) % (4294967296 : Int) = u32 (x <<< 24) := u32_shl x 24
@[go_sem] theorem u32_shl16 (x : BitVec 32) : u32 x * (65536 : Int) % (4294967296 : Int) = u32 (x <<< 16) := u32_shl x 16
@[go_sem] theorem u32_shl8 (x : BitVec 32) : u32 x * (256 : Int) % (4294967296 : Int) = u32 (x <<< 8) := u32_shl x 8
@[go_sem] theorem u32_mul256 (x : BitVec 32) : (256 : Int) * u32 x % (4294967296 : Int) = u32 (x <<< 8) := by rw [Int.mul_comm]; exact u32_shl8 x
@[go_sem] theorem wrap_shl24 (x : BitVec 32) : IntKind.u32.wrap (u32 x * 16777216) = u32 (x <<< 24) := by rw [IntKind.wrap_u32, u32_shl24]
@[go_sem] theorem wrap_shl16 (x : BitVec 32) : IntKind.u32.wrap (u32 x * 65536) = u32 (x <<< 16) := by rw [IntKind.wrap_u32, u32_shl16]
@[go_sem] theorem wrap_shl8 (x : BitVec 32) : IntKind.u32.wrap (u32 x * 256) = u32 (x <<< 8) := by rw [IntKind.wrap_u32, u32_shl8]
@[go_sem] theorem wrap_mul256 (x : BitVec 32) : IntKind.u32.wrap (256 * u32 x) = u32 (x <<< 8) := by rw [IntKind.wrap_u32, u32_mul256]
@[go_sem] theorem wrap_add (x y : BitVec 32) : IntKind.u32.wrap (u32 x + u32 y) = u32 (x + y) := by rw [IntKind.wrap_u32, u32_add]
@[go_sem] theorem wrap_sub (x y : BitVec 32) : IntKind.u32.wrap (u32 x - u32 y) = u32 (x - y) := by rw [IntKind.wrap_u32, u32_sub]
/-- The word of four bytes, the highest first. -/
def word (a b c d : BitVec 32) : BitVec 32 := a <<< 24 ||| b <<< 16 ||| c <<< 8 ||| d
/-- The word of bytes, as they are put behind one another. -/
def grown (f : Nat → BitVec 32) (t : Nat) : Nat → BitVec 32
  | 0 => 0#32
  | i + 1 => grown f t i <<< 8 + f (4 * t + i)
attribute [irreducible] word
attribute [irreducible] grown
/-- A round. -/
def one (h : Nat → BitVec 32) (k w : BitVec 32) : BitVec 32 := h 7 + big1 (h 4) + ch (h 4) (h 5) (h 6) + k + w
def two (h : Nat → BitVec 32) : BitVec 32 := big0 (h 0) + maj (h 0) (h 1) (h 2)
end Go.Proofs.YtocpplnnnflekaaDoor
namespace Go.Proofs.YtocpplnnnflekaaDoor
open Go.RowKit
/-- Bytes as cells. -/
def bytesL (bs : List (BitVec 32)) : List Value := bs.map fun x => Value.int .u8 (u32 x)
theorem bytesL_length (bs : List (BitVec 32)) : (bytesL bs).length = bs.length := by simp [bytesL]
theorem bytesL_append (as bs : List (BitVec 32)) : bytesL (as ++ bs) = bytesL as ++ bytesL bs := by simp [bytesL]
theorem bytesL_get (bs : List (BitVec 32)) (i : Nat) (h : i < bs.length) : (bytesL bs)[i]? = some (.int .u8 (u32 (bs.getD i 0#32))) := by
  simp [bytesL, h]
theorem bytesL_one (bs : List (BitVec 32)) : ∀ v ∈ bytesL bs, v.oneCell' = true := by
  intro v hv
  obtain ⟨x, _, rfl⟩ := List.mem_map.1 hv
  rfl
@[go_sem] theorem u32_div256 (x : BitVec 32) : u32 x / (256 : Int) = u32 (x >>> 8) := u32_shr x 8
theorem u32_mod256 (x : BitVec 32) : u32 x % (256 : Int) = u32 (x &&& 255#32) := by
  unfold u32
  rw [BitVec.toNat_and, show (255#32).toNat = 2 ^ 8 - 1 from rfl, Nat.and_two_pow_sub_one_eq_mod]
  omega
@[go_sem] theorem u32_tdiv256 (x : BitVec 32) : (u32 x).tdiv (256 : Int) % (4294967296 : Int) = u32 (x >>> 8) := by
  have h0 := u32_lo x
  have h1 := u32_hi x
  rw [Int.tdiv_eq_ediv_of_nonneg h0, ← u32_div256]
  omega
@[go_sem] theorem u32_tmod256 (x : BitVec 32) : (u32 x).tmod (256 : Int) % (256 : Int) = u32 (x &&& 255#32) := by
  rw [Int.tmod_eq_emod_of_nonneg (u32_lo x), ← u32_mod256]
  omega
end Go.Proofs.YtocpplnnnflekaaDoor
namespace Go.Proofs.YtocpplnnnflekaaDoor
open Go.RowKit
theorem heap_at_alloc (w : World) (o : Obj) (i : Nat) : (w.alloc o).heap[i]? = if i = w.heap.size then some o else w.heap[i]? := by
  show (w.heap.push o)[i]? = _
  rw [Array.getElem?_push]
theorem below_draws {B : Nat} {a w : World} (h : Below B a w) (n : Nat) : Below B a (w.drewN n) := ⟨h.os, h.tape, h.output, h.size, h.block⟩
theorem below_next {w w1 w2 : World} (h1 : Below w.heap.size w w1) (h2 : Below w1.heap.size w1 w2) : Below w.heap.size w w2 := h1.trans (h2.mono h1.size)
/-- The last block made. -/
theorem heap_last (w : World) (o : Obj) : (w.alloc o).heap[w.heap.size]? = some o := by rw [heap_at_alloc, if_pos rfl]
/-- Memory that has grown, old memory being as it was. -/
theorem below_grown {B : Nat} {w0 w w' : World} {row : Option Nat} (hb : Below B w0 w) (hg : w.grownBy w' row) (hB : B ≤ w.heap.size) (hrow : ∀ k, row = some k → B ≤ k) : Below B w0 w' :=
  ⟨hg.os.trans hb.os, hg.tape.trans hb.tape, hg.output.trans hb.output, Nat.le_trans hb.size hg.size,
    fun k hk => (hg.block k (Nat.lt_of_lt_of_le hk hB) (fun e => absurd (hrow k e.symm) (by omega))).trans (hb.block k hk)⟩
end Go.Proofs.YtocpplnnnflekaaDoor
namespace Go.Proofs.YtocpplnnnflekaaDoor
open Go.RowKit
theorem cell_same {w w' : World} {g : Nat} (h : w'.heap[g]? = w.heap[g]?) (j : Nat) : w'.cell? ⟨g, j, none⟩ = w.cell? ⟨g, j, none⟩ := by
  simp [World.cell?, h]
theorem sure_yes {P : Program} {ops : Array Oper} {S : World → Prop} {o : Oper} {v : Value} {a : Act} (hw : Region.wanted o (yielded ops a.tmps) = true) (h : ∀ w, (execOp a.eval o).run P w = .ok (.value v) w) : YieldsIf P ops S o v a := Or.inl ⟨hw, fun w _ => h w⟩
/-- An operation taken first, the slot that it writes said by its number. -/
theorem take_at {P : Program} {ops : Array Oper} {Q : Exit → Act → World → Prop} {md : Region.Mode} {S : World → Prop} {i : Nat} {oi : Oper} {v : Value} {fuel : Nat} {listed : Array Bool} {ts : Array Value} {ds : List Deferred} {w : World} (d : Nat) (hi : ops[i]? = some oi) (hd : oi.dst = some d)
    (hs : Region.noSelect ops = true) (hf : Region.free md ops listed i = true) (hr : (Region.ready md ops listed).contains i = true)
    (hQ : ∀ c a w, Q (.panic c) (a.put oi.dst v) w → Q (.panic c) a w) (hy : YieldsIf P ops S oi v { tmps := ts, defers := ds }) (hS : S w)
    (h : wpAnyH P md ops Q S fuel (listed.setIfInBounds i true) { tmps := ts.setIfInBounds d v, defers := ds } w) : wpAnyH P md ops Q S (fuel + 1) listed { tmps := ts, defers := ds } w :=
  wpAnyH_take hi hs hf hr hQ hy hS (by rw [hd]; exact h)
end Go.Proofs.YtocpplnnnflekaaDoor
namespace Go.Proofs.YtocpplnnnflekaaDoor
open Go.RowKit
/-- A slice value whose elements are these bytes. -/
def HasBytes (w : World) (v : Value) (bs : List (BitVec 32)) : Prop :=
  ∃ ao cap, v = .slice ao bs.length cap ∧ (ao = none → bs = [] ∧ cap = 0) ∧ ∀ ad, ao = some ad → bs.length ≤ cap ∧ ∀ j u, (bytesL bs)[j]? = some u → w.cell? (ad.add j) = some u
/-- What owns bytes has them. -/
theorem has_of_own {w : World} {base : Nat} {e : TypeId} {v : Value} {bs : List (BitVec 32)} (h : w.ownsRow base e 1 v bs.length (bytesL bs)) : HasBytes w v bs := by
  rcases h.2 with ⟨rfl, h0⟩ | ⟨g, cap, cur, rfl, rest⟩
  · obtain rfl : bs = [] := List.eq_nil_of_length_eq_zero h0
    exact ⟨none, 0, rfl, fun _ => ⟨rfl, rfl⟩, fun _ h => by cases h⟩
  · exact ⟨some ⟨g, 0, none⟩, cap, rfl, (fun h => by cases h), fun ad had => ⟨rest.2.2.1, fun j u hu => by
      cases had; exact h.cells rfl j u hu⟩⟩
theorem own_block {w : World} {base : Nat} {e : TypeId} {size : Nat} {v : Value} {n : Nat} {xs : List Value} (h : w.ownsRow base e size v n xs) (hv : v ≠ .slice none 0 0) :
    ∃ g cap cur, v = .slice (some ⟨g, 0, none⟩) n cap ∧ base ≤ g ∧ w.heap[g]? = some (.cells cur e (0, 0)) ∧ n ≤ cap ∧ cap ≤ maxLen ∧ cur.size = cap * size ∧ cur.toList.take (n * size) = xs := by
  rcases h.2 with ⟨hn, _⟩ | ⟨g, cap, cur, rest⟩
  · exact absurd hn hv
  · exact ⟨g, cap, cur, rest⟩
/-- What is a call's own is a slice of that length. -/
theorem own_slice {w : World} {base : Nat} {e : TypeId} {size : Nat} {v : Value} {n : Nat} {xs : List Value} (h : w.ownsRow base e size v n xs) : ∃ ao cap, v = .slice ao n cap := by
  rcases h.2 with ⟨rfl, rfl⟩ | ⟨b, cap, cur, rfl, -⟩
  · exact ⟨_, _, rfl⟩
  · exact ⟨_, _, rfl⟩
/-- What a call has made stays its own while only new memory is made. -/
theorem own_below {w w' : World} {base : Nat} {e : TypeId} {size : Nat} {v : Value} {n : Nat} {xs : List Value} (h : w.ownsRow base e size v n xs) (hb : Below w.heap.size w w') : w'.ownsRow base e size v n xs := by
  refine ⟨h.1, ?_⟩
  rcases h.2 with hn | ⟨g, cap, cur, rfl, hbase, hg, rest⟩
  · exact .inl hn
  · exact .inr ⟨g, cap, cur, rfl, hbase, (hb.block g (Array.getElem?_eq_some_iff.1 hg).1).trans hg, rest⟩
theorem has_below {w w' : World} {v : Value} {bs : List (BitVec 32)} (h : HasBytes w v bs) (hb : Below w.heap.size w w') : HasBytes w' v bs := by
  obtain ⟨ao, cap, rfl, hnil, hc⟩ := h
  refine ⟨ao, cap, rfl, hnil, fun ad had => ⟨(hc ad had).1, fun j u hu => ?_⟩⟩
  have h1 := (hc ad had).2 j u hu
  exact (World.cell?_of_block (hb.block (ad.add j).block (World.block_lt_of_cell? w _ h1))).trans h1
/-- A slice of bytes just made. -/
theorem has_new (w : World) (t : TypeId) (fr : Nat × Nat) (bs : List (BitVec 32)) : HasBytes (w.alloc (.cells (bytesL bs).toArray t fr)) (.slice (some ⟨w.heap.size, 0, none⟩) bs.length bs.length) bs := by
  refine ⟨some ⟨w.heap.size, 0, none⟩, bs.length, rfl, (fun h => by cases h), fun ad had => ⟨Nat.le_refl _, fun j u hu => ?_⟩⟩
  cases had
  rw [Addr.add_lit, Nat.zero_add, cell_of_row _ _ j _ _ _ (heap_last w _)]
  simpa using hu
theorem append_has {P : Program} {w : World} {ops : Array Oper} {rest : List Oper} {o : Oper} {a : Act} {Q : Exit → Act → World → Prop} (hgd : o.guard = none) (s x : Operand) (t : TypeId)
    (ho : o.op = .call { callee := .builtin .append, args := #[s, x], argTypes := #[t, t] })
    (base : Nat) (e : TypeId) (i : TypeInfo) (ht : P.underlying t = some (.slice e)) (hi : P.info? e = some i) (hz : i.zero = some (.int .u8 0)) (hsize : i.size = 1) (hby : i.bytes = 1)
    (v : Value) (as bs : List (BitVec 32)) (hs : a.eval s = v) (hown : w.ownsRow base e 1 v as.length (bytesL as)) (vx : Value) (hx : a.eval x = vx) (hbs : HasBytes w vx bs)
    (hlen : as.length + bs.length ≤ 140737488355328) (hbase : base ≤ w.heap.size)
    (h : ∀ v' w', w'.ownsRow base e 1 v' (as ++ bs).length (bytesL (as ++ bs)) → w.grownBy w' v.ownBlock → (v ≠ .slice none 0 0 → v' ≠ .slice none 0 0) → wpList P ops Q rest (a.put o.dst v') w') : wpList P ops Q (o :: rest) a w := by
  obtain ⟨ao, cap, rfl, hnil, hcells⟩ := hbs
  rw [List.length_append, bytesL_append] at h
  cases ao with
  | none =>
    obtain ⟨rfl, rfl⟩ := hnil rfl
    exact wpList_append_own_none hgd s x t ho base e i 1 ht hi v as.length (bytesL as) hs hown hx
      (h v w (by simpa [bytesL] using hown) ⟨rfl, rfl, rfl, Nat.le_refl _, fun _ _ _ => rfl⟩ id)
  | some ad =>
    exact wpList_append_own w hgd s x t ho base e i (.int .u8 0) 1 1 ht hi hz hsize hby rfl (by decide) v as.length (bytesL as) hs hown ad bs.length cap (bytesL bs) hx (by rw [bytesL_length]; omega) (hcells ad rfl).2 (bytesL_one bs)
      (by unfold maxLen; omega) (by omega) hbase fun v' w' h1 h2 h3 => h v' w' h1 h2 fun hv hv' => hv (h3.1 hv').1
end Go.Proofs.YtocpplnnnflekaaDoor
namespace Go.Proofs.YtocpplnnnflekaaDoor
open Go.RowKit
/-- Only block g has changed. -/
structure Solo (g : Nat) (w w' : World) : Prop where
  os : w'.os = w.os
  tape : w'.tape = w.tape
  output : w'.output = w.output
  size : w'.heap.size = w.heap.size
  block : ∀ k, k ≠ g → w'.heap[k]? = w.heap[k]?
theorem solo_setRow (w : World) (g : Nat) (cs : Array Value) : Solo g w (w.setRow g cs) := ⟨rfl, rfl, rfl, by simp [World.setRow], fun k hk => setRow_other w g k _ hk⟩
/-- Some cells copied into the middle of a block that is known whole. -/
theorem copy_in {P : Program} {w : World} {ops : Array Oper} {rest : List Oper} {o : Oper} {a : Act} {Q : Exit → Act → World → Prop} (hgd : o.guard = none) (d s : Operand) (dT sT : TypeId)
    (ho : o.op = .call { callee := .builtin .copy, args := #[d, s], argTypes := #[dT, sT] }) (elem : TypeId) (hu : P.underlying dT = some (.slice elem)) (hsz : (P.info? elem).map (·.size) = some 1)
    (g off dLen dCap : Nat) (ad : Addr) (sLen sCap : Nat) (hd : a.eval d = .slice (some ⟨g, off, none⟩) dLen dCap) (hs : a.eval s = .slice (some ad) sLen sCap)
    (cur : List Value) (t : TypeId) (hg : w.heap[g]? = some (.cells cur.toArray t (0, 0))) (cs : List Value) (n : Nat) (hl : cs.length = n) (hn : n = Nat.min sLen dLen)
    (hsrc : ∀ j v, cs[j]? = some v → w.cell? (ad.add j) = some v)
    (hfit : off + cs.length ≤ cur.length) (h1 : ∀ v ∈ cs, v.oneCell' = true)
    (h : ∀ w', w'.heap[g]? = some (.cells (splice cur off cs).toArray t (0, 0)) → Solo g w w' → wpList P ops Q rest (a.put o.dst (goInt n)) w') :
    wpList P ops Q (o :: rest) a w := by
  subst hl
  refine wpList_copy_own hgd d s dT sT ho elem hu hsz g off dLen dCap ad sLen sCap hd hs cur.toArray t hg cs hn hsrc (by simpa using hfit) h1 ?_
  exact h (w.setRow g (splice cur off cs).toArray) (setRow_heap w g cur.toArray _ t _ hg) (solo_setRow w g _)
/-- A number stored in a cell of a block that is known whole. -/
theorem store_cell {P : Program} {ops : Array Oper} {rest : List Oper} {o : Oper} {a : Act} {w : World} {Q : Exit → Act → World → Prop} (hgd : o.guard = none) (ty : TypeId) (x y : Operand) (ho : o.op = .store ty x y) (hd : o.dst = none)
    (k : IntKind) (g off : Nat) (cur : Array Value) (z : Int) (t : TypeId) (hg : w.heap[g]? = some (.cells cur t (0, 0))) (hx : a.eval x = .pointer (some ⟨g, off, none⟩)) (hy : a.eval y = .int k z) (hfit : off < cur.size)
    (hi : (P.info? ty).map (·.size) = some 1)
    (h : ∀ w', w'.heap[g]? = some (.cells (cur.setIfInBounds off (.int k z)) t (0, 0)) → Solo g w w' → wpList P ops Q rest a w') : wpList P ops Q (o :: rest) a w := by
  refine wpList_plain hgd fun K hK => ?_
  have hcell : w.cell? ⟨g, off, none⟩ = some cur[off] := by simp [World.cell?, hg, hfit]
  have hfro : w.frozen? ⟨g, off, none⟩ = false := by simp [World.frozen?, hg]
  have hadd : (⟨g, off, none⟩ : Addr).add 0 = ⟨g, off, none⟩ := by unfold Addr.add; split <;> simp_all
  have hst : (storeVar ty ⟨g, off, none⟩ (.int k z)).run P w = .ok () (w.setRow g (cur.setIfInBounds off (.int k z))) := by
    cases hq : P.info? ty with
    | none => simp [hq] at hi
    | some i =>
      have hs : i.size = 1 := by simpa [hq] using hi
      simp [storeVar, sizeOf, typeInfo, hq, Value.cells, hs, storeCells, hadd, run_store P w _ _ _ (show (Value.int k z).oneCell' = true from rfl), hcell, hfro, setCell_eq_setRow w g off cur t (0, 0) _ hg]
  unfold Oper.wp execOp
  simp only [ho, hx, hy, Instr.storeAt, Instr.sureAddr, Sem.run_bind, Sem.run_pure, Result.andThen_ok, hst]
  refine hK _ _ ?_
  rw [hd]
  exact h _ (setRow_heap w g cur _ t _ hg) (solo_setRow w g _)
/-- A value built of parts, where the operation's guard lets it run. -/
theorem build_on {P : Program} {ops : Array Oper} {rest : List Oper} {o : Oper} {a : Act} {w : World} {Q : Exit → Act → World → Prop} (hw : Region.wanted o (yielded ops a.tmps) = true) (t : TypeId) (parts : Array (Nat × Operand)) (ho : o.op = .build t parts) (ps : List (Nat × Value)) (cs : Array Value)
    (hb : P.built t ps = some cs) (hp : (parts.map fun (i, x) => (i, a.eval x)).toList = ps) (h : wpList P ops Q rest (a.put o.dst (.agg cs)) w) : wpList P ops Q (o :: rest) a w := by
  subst hp
  refine wpList_step fun K hK => ?_
  rw [if_pos hw]
  refine wp_build t parts ho (by rw [hb]; rfl) ?_
  rw [hb]; exact hK _ _ h
end Go.Proofs.YtocpplnnnflekaaDoor
namespace Go.Proofs.YtocpplnnnflekaaDoor
open Go.RowKit
/-- A byte as a word. -/
def w8 (b : UInt8) : BitVec 32 := BitVec.ofNat 32 b.toNat
theorem u32_w8 (b : UInt8) : u32 (w8 b) = (b.toNat : Int) := by
  have := UInt8.toNat_lt b
  unfold u32 w8
  rw [BitVec.toNat_ofNat, Nat.mod_eq_of_lt (by omega)]
/-- A list of bytes as a string. -/
def str (l : List UInt8) : ByteArray := ⟨l.toArray⟩
theorem str_size (l : List UInt8) : (str l).size = l.length := by simp [str, ByteArray.size]
theorem str_toList (l : List UInt8) : (str l).toList = l := ByteArray.toList_mk l
theorem str_append (x y : List UInt8) : str x ++ str y = str (x ++ y) := ByteArray.mk_append_mk x y
theorem str_of (s : ByteArray) : ∃ l, s = str l := ⟨s.data.toList, by cases s; simp [str]⟩
/-- A slice of bytes in memory has this text. -/
def HasText (w : World) (v : Value) (l : List UInt8) : Prop := HasBytes w v (l.map w8)
theorem bytesL_map (l : List UInt8) : bytesL (l.map w8) = l.map fun b => Value.int .u8 b.toNat := by
  simp [bytesL, u32_w8, Function.comp_def]
theorem conv_text {P : Program} {src dst e : TypeId} (hs : P.underlying src = some (.slice e)) (he : P.underlying e = some (.int .u8)) (hd : P.underlying dst = some .string) {w : World} {v : Value} {l : List UInt8} (h : HasText w v l) :
    (convert src dst v).run P w = .ok (.string (str l)) w := by
  obtain ⟨ao, cap, rfl, hnil, hc⟩ := h
  rw [List.length_map]
  cases ao with
  | none =>
    obtain ⟨hl, rfl⟩ := hnil rfl
    obtain rfl : l = [] := by simpa using hl
    rw [show ([] : List UInt8).length = 0 from rfl, run_convert_bytes_string w src dst e none 0 0 hs he hd]; rfl
  | some ad =>
    refine run_convert_bytes_back (P := P) w src dst e ad cap l hs he hd fun j hj => ?_
    refine (hc ad rfl).2 j _ ?_
    rw [bytesL_map]; simp [hj]
theorem add_str {P : Program} (x y : List UInt8) (h : x.length + y.length ≤ 4611686018427387904) (w : World) : (Op.stringOp .add (str x) (str y)).run P w = .ok (.string (str (x ++ y))) w := by
  rw [run_string_add_sum w _ _ (by rw [str_size, str_size]; omega), str_append]
/-- A slice of one byte that was just made. -/
theorem text_byte (w : World) (t : TypeId) (c : UInt8) (n : Nat) (hn : c.toNat = n) : HasText (w.alloc (.cells #[.int .u8 (n : Int)] t (0, 0))) (.slice (some ⟨w.heap.size, 0, none⟩) 1 1) [c] := by
  subst hn
  have h := has_new w t (0, 0) ([c].map w8)
  rw [show (bytesL ([c].map w8)).toArray = #[.int .u8 (c.toNat : Int)] by rw [bytesL_map]; rfl] at h
  exact h
theorem index_str {P : Program} (w : World) {t : TypeId} (l : List UInt8) (k : IntKind) (i : Nat) (c : UInt8) (hi : l[i]? = some c) (ht : P.underlying t = some .string) :
    (Instr.index t (.string (str l)) (.int k (i : Int))).run P w = .ok (.int .u8 (c.toNat : Int)) w := by
  obtain ⟨h, rfl⟩ := List.getElem?_eq_some_iff.1 hi
  rw [run_index_string w t (str l) k i ht, dif_pos ⟨by omega, by rw [str_size]; omega⟩]
  simp [str, ByteArray.getElem_eq_getElem_data]
theorem u8_of {a : Int} (h : (Lit.int .u8 a).wf = true) : ∃ c : UInt8, a = (c.toNat : Int) := by
  have := wf_u8_bd h
  refine ⟨UInt8.ofNat a.toNat, ?_⟩
  rw [UInt8.toNat_ofNat', Nat.mod_eq_of_lt (by omega)]; omega
/-- A number loaded from a cell that is known in every world at hand. -/
theorem cell_yields {P : Program} {ops : Array Oper} {S : World → Prop} {o : Oper} {a : Act} (hw : Region.wanted o (yielded ops a.tmps) = true) (ty : TypeId) (x : Operand) (ho : o.op = .load ty x)
    (b off : Nat) (hx : a.eval x = .pointer (some ⟨b, off, none⟩)) (k : IntKind) (z : Int) (hu : P.underlying ty = some (.int k)) (hS : ∀ w, S w → w.cell? ⟨b, off, none⟩ = some (.int k z)) : YieldsIf P ops S o (.int k z) a :=
  .inl ⟨hw, fun w h => by
    have hc := hS w h
    unfold execOp
    simp [ho, hx, Instr.loadAt, Instr.sureAddr, loadVar, isAgg, run_underlying hu, hc]⟩
end Go.Proofs.YtocpplnnnflekaaDoor
namespace Go.Proofs.YtocpplnnnflekaaDoor
open Go.RowKit
/-- A mark that lies on no cell of a block. -/
def Clear (n : Nat) (fr : Nat × Nat) : Prop := fr = (0, 0) ∨ n ≤ fr.1
/-- A slice that owns a block from its beginning on: its first bytes are these. -/
def OwnsB (w : World) (base : Nat) (e : TypeId) (v : Value) (l : List UInt8) : Prop :=
  ∃ g cap cur fr, v = .slice (some ⟨g, 0, none⟩) l.length cap ∧ base ≤ g ∧ w.heap[g]? = some (.cells cur e fr) ∧ Clear cur.size fr ∧ l.length ≤ cap ∧ cap ≤ maxLen ∧ cur.size = cap ∧ cur.toList.take l.length = l.map fun b => Value.int .u8 b.toNat
theorem ownsB_has {w : World} {base : Nat} {e : TypeId} {v : Value} {l : List UInt8} (h : OwnsB w base e v l) : HasText w v l := by
  obtain ⟨g, cap, cur, fr, rfl, -, hg, -, hn, -, hs, ht⟩ := h
  refine ⟨some ⟨g, 0, none⟩, cap, by rw [List.length_map], (fun h => by cases h), fun ad had => ⟨by rw [List.length_map]; exact hn, fun j u hu => ?_⟩⟩
  cases had
  rw [bytesL_map, ← ht] at hu
  rw [Addr.add_lit, Nat.zero_add]
  rw [List.getElem?_take] at hu
  split at hu
  · simp [World.cell?, hg]; simpa using hu
  · cases hu
theorem ownsB_lt {w : World} {base : Nat} {e : TypeId} {v : Value} {l : List UInt8} (h : OwnsB w base e v l) : ∀ k, v.ownBlock = some k → base ≤ k ∧ k < w.heap.size := by
  obtain ⟨g, cap, cur, fr, rfl, hb, hg, -⟩ := h
  intro k hk
  simp [Value.ownBlock] at hk
  subst hk
  exact ⟨hb, (Array.getElem?_eq_some_iff.1 hg).1⟩
theorem ownsB_same {w w' : World} {base : Nat} {e : TypeId} {v : Value} {l : List UInt8} (h : OwnsB w base e v l) (hk : ∀ k, v.ownBlock = some k → w'.heap[k]? = w.heap[k]?) : OwnsB w' base e v l := by
  obtain ⟨g, cap, cur, fr, rfl, hb, hg, rest⟩ := h
  exact ⟨g, cap, cur, fr, rfl, hb, (hk g rfl).trans hg, rest⟩
theorem ownsB_alloc {w : World} {base : Nat} {e : TypeId} {v : Value} {l : List UInt8} (h : OwnsB w base e v l) (o : Obj) : OwnsB (w.alloc o) base e v l :=
  ownsB_same h fun k hk => by rw [heap_at_alloc, if_neg (by have := (ownsB_lt h k hk).2; omega)]
/-- A string made a slice of bytes. -/
theorem conv_owns {P : Program} {src dst e : TypeId} (hs : P.underlying src = some .string) (hd : P.underlying dst = some (.slice e)) (he : P.underlying e = some (.int .u8)) (w : World) (l : List UInt8) (hl : l.length ≤ maxLen) (base : Nat) (hb : base ≤ w.heap.size) :
    ∃ v w', (convert src dst (.string (str l))).run P w = .ok v w' ∧ OwnsB w' base e v l ∧ Below w.heap.size w w' := by
  have hz := str_size l
  have hr := run_bytes_of_string w src dst e (str l) hs hd he
  rw [hz] at hr
  obtain ⟨cap, hcap⟩ : ∃ cap, cap = grownCap w l.length 0 e := ⟨_, rfl⟩
  have h1 := grownCap_ge w l.length 0 e
  have h2 := grownCap_le_maxLen w l.length 0 e hl
  rw [← hcap] at hr h1 h2
  have hsz : (bytesRow (str l) cap).size = cap := by
    unfold bytesRow
    rw [Array.size_append, Array.size_map, Array.size_replicate, hz]
    simp [str]; omega
  refine ⟨_, _, hr, ⟨w.heap.size, cap, _, _, rfl, hb, heap_alloc_new w.drew _, .inr (Nat.le_refl _), h1, h2, hsz, ?_⟩, ?_⟩
  · simp [bytesRow, str]
  · exact below_draws ((Below.refl _ w).alloc (Nat.le_refl _) _) 1
/-- Bytes stored into a block whose mark lies on none of its cells. -/
theorem store_mark (P : Program) (g o : Nat) (t : TypeId) (fr : Nat × Nat) : ∀ (vs : List Value) (i : Nat) (cur : Array Value) (w : World), w.heap[g]? = some (.cells cur t fr) → Clear cur.size fr → o + i + vs.length ≤ cur.size → (∀ v ∈ vs, v.oneCell' = true) →
    (storeCells ⟨g, o, none⟩ vs i).run P w = .ok () (w.setRow g (cur.toList.take (o + i) ++ vs ++ cur.toList.drop (o + i + vs.length)).toArray)
  | [], i, cur, w, hg, _, _, _ => by
    simp only [storeCells, List.append_nil, List.length_nil, Nat.add_zero, List.take_append_drop, Array.toArray_toList]
    rw [setRow_self w g cur t fr hg]
    rfl
  | v :: rest, i, cur, w, hg, hm, hl, h1 => by
    have hi : o + i < cur.size := by simp at hl; omega
    have hfro : w.frozen? ⟨g, o + i, none⟩ = false := by
      rcases hm with rfl | hm
      · simp [World.frozen?, hg]
      · simp [World.frozen?, hg]; intro h; omega
    have hst : (store ((⟨g, o, none⟩ : Addr).add i) v).run P w = .ok () (w.setRow g (cur.setIfInBounds (o + i) v)) := by
      rw [Addr.add_lit, run_store P w _ v _ (h1 v (by simp)), show w.cell? ⟨g, o + i, none⟩ = some cur[o + i] from by simp [World.cell?, hg, hi]]
      simp [hfro, setCell_eq_setRow w g (o + i) cur t fr v hg]
    have ih := store_mark P g o t fr rest (i + 1) (cur.setIfInBounds (o + i) v) (w.setRow g (cur.setIfInBounds (o + i) v)) (setRow_heap w g cur _ t _ hg) (by simpa using hm) (by simp at hl ⊢; omega) (fun x hx => h1 x (by simp [hx]))
    simp only [storeCells, Sem.run_bind, hst, Result.andThen_ok, ih, setRow_setRow]
    congr 3
    simpa [Array.toList_setIfInBounds, Nat.add_assoc] using list_seg_step cur.toList (o + i) v rest (by simp at hl ⊢; omega)
/-- Bytes appended to such a slice. -/
theorem append_owns {P : Program} {w : World} {base : Nat} {t ty e : TypeId} {i : TypeInfo} (ht : P.underlying t = some (.slice e)) (hi : P.info? e = some i) (hz : i.zero = some (.int .u8 0)) (hsize : i.size = 1) (hby : i.bytes = 1)
    {v x : Value} {l m : List UInt8} (hown : OwnsB w base e v l) (hx : HasText w x m) (hlen : l.length + m.length ≤ 140737488355328) (hbase : base ≤ w.heap.size) :
    ∃ v' w', (Builtin.append_ #[t, t] ty #[v, x]).run P w = .ok v' w' ∧ OwnsB w' base e v' (l ++ m) ∧ w.grownBy w' v.ownBlock := by
  obtain ⟨ao, c, rfl, hnil, hc⟩ := hx
  have H := ownsB_has hown
  obtain ⟨g, cap, cur, fr, rfl, hb, hg, hm, hn, hcm, hs, htake⟩ := hown
  rw [List.length_map]
  have hml : (m.map fun b => Value.int .u8 b.toNat).length = m.length * i.size := by rw [List.length_map, hsize, Nat.mul_one]
  cases ao with
  | none =>
    obtain ⟨h1, rfl⟩ := hnil rfl
    obtain rfl : m = [] := by simpa using h1
    refine ⟨.slice (some ⟨g, 0, none⟩) l.length cap, w, ?_, ⟨g, cap, cur, fr, by simp, hb, hg, hm, by simpa using hn, hcm, hs, by simpa using htake⟩, ⟨rfl, rfl, rfl, Nat.le_refl _, fun _ _ _ => rfl⟩⟩
    simp [Builtin.append_, run_underlying ht, sizeOf, typeInfo, hi, Builtin.lenOf, Builtin.firstCells, storeCells, hn]
  | some a =>
    have hnews : ∀ j u, (m.map fun b => Value.int .u8 b.toNat)[j]? = some u → w.cell? (a.add j) = some u := fun j u hu => (hc a rfl).2 j u (by rw [bytesL_map]; exact hu)
    have h1 : ∀ u ∈ (m.map fun b => Value.int .u8 b.toNat), u.oneCell' = true := fun u hu => by
      obtain ⟨b, _, rfl⟩ := List.mem_map.1 hu; rfl
    by_cases hroom : l.length + m.length ≤ cap
    · have hf := run_firstCells_some (P := P) w i.size m.length a m.length c _ hml hnews
      have hst := store_mark P g l.length e fr (m.map fun b => Value.int .u8 b.toNat) 0 cur w hg hm (by rw [List.length_map]; omega) h1
      simp only [Nat.add_zero] at hst
      obtain ⟨N, hN⟩ : ∃ N : Array Value, N = (cur.toList.take l.length ++ (m.map fun b => Value.int .u8 b.toNat) ++ cur.toList.drop (l.length + (m.map fun b => Value.int .u8 b.toNat).length)).toArray := ⟨_, rfl⟩
      rw [← hN] at hst
      have hNs : N.size = cur.size := by rw [hN]; simp; omega
      refine ⟨.slice (some ⟨g, 0, none⟩) (l.length + m.length) cap, w.setRow g N, ?_, ⟨g, cap, N, fr, by rw [List.length_append], hb, setRow_heap w g cur N e _ hg, ?_, by rw [List.length_append]; exact hroom, hcm, ?_, ?_⟩, ⟨rfl, rfl, rfl, by simp, fun k _ hk => setRow_other w g k _ (fun e => hk (by simp [Value.ownBlock, e]))⟩⟩
      · rw [hsize] at hf
        simp [Builtin.append_, run_underlying ht, sizeOf, typeInfo, hi, Builtin.lenOf, hroom, hsize, hf, Addr.add_lit, hst]
      · rw [Clear, hNs]; exact hm
      · rw [hNs]; exact hs
      · rw [hN, htake, List.length_append, List.map_append]
        simp only [List.append_assoc]
        rw [← List.append_assoc, ← List.map_append, ← List.length_append]
        exact List.take_left' (by simp)
    · have hge := grownCap_ge w (l.length + m.length) cap e
      have hle := grownCap_le_maxLen w (l.length + m.length) cap e (by simp only [maxLen]; omega)
      have hr := run_append_grow (P := P) w t ty e i (.int .u8 0) ht hi hz ⟨g, 0, none⟩ l.length cap (l.map fun b => Value.int .u8 b.toNat) (by simp [hsize]) (fun j u hu => by
        obtain ⟨_, _, e1, _, h2⟩ := H
        injection e1 with e2 _ _
        subst e2
        exact (h2 _ rfl).2 j u (by rw [bytesL_map]; exact hu)) a m.length c _ hml hnews (by omega) (by omega) (by rw [hby]; exact growslice_fits (by omega) (by omega))
      obtain ⟨C, hC⟩ : ∃ C, C = grownCap w (l.length + m.length) cap e := ⟨_, rfl⟩
      rw [← hC] at hr hge hle
      refine ⟨_, _, hr, ⟨w.heap.size, C, _, (0, 0), by rw [List.length_append], hbase, heap_alloc_new w.drew _, .inl rfl, by rw [List.length_append]; exact hge, hle, ?_, ?_⟩, ⟨rfl, rfl, rfl, by simp, fun k hk _ => by rw [heap_at_alloc, if_neg (fun h => by rw [h] at hk; exact Nat.lt_irrefl _ hk)]; rfl⟩⟩
      · simp [size_zeroCells, Value.cells]; omega
      · simp only [Array.toList_append, List.append_assoc]
        rw [← List.append_assoc, ← List.map_append]
        exact List.take_left' (by simp)
theorem append_owns_list {P : Program} {w : World} {ops : Array Oper} {rest : List Oper} {o : Oper} {a : Act} {Q : Exit → Act → World → Prop} (hgd : o.guard = none) (s x : Operand) (t : TypeId)
    (ho : o.op = .call { callee := .builtin .append, args := #[s, x], argTypes := #[t, t] })
    (base : Nat) (e : TypeId) (i : TypeInfo) (ht : P.underlying t = some (.slice e)) (hi : P.info? e = some i) (hz : i.zero = some (.int .u8 0)) (hsize : i.size = 1) (hby : i.bytes = 1)
    (v : Value) (l m : List UInt8) (hs : a.eval s = v) (hown : OwnsB w base e v l) (vx : Value) (hx : a.eval x = vx) (hm : HasText w vx m)
    (hlen : l.length + m.length ≤ 140737488355328) (hbase : base ≤ w.heap.size)
    (h : ∀ v' w', OwnsB w' base e v' (l ++ m) → w.grownBy w' v.ownBlock → wpList P ops Q rest (a.put o.dst v') w') : wpList P ops Q (o :: rest) a w :=
  wpList_plain hgd fun K hK => by
    obtain ⟨v', w', hr, h2, h3⟩ := append_owns (P := P) (ty := o.type) ht hi hz hsize hby hown hm hlen hbase
    unfold Oper.wp execOp
    simp only [ho, resolve, invoke, builtin, Sem.run_bind, Sem.run_pure, Result.andThen_ok, List.map_toArray, List.map_cons, List.map_nil, hs, hx, hr]
    exact hK _ _ (h v' w' h2 h3)
theorem conv_owns_list {P : Program} {w : World} {ops : Array Oper} {rest : List Oper} {o : Oper} {a : Act} {Q : Exit → Act → World → Prop} (hgd : o.guard = none) (src dst e : TypeId) (x : Operand) (ho : o.op = .convert src dst x)
    (hs : P.underlying src = some .string) (hd : P.underlying dst = some (.slice e)) (he : P.underlying e = some (.int .u8)) (base : Nat) (l : List UInt8) (hx : a.eval x = .string (str l)) (hl : l.length ≤ maxLen) (hb : base ≤ w.heap.size)
    (h : ∀ v' w', OwnsB w' base e v' l → Below w.heap.size w w' → wpList P ops Q rest (a.put o.dst v') w') : wpList P ops Q (o :: rest) a w :=
  wpList_plain hgd fun K hK => by
    obtain ⟨v', w', hr, h2, h3⟩ := conv_owns (P := P) hs hd he w l hl base hb
    unfold Oper.wp execOp
    simp only [ho, Sem.run_bind, Sem.run_pure, Result.andThen_ok, hx, hr]
    exact hK _ _ (h v' w' h2 h3)
theorem ownsB_slice {w : World} {base : Nat} {e : TypeId} {v : Value} {l : List UInt8} (h : OwnsB w base e v l) : ∃ g cap, v = .slice (some ⟨g, 0, none⟩) l.length cap ∧ base ≤ g := by
  obtain ⟨g, cap, _, _, rfl, hb, _⟩ := h
  exact ⟨g, cap, rfl, hb⟩
/-- An empty slice that was just written out. -/
theorem ownsB_nil (w : World) (e : TypeId) (base : Nat) (hb : base ≤ w.heap.size) : OwnsB (w.alloc (.cells #[] e (0, 0))) base e (.slice (some ⟨w.heap.size, 0, none⟩) 0 0) [] :=
  ⟨w.heap.size, 0, #[], (0, 0), rfl, hb, heap_last _ _, .inl rfl, Nat.le_refl 0, by decide, rfl, rfl⟩
/-- A byte of such a slice, and that it may be written. -/
theorem ownsB_cell {w : World} {base : Nat} {e : TypeId} {ao : Option Addr} {n cap : Nat} {l : List UInt8} (h : OwnsB w base e (.slice ao n cap) l) (k : Nat) (hk : k < l.length) (c : UInt8) (hc : l.getD k 0 = c) :
    ∃ g, ao = some ⟨g, 0, none⟩ ∧ w.cell? ⟨g, k, none⟩ = some (.int .u8 (c.toNat : Int)) ∧ w.frozen? ⟨g, k, none⟩ = false ∧ base ≤ g := by
  obtain ⟨g, cap', cur, fr, e1, hb, hg, hm, hn, hcm, hs, ht⟩ := h
  cases e1
  have hcell : cur[k]? = some (.int .u8 (c.toNat : Int)) := by
    have := congrArg (·[k]?) ht
    simp only [List.getElem?_take, if_pos hk, List.getElem?_map] at this
    rw [List.getElem?_eq_getElem hk] at this
    rw [← Array.getElem?_toList, this]
    subst hc
    simp [hk]
  refine ⟨g, rfl, by simp only [World.cell?, hg]; exact hcell, ?_, hb⟩
  rcases hm with rfl | hm
  · simp [World.frozen?, hg]
  · simp [World.frozen?, hg]; intro h; omega
/-- Such a slice with one byte written over. -/
theorem ownsB_set {w : World} {base : Nat} {e : TypeId} {g n cap : Nat} {l : List UInt8} (h : OwnsB w base e (.slice (some ⟨g, 0, none⟩) n cap) l) (k : Nat) (c : UInt8) (v : Value) (hv : v = .int .u8 (c.toNat : Int)) :
    OwnsB (w.setCell ⟨g, k, none⟩ v) base e (.slice (some ⟨g, 0, none⟩) n cap) (l.set k c) ∧ Solo g w (w.setCell ⟨g, k, none⟩ v) := by
  subst hv
  obtain ⟨g', cap', cur, fr, e1, hb, hg, hm, hn, hcm, hs, ht⟩ := h
  cases e1
  rw [setCell_eq_setRow w g k cur e fr _ hg]
  refine ⟨⟨g, cap, _, fr, by rw [List.length_set], hb, setRow_heap w g cur _ e _ hg, by simpa [Clear] using hm, by rw [List.length_set]; exact hn, hcm, by simpa using hs, ?_⟩, solo_setRow w g _⟩
  rw [List.length_set, Array.toList_setIfInBounds, List.take_set, ht, List.map_set]
theorem solo_below {g B : Nat} {w0 w w' : World} (hb : Below B w0 w) (h : Solo g w w') (hg : B ≤ g) : Below B w0 w' :=
  hb.trans ⟨h.os, h.tape, h.output, Nat.le_of_eq h.size.symm, fun j hj => h.block j (by omega)⟩
end Go.Proofs.YtocpplnnnflekaaDoor
namespace Go.Proofs.YtocpplnnnflekaaDoor
open Go.RowKit
def zerosL (n : Nat) : List UInt8 := List.replicate n 0
theorem zeros_cells (n : Nat) : Builtin.zeroCells (Value.int .u8 0).cells n = (Lib.strCells (str (zerosL n))).toArray := by
  apply Array.ext'
  rw [Builtin.zeroCells, Lib.strCells]
  simp only [Value.cells, str, zerosL]
  apply List.ext_getElem
  · simp
  · intro i h1 h2
    simp
    have : i % 1 = 0 := by omega
    simp [this]
theorem append_zeros_eq {P : Program} {w : World} {t u it ty e : TypeId} {i : TypeInfo} {k : IntKind} (ht : P.underlying t = some (.slice e)) (hu : P.underlying u = some .string) (hit : P.underlying it = some (.int k)) (hi : P.info? e = some i) (hz : i.zero = some (.int .u8 0)) (hsize : i.size = 1) (hby : i.bytes = 1)
    (b : Option Addr) (sLen sCap n : Nat) (hfit : sLen + n ≤ 140737488355328) :
    (Builtin.append_ #[t, it] ty #[.slice b sLen sCap, .int .i64 (n : Int)]).run P w = (Builtin.append_ #[t, u] ty #[.slice b sLen sCap, .string (str (zerosL n))]).run P w := by
  have hsz : (str (zerosL n)).size = n := by rw [str_size, zerosL, List.length_replicate]
  have hw : IntKind.i64.wrap (n : Int) = (n : Int) := by rw [IntKind.wrap_i64]; omega
  have h1 : ¬ (n : Int) < 0 := by omega
  have h2 : ¬ (281474976710656 < (n : Int)) := by omega
  have hf : ∀ w, (Builtin.firstCells 1 n (.string (str (zerosL n)))).run P w = .ok (Lib.strCells (str (zerosL n))).toArray w := fun w => by
    have := Lib.run_firstCells_string (P := P) w 1 (str (zerosL n)); rwa [hsz] at this
  have hc := zeros_cells n
  have hw0 : IntKind.i64.wrap 0 = 0 := by decide
  have hcs : Lib.strCells (str (zerosL 0)) = [] := rfl
  by_cases hn : sLen + n ≤ sCap
  · by_cases h0 : n = 0
    · subst h0
      have hn' : sLen ≤ sCap := by omega
      simp [Builtin.append_, run_underlying ht, run_underlying hu, run_underlying hit, sizeOf, typeInfo, asInt, asIntOf, zeroValue, hi, hz, hsize, hby, Builtin.lenOf, hn', hsz, hw0, hf, hcs]
    · simp [Builtin.append_, run_underlying ht, run_underlying hu, run_underlying hit, sizeOf, typeInfo, asInt, asIntOf, zeroValue, hi, hz, hsize, hby, Builtin.lenOf, hn, hsz, hw, h1, h2, h0, hf, hc]
  · have h3 : ¬ (9223372036854775807 < ((sLen : Int) + (n : Int))) := by omega
    have h4 : ¬ (281474976710656 < Builtin.nextslicecap (sLen + n) sCap) := by
      have := growslice_fits (need := sLen + n) (old := sCap) (bytes := 1) (by omega) (by omega); omega
    by_cases h0 : n = 0
    · subst h0
      have h3' : ¬ (9223372036854775807 < (sLen : Int)) := by omega
      have hn' : ¬ sLen ≤ sCap := by omega
      simp at h4
      have h4' : ¬ (281474976710656 < Builtin.nextslicecap sLen sCap) := by omega
      simp [Builtin.append_, run_underlying ht, run_underlying hu, run_underlying hit, sizeOf, typeInfo, asInt, asIntOf, zeroValue, hi, hz, hsize, hby, Builtin.lenOf, hn', hsz, hw0, h3', h4', hf, hcs, Question.forced]
    · simp [Builtin.append_, run_underlying ht, run_underlying hu, run_underlying hit, sizeOf, typeInfo, asInt, asIntOf, zeroValue, hi, hz, hsize, hby, Builtin.lenOf, hn, hsz, hw, h1, h2, h3, h4, h0, hf, hc, Question.forced]
theorem strCells_str (l : List UInt8) : Lib.strCells (str l) = bytesL (l.map w8) := by rw [bytesL_map]; rfl
/-- Bytes 0 appended to a row of the call's own. -/
theorem run_append_zeros {P : Program} {w : World} {t u it ty e : TypeId} {i : TypeInfo} {k : IntKind} (ht : P.underlying t = some (.slice e)) (hu : P.underlying u = some .string) (hit : P.underlying it = some (.int k)) (hi : P.info? e = some i) (hz : i.zero = some (.int .u8 0)) (hsize : i.size = 1) (hby : i.bytes = 1)
    (base : Nat) (v : Value) (l : List UInt8) (hown : w.ownsRow base e 1 v l.length (bytesL (l.map w8))) (n : Nat) (hlen : l.length + n ≤ 140737488355328) (hbase : base ≤ w.heap.size) :
    ∃ v' w', (Builtin.append_ #[t, it] ty #[v, .int .i64 (n : Int)]).run P w = .ok v' w' ∧ w'.ownsRow base e 1 v' (l ++ zerosL n).length (bytesL ((l ++ zerosL n).map w8)) ∧ w.grownBy w' v.ownBlock := by
  have hn : (str (zerosL n)).size = n := by rw [str_size, zerosL, List.length_replicate]
  obtain ⟨ao, cap, rfl⟩ := own_slice hown
  obtain ⟨v', w', h1, h2, h3, -⟩ := Lib.run_append_own_string (P := P) w base t u ty e i ht hu hi hz hsize hby _ l.length _ hown (str (zerosL n)) (by rw [hn]; unfold maxLen; omega) (by rw [hn]; exact hlen) hbase
  refine ⟨v', w', ?_, ?_, h3⟩
  · rw [append_zeros_eq ht hu hit hi hz hsize hby ao l.length cap n hlen]; exact h1
  · rw [hn, strCells_str, ← bytesL_append, ← List.map_append] at h2
    rwa [List.length_append, zerosL, List.length_replicate]
theorem append_zeros {P : Program} {w : World} {ops : Array Oper} {rest : List Oper} {o : Oper} {a : Act} {Q : Exit → Act → World → Prop} (hgd : o.guard = none) (s x : Operand) (t it u : TypeId)
    (ho : o.op = .call { callee := .builtin .append, args := #[s, x], argTypes := #[t, it] })
    (base : Nat) (e : TypeId) (i : TypeInfo) (k : IntKind) (ht : P.underlying t = some (.slice e)) (hu : P.underlying u = some .string) (hit : P.underlying it = some (.int k)) (hi : P.info? e = some i) (hz : i.zero = some (.int .u8 0)) (hsize : i.size = 1) (hby : i.bytes = 1)
    (v : Value) (l : List UInt8) (hs : a.eval s = v) (hown : w.ownsRow base e 1 v l.length (bytesL (l.map w8))) (n : Nat) (hx : a.eval x = .int .i64 (n : Int))
    (hlen : l.length + n ≤ 140737488355328) (hbase : base ≤ w.heap.size)
    (h : ∀ v' w', w'.ownsRow base e 1 v' (l ++ zerosL n).length (bytesL ((l ++ zerosL n).map w8)) → w.grownBy w' v.ownBlock → wpList P ops Q rest (a.put o.dst v') w') : wpList P ops Q (o :: rest) a w :=
  wpList_plain hgd fun K hK => by
    obtain ⟨v', w', hr, h2, h3⟩ := run_append_zeros (P := P) (ty := o.type) ht hu hit hi hz hsize hby base v l hown n hlen hbase
    unfold Oper.wp execOp
    simp only [ho, resolve, invoke, builtin, Sem.run_bind, Sem.run_pure, Result.andThen_ok, List.map_toArray, List.map_cons, List.map_nil, hs, hx, hr]
    exact hK _ _ (h v' w' h2 h3)
theorem append_zeros_wp {P : Program} {w : World} {ops : Array Oper} {o : Oper} {ts : Array Value} {ds : List Deferred} {K : Act → World → Prop} {Q : Exit → Act → World → Prop} {C : Prop} (d : Nat) (hd : o.dst = some d) (hw : Region.wanted o (yielded ops ts) = true) (s x : Operand) (t it u : TypeId)
    (ho : o.op = .call { callee := .builtin .append, args := #[s, x], argTypes := #[t, it] })
    (base : Nat) (e : TypeId) (i : TypeInfo) (k : IntKind) (ht : P.underlying t = some (.slice e)) (hu : P.underlying u = some .string) (hit : P.underlying it = some (.int k)) (hi : P.info? e = some i) (hz : i.zero = some (.int .u8 0)) (hsize : i.size = 1) (hby : i.bytes = 1)
    (v : Value) (l : List UInt8) (hs : Act.eval { tmps := ts, defers := ds } s = v) (hown : w.ownsRow base e 1 v l.length (bytesL (l.map w8))) (n : Nat) (hx : Act.eval { tmps := ts, defers := ds } x = .int .i64 (n : Int))
    (hlen : l.length + n ≤ 140737488355328) (hbase : base ≤ w.heap.size)
    (h : ∀ v' w', w'.ownsRow base e 1 v' (l ++ zerosL n).length (bytesL ((l ++ zerosL n).map w8)) → w.grownBy w' v.ownBlock → K { tmps := ts.setIfInBounds d v', defers := ds } w') :
    if Region.wanted o (yielded ops ts) = true then Oper.wp P o { tmps := ts, defers := ds } w K Q else C := by
  rw [if_pos hw]
  obtain ⟨v', w', hr, h2, h3⟩ := run_append_zeros (P := P) (ty := o.type) ht hu hit hi hz hsize hby base v l hown n hlen hbase
  have hk := h v' w' h2 h3
  have hput : ({ tmps := ts, defers := ds } : Act).put o.dst v' = { tmps := ts.setIfInBounds d v', defers := ds } := by rw [hd]; rfl
  rw [← hput] at hk
  unfold Oper.wp execOp
  simp only [ho, resolve, invoke, builtin, Sem.run_bind, Sem.run_pure, Result.andThen_ok, List.map_toArray, List.map_cons, List.map_nil, hs, hx, hr]
  exact hk
end Go.Proofs.YtocpplnnnflekaaDoor
namespace Go.Proofs.YtocpplnnnflekaaDoor
open Go.RowKit
/-- The last k figures to the base 8 of a number. -/
def octs : Nat → Nat → List UInt8
  | 0, _ => []
  | k + 1, n => octs k (n / 8) ++ [UInt8.ofNat (48 + n % 8)]
theorem octs_zero (n : Nat) : octs 0 n = [] := rfl
theorem octs_succ (k n : Nat) : octs (k + 1) n = octs k (n / 8) ++ [UInt8.ofNat (48 + n % 8)] := rfl
theorem oct_toNat (m : Nat) (h : m < 8) : (UInt8.ofNat (48 + m)).toNat = 48 + m := by rw [UInt8.toNat_ofNat', Nat.mod_eq_of_lt (by omega)]
theorem octs_length (k n : Nat) : (octs k n).length = k := by
  induction k generalizing n with
  | zero => rfl
  | succ k ih => rw [octs_succ, List.length_append, ih]; rfl
/-- The figures from the front. -/
theorem octs_front (k n : Nat) : octs (k + 1) n = UInt8.ofNat (48 + n / 8 ^ k % 8) :: octs k n := by
  induction k generalizing n with
  | zero => simp [octs]
  | succ k ih =>
    rw [octs_succ, ih, octs_succ k n, List.cons_append]
    congr 3
    rw [Nat.div_div_eq_div_mul, Nat.pow_succ, Nat.mul_comm 8]
/-- The number of figures, by their last three bits. -/
def val8 (l : List UInt8) : Nat := l.foldl (fun n c => 8 * n + c.toNat % 8) 0
theorem val8_nil : val8 [] = 0 := rfl
theorem val8_snoc (l : List UInt8) (c : UInt8) : val8 (l ++ [c]) = 8 * val8 l + c.toNat % 8 := by simp [val8, List.foldl_append]
theorem val8_octs (k n : Nat) (h : n < 8 ^ k) : val8 (octs k n) = n := by
  induction k generalizing n with
  | zero => simp at h; subst h; rfl
  | succ k ih =>
    rw [octs_succ, val8_snoc, oct_toNat _ (by omega), ih (n / 8) (by rw [Nat.pow_succ] at h; omega)]
    omega
theorem val8_lt (l : List UInt8) : val8 l < 8 ^ l.length := by
  obtain ⟨n, hn⟩ : ∃ n, n = l.length := ⟨_, rfl⟩
  induction n generalizing l with
  | zero => obtain rfl : l = [] := List.eq_nil_of_length_eq_zero hn.symm; decide
  | succ n ih =>
    rcases List.eq_nil_or_concat l with rfl | ⟨t, c, rfl⟩
    · simp at hn
    · rw [List.concat_eq_append] at hn ⊢
      rw [List.length_append, List.length_singleton] at hn ⊢
      rw [val8_snoc, Nat.pow_succ]
      have := ih t (by omega)
      omega
/-- A number's field. -/
def putL (n w : Nat) : List UInt8 := octs (w - 1) n ++ [0]
theorem putL_length (n w : Nat) (h : 1 ≤ w) : (putL n w).length = w := by rw [putL, List.length_append, octs_length]; simp; omega
/-- What Put answers: a field and an error's number. -/
def putErr (n w : Int) : Int := if w < 2 ∨ 12 < w then 1 else if n < 0 then 8 else if n.toNat / 8 ^ (w.toNat - 1) ≠ 0 then 8 else 0
def putT (n w : Int) : List UInt8 := if putErr n w = 0 then putL n.toNat w.toNat else []
theorem putErr_width (n w : Int) : putErr n w = 1 ↔ w < 2 ∨ 12 < w := by
  unfold putErr
  by_cases h : w < 2 ∨ 12 < w
  · simp [h]
  · rw [if_neg h]
    refine ⟨fun e => ?_, fun e => absurd e h⟩
    split at e
    · cases e
    · split at e <;> cases e
theorem putErr_ok (n w : Int) : putErr n w = 0 ↔ 2 ≤ w ∧ w ≤ 12 ∧ 0 ≤ n ∧ n.toNat < 8 ^ (w.toNat - 1) := by
  unfold putErr
  by_cases h : w < 2 ∨ 12 < w
  · rw [if_pos h]; constructor
    · intro e; cases e
    · intro e; omega
  · rw [if_neg h]
    by_cases h1 : n < 0
    · rw [if_pos h1]; constructor
      · intro e; cases e
      · intro e; omega
    · rw [if_neg h1]
      have hp : 0 < 8 ^ (w.toNat - 1) := Nat.pow_pos (by decide)
      by_cases h2 : n.toNat / 8 ^ (w.toNat - 1) = 0
      · rw [if_neg (by simpa using h2)]
        have := (Nat.div_eq_zero_iff_lt hp).1 h2
        exact ⟨fun _ => ⟨by omega, by omega, by omega, this⟩, fun _ => rfl⟩
      · rw [if_pos h2]; constructor
        · intro e; cases e
        · rintro ⟨_, _, _, e⟩; exact absurd ((Nat.div_eq_zero_iff_lt hp).2 e) h2
/-- Is it a number's field? -/
def isOct (b : List UInt8) : Bool := decide (2 ≤ b.length) && (decide (b.length ≤ 12) && (putL (val8 b.dropLast) b.length == b))
/-- What Get answers. -/
def getN (b : List UInt8) : Int := if isOct b then val8 b.dropLast else 0
def getErr (b : List UInt8) : Int := if isOct b then 0 else 2
theorem isOct_putL (n w : Nat) (h2 : 2 ≤ w) (h12 : w ≤ 12) (h : n < 8 ^ (w - 1)) : isOct (putL n w) = true ∧ val8 (putL n w).dropLast = n := by
  have hl := putL_length n w (by omega)
  have hv : val8 (putL n w).dropLast = n := by rw [putL, List.dropLast_concat, val8_octs _ _ h]
  refine ⟨?_, hv⟩
  simp [isOct, hl, hv, h2, h12]
theorem isOct_of {b : List UInt8} (h : isOct b = true) : 2 ≤ b.length ∧ b.length ≤ 12 ∧ putL (val8 b.dropLast) b.length = b ∧ val8 b.dropLast < 8 ^ (b.length - 1) := by
  simp only [isOct, Bool.and_eq_true, decide_eq_true_eq, beq_iff_eq] at h
  refine ⟨h.1, h.2.1, h.2.2, ?_⟩
  have := val8_lt b.dropLast
  rwa [List.length_dropLast] at this
/-- What was put is got. -/
theorem get_put (n w : Int) (h : putErr n w = 0) : getN (putT n w) = n ∧ getErr (putT n w) = 0 ∧ (putT n w).length = w.toNat := by
  obtain ⟨h1, h2, h3, h4⟩ := (putErr_ok n w).1 h
  obtain ⟨e1, e2⟩ := isOct_putL n.toNat w.toNat (by omega) (by omega) h4
  rw [putT, if_pos h, getN, getErr, if_pos e1, if_pos e1, e2, putL_length _ _ (by omega)]
  exact ⟨by omega, rfl, rfl⟩
/-- What Text answers. -/
def fieldErr (s : List UInt8) (w : Int) : Int := if w < 1 ∨ 255 < w then 1 else if s.contains 0 then 2 else if w < s.length then 8 else 0
def fieldT (s : List UInt8) (w : Int) : List UInt8 := if fieldErr s w = 0 then s ++ List.replicate (w.toNat - s.length) 0 else []
theorem fieldErr_width (s : List UInt8) (w : Int) : fieldErr s w = 1 ↔ w < 1 ∨ 255 < w := by
  unfold fieldErr
  by_cases h : w < 1 ∨ 255 < w
  · simp [h]
  · rw [if_neg h]
    refine ⟨fun e => ?_, fun e => absurd e h⟩
    split at e
    · cases e
    · split at e <;> cases e
theorem fieldErr_ok (s : List UInt8) (w : Int) : fieldErr s w = 0 ↔ 1 ≤ w ∧ w ≤ 255 ∧ s.contains 0 = false ∧ (s.length : Int) ≤ w := by
  unfold fieldErr
  by_cases h : w < 1 ∨ 255 < w
  · rw [if_pos h]; constructor
    · intro e; cases e
    · intro e; omega
  · rw [if_neg h]
    cases hc : s.contains 0 with
    | true => rw [if_pos rfl]; constructor
              · intro e; cases e
              · rintro ⟨_, _, e, _⟩; cases e
    | false =>
      rw [if_neg (by decide)]
      by_cases h1 : w < s.length
      · rw [if_pos h1]; constructor
        · intro e; cases e
        · intro e; omega
      · rw [if_neg h1]; exact ⟨fun _ => ⟨by omega, by omega, rfl, by omega⟩, fun _ => rfl⟩
theorem fieldT_length (s : List UInt8) (w : Int) (h : fieldErr s w = 0) : (fieldT s w).length = w.toNat := by
  obtain ⟨h1, h2, h3, h4⟩ := (fieldErr_ok s w).1 h
  rw [fieldT, if_pos h, List.length_append, List.length_replicate]; omega
/-- What Name answers. -/
def headL (b : List UInt8) : List UInt8 := b.takeWhile (· != 0)
def isName (b : List UInt8) : Bool := (b.dropWhile (· != 0)).all (· == 0)
def nameT (b : List UInt8) : List UInt8 := if isName b then headL b else []
def nameErr (b : List UInt8) : Int := if isName b then 0 else 2
theorem head_none (s r : List UInt8) (h : s.contains 0 = false) : (s ++ r).takeWhile (· != 0) = s ++ r.takeWhile (· != 0) ∧ (s ++ r).dropWhile (· != 0) = r.dropWhile (· != 0) := by
  induction s with
  | nil => exact ⟨rfl, rfl⟩
  | cons a s ih =>
    simp only [List.contains_cons, Bool.or_eq_false_iff] at h
    have ha : (a != 0) = true := by
      have := h.1
      simp only [bne_iff_ne, ne_eq]
      intro e; subst e; simp at this
    obtain ⟨i1, i2⟩ := ih h.2
    constructor
    · rw [List.cons_append, List.takeWhile_cons, if_pos ha, i1]; rfl
    · rw [List.cons_append, List.dropWhile_cons, if_pos ha, i2]
theorem head_zeros (n : Nat) : (List.replicate n (0 : UInt8)).takeWhile (· != 0) = [] ∧ ((List.replicate n (0 : UInt8)).dropWhile (· != 0)).all (· == 0) = true := by
  cases n with
  | zero => exact ⟨rfl, rfl⟩
  | succ n => constructor <;> simp [List.replicate_succ]
theorem name_field (s : List UInt8) (w : Int) (h : fieldErr s w = 0) : nameT (fieldT s w) = s ∧ nameErr (fieldT s w) = 0 := by
  obtain ⟨h1, h2, h3, h4⟩ := (fieldErr_ok s w).1 h
  obtain ⟨e1, e2⟩ := head_none s (List.replicate (w.toNat - s.length) 0) h3
  obtain ⟨z1, z2⟩ := head_zeros (w.toNat - s.length)
  have hn : isName (fieldT s w) = true := by rw [fieldT, if_pos h, isName, e2]; exact z2
  rw [nameT, nameErr, if_pos hn, if_pos hn]
  refine ⟨?_, rfl⟩
  rw [fieldT, if_pos h, headL, e1, z1, List.append_nil]
/-- The sum of a header's bytes, up to the k-th one. -/
def sumAt (b : List UInt8) (k : Nat) : Nat := if 148 ≤ k ∧ k ≤ 155 then 32 else (b.getD k 0).toNat
def sumTo (b : List UInt8) : Nat → Nat
  | 0 => 0
  | k + 1 => sumTo b k + sumAt b k
theorem sumTo_zero (b : List UInt8) : sumTo b 0 = 0 := rfl
theorem sumTo_succ (b : List UInt8) (k : Nat) : sumTo b (k + 1) = sumTo b k + sumAt b k := rfl
def sumL (b : List UInt8) : Nat := sumTo b b.length
theorem sumAt_lt (b : List UInt8) (k : Nat) : sumAt b k < 256 := by
  unfold sumAt; split
  · omega
  · exact UInt8.toNat_lt _
theorem sumTo_le (b : List UInt8) (k : Nat) : sumTo b k ≤ 255 * k := by
  induction k with
  | zero => exact Nat.le_refl 0
  | succ k ih => have := sumAt_lt b k; rw [sumTo_succ]; omega
theorem sumTo_congr (b c : List UInt8) (k : Nat) (h : ∀ i, i < k → sumAt b i = sumAt c i) : sumTo b k = sumTo c k := by
  induction k with
  | zero => rfl
  | succ k ih => rw [sumTo_succ, sumTo_succ, ih fun i hi => h i (by omega), h k (by omega)]
attribute [irreducible] octs val8 sumTo
end Go.Proofs.YtocpplnnnflekaaDoor
namespace Go.Proofs.YtocpplnnnflekaaDoor
open Go.RowKit
/-- May a byte stand in a part? -/
def isLet (c : UInt8) : Bool := (decide (97 ≤ c.toNat) && decide (c.toNat ≤ 122)) || (decide (65 ≤ c.toNat) && decide (c.toNat ≤ 90)) || (decide (48 ≤ c.toNat) && decide (c.toNat ≤ 57)) || c == 45 || c == 46 || c == 95 || c == 43 || c == 126
/-- Is it a part? -/
def isPart (s : List UInt8) : Bool := s.all isLet && (decide (1 ≤ s.length) && (decide (s.length ≤ 100) && (s != [46] && s != [46, 46])))
/-- What stands between the bytes /. -/
def pieces : List UInt8 → List (List UInt8)
  | [] => [[]]
  | c :: t => if c = 47 then [] :: pieces t else match pieces t with
    | p :: ps => (c :: p) :: ps
    | [] => [[c]]
theorem pieces_ne (s : List UInt8) : pieces s ≠ [] := by
  cases s with
  | nil => simp [pieces]
  | cons c t =>
    rw [pieces]
    by_cases h : c = 47
    · rw [if_pos h]; simp
    · rw [if_neg h]; cases pieces t <;> simp
theorem pieces_end (a : List UInt8) (h : ∀ c ∈ a, c ≠ 47) : pieces a = [a] := by
  induction a with
  | nil => rfl
  | cons c t ih => rw [pieces, if_neg (h c (by simp)), ih fun c hc => h c (by simp [hc])]
theorem pieces_slash (a b : List UInt8) (h : ∀ c ∈ a, c ≠ 47) : pieces (a ++ 47 :: b) = a :: pieces b := by
  induction a with
  | nil => rw [List.nil_append, pieces, if_pos rfl]
  | cons c t ih => rw [List.cons_append, pieces, if_neg (h c (by simp)), ih fun c hc => h c (by simp [hc])]
/-- Of two texts with a byte / between, the pieces are those of the one, then those of the other. -/
theorem pieces_append (a b : List UInt8) : pieces (a ++ 47 :: b) = pieces a ++ pieces b := by
  induction a with
  | nil => simp [pieces]
  | cons c t ih =>
    rw [List.cons_append, pieces, pieces]
    by_cases h : c = 47
    · rw [if_pos h, if_pos h, ih]; rfl
    · rw [if_neg h, if_neg h, ih]
      cases hp : pieces t with
      | nil => exact absurd hp (pieces_ne t)
      | cons p ps => rfl
/-- Is it parts, with / between? -/
def isParts (s : List UInt8) : Bool := (pieces s).all isPart
theorem isParts_append (a b : List UInt8) : isParts (a ++ 47 :: b) = (isParts a && isParts b) := by rw [isParts, pieces_append, List.all_append]; rfl
theorem isParts_nil : isParts [] = false := by decide
theorem isPart_len {s : List UInt8} (h : isPart s = true) : 1 ≤ s.length ∧ s.length ≤ 100 := by
  simp only [isPart, Bool.and_eq_true, decide_eq_true_eq] at h
  exact ⟨h.2.1, h.2.2.1⟩
theorem isPart_let {s : List UInt8} (h : isPart s = true) : ∀ c ∈ s, isLet c = true := by
  simp only [isPart, Bool.and_eq_true, List.all_eq_true] at h
  exact h.1
def cutI (s : List UInt8) : Option Nat := (List.range s.length).find? fun i => s.getD i 0 == 47 && decide (s.length - i - 1 ≤ 100)
theorem cut_some {s : List UInt8} {i : Nat} (h : cutI s = some i) : i < s.length ∧ s.getD i 0 = 47 ∧ s.length - i - 1 ≤ 100 ∧ ∀ j, j < i → s.getD j 0 = 47 → 100 < s.length - j - 1 := by
  unfold cutI at h
  have h1 := List.find?_some h
  have h2 := List.mem_of_find?_eq_some h
  simp only [Bool.and_eq_true, beq_iff_eq, decide_eq_true_eq] at h1
  refine ⟨by simpa using h2, h1.1, h1.2, fun j hj hs => ?_⟩
  obtain ⟨-, as, bs, hab, hn⟩ := List.find?_eq_some_iff_append.1 h
  have hlen : as.length = i := by
    have e1 := congrArg (·[as.length]?) hab
    simp only [List.getElem?_append_right (Nat.le_refl _), Nat.sub_self, List.getElem?_cons_zero] at e1
    rw [List.getElem?_range (by
      rcases Nat.lt_or_ge as.length s.length with h | h
      · exact h
      · have := congrArg List.length hab; simp at this; omega)] at e1
    exact Option.some.inj e1
  have hm : j ∈ as := by
    have e1 := congrArg (·[j]?) hab
    simp only [List.getElem?_append_left (show j < as.length by omega)] at e1
    rw [List.getElem?_range (by have := (show i < s.length by simpa using h2); omega)] at e1
    exact List.mem_of_getElem? e1.symm
  have := hn j hm
  simp only [Bool.not_eq_true', Bool.and_eq_false_iff, beq_eq_false_iff_ne, decide_eq_false_iff_not] at this
  rcases this with h | h
  · exact absurd hs h
  · omega
theorem cut_none {s : List UInt8} (h : cutI s = none) (j : Nat) (hj : j < s.length) (hs : s.getD j 0 = 47) : 100 < s.length - j - 1 := by
  unfold cutI at h
  have := List.find?_eq_none.1 h j (by simpa using hj)
  simp only [Bool.not_eq_true, Bool.and_eq_false_iff, beq_eq_false_iff_ne, decide_eq_false_iff_not] at this
  rcases this with h | h
  · exact absurd hs h
  · omega
theorem cut_of {s : List UInt8} {i : Nat} (hi : i < s.length) (hs : s.getD i 0 = 47) (h1 : s.length - i - 1 ≤ 100) (h2 : ∀ j, j < i → s.getD j 0 = 47 → 100 < s.length - j - 1) : cutI s = some i := by
  cases h : cutI s with
  | none => have := cut_none h i hi hs; omega
  | some k =>
    obtain ⟨k1, k2, k3, k4⟩ := cut_some h
    rcases Nat.lt_trichotomy i k with hlt | rfl | hlt
    · have := k4 i hlt hs; omega
    · rfl
    · have := h2 k hlt k2; omega
theorem cut_no {s : List UInt8} (h2 : ∀ j, j < s.length → s.getD j 0 = 47 → 100 < s.length - j - 1) : cutI s = none := by
  cases h : cutI s with
  | none => rfl
  | some k =>
    obtain ⟨k1, k2, k3, k4⟩ := cut_some h
    have := h2 k k1 k2; omega
/-- A path's two fields. -/
def splitR (s : List UInt8) : Option (List UInt8 × List UInt8) :=
  if isParts s = false ∨ 254 < s.length then none
  else if s.length ≤ 100 then some ([], s)
  else match cutI s with
    | some i => if 155 < i then none else some (s.take i, s.drop (i + 1))
    | none => none
def splitA (s : List UInt8) : List UInt8 := match splitR s with | some x => x.1 | none => []
def splitB (s : List UInt8) : List UInt8 := match splitR s with | some x => x.2 | none => []
def splitErr (s : List UInt8) : Int := match splitR s with | some _ => 0 | none => 9
theorem take_slash {s : List UInt8} {i : Nat} (hi : i < s.length) (hs : s.getD i 0 = 47) : s = s.take i ++ 47 :: s.drop (i + 1) := by
  have e : s[i] = 47 := by rw [← hs]; simp [hi]
  rw [← e, ← List.drop_eq_getElem_cons hi, List.take_append_drop]
/-- What is known of a path that was split. -/
theorem split_some {s a b : List UInt8} (h : splitR s = some (a, b)) : isParts s = true ∧ s.length ≤ 254 ∧ a.length ≤ 155 ∧ b.length ≤ 100 ∧ b ≠ [] ∧ (if a = [] then b else a ++ 47 :: b) = s := by
  unfold splitR at h
  by_cases h1 : isParts s = false ∨ 254 < s.length
  · rw [if_pos h1] at h; cases h
  · rw [if_neg h1] at h
    have hp : isParts s = true := by
      cases hp : isParts s with
      | true => rfl
      | false => exact absurd (.inl hp) h1
    by_cases h2 : s.length ≤ 100
    · rw [if_pos h2] at h
      cases h
      refine ⟨hp, by omega, by simp, h2, fun e => ?_, by rw [if_pos rfl]⟩
      subst e; rw [isParts_nil] at hp; cases hp
    · rw [if_neg h2] at h
      cases hc : cutI s with
      | none => rw [hc] at h; cases h
      | some i =>
        rw [hc] at h
        simp only at h
        obtain ⟨k1, k2, k3, k4⟩ := cut_some hc
        by_cases h3 : 155 < i
        · rw [if_pos h3] at h; cases h
        · rw [if_neg h3] at h
          cases h
          have e := take_slash k1 k2
          have hpp := hp
          rw [e, isParts_append, Bool.and_eq_true] at hpp
          have ha : s.take i ≠ [] := fun e1 => by rw [e1, isParts_nil] at hpp; cases hpp.1
          refine ⟨hp, by omega, by rw [List.length_take]; omega, by rw [List.length_drop]; omega, fun e1 => ?_, by rw [if_neg ha]; exact e.symm⟩
          rw [e1, isParts_nil] at hpp; cases hpp.2
/-- Two fields' path. -/
def joinS (p n : List UInt8) : List UInt8 := if p = [] then n else p ++ 47 :: n
def joinOk (p n : List UInt8) : Bool := splitR (joinS p n) == some (p, n)
def joinT (p n : List UInt8) : List UInt8 := if joinOk p n then joinS p n else []
def joinErr (p n : List UInt8) : Int := if joinOk p n then 0 else 9
theorem join_split {s a b : List UInt8} (h : splitR s = some (a, b)) : joinT a b = s ∧ joinErr a b = 0 := by
  have e : joinS a b = s := (split_some h).2.2.2.2.2
  have : joinOk a b = true := by rw [joinOk, e, h]; simp
  rw [joinT, joinErr, if_pos this, if_pos this]
  exact ⟨e, rfl⟩
/-- A text's last piece. -/
theorem last_piece (a : List UInt8) : (∀ c ∈ a, c ≠ 47) ∨ ∃ h l, a = h ++ 47 :: l ∧ ∀ c ∈ l, c ≠ 47 := by
  induction a with
  | nil => exact .inl fun c hc => by simp at hc
  | cons c t ih =>
    rcases ih with h | ⟨h, l, rfl, hl⟩
    · by_cases hc : c = 47
      · exact .inr ⟨[], t, by rw [hc]; rfl, h⟩
      · exact .inl fun d hd => by
          rcases List.mem_cons.1 hd with rfl | hd
          · exact hc
          · exact h d hd
    · exact .inr ⟨c :: h, l, rfl, hl⟩
theorem isParts_one {l : List UInt8} (hl : ∀ c ∈ l, c ≠ 47) : isParts l = isPart l := by rw [isParts, pieces_end l hl]; simp
end Go.Proofs.YtocpplnnnflekaaDoor
namespace Go.Proofs.YtocpplnnnflekaaDoor
open Go.RowKit
/-- What stands ahead of the sum, and behind it. -/
def hdrA (name : List UInt8) (size : Int) : List UInt8 := fieldT name 100 ++ (putT 420 8 ++ (putT 0 8 ++ (putT 0 8 ++ (putT size 12 ++ putT 0 12))))
def hdrC (pre : List UInt8) : List UInt8 := fieldT [48] 1 ++ (fieldT [] 100 ++ (fieldT [117, 115, 116, 97, 114] 6 ++ (fieldT [48, 48] 2 ++ (fieldT [] 32 ++ (fieldT [] 32 ++ (putT 0 8 ++ (putT 0 8 ++ (fieldT pre 155 ++ fieldT [] 12))))))))
def blank8 : List UInt8 := fieldT [32, 32, 32, 32, 32, 32, 32, 32] 8
/-- A header whose sum is not known yet. -/
def hdr0 (pre name : List UInt8) (size : Int) : List UInt8 := hdrA name size ++ (blank8 ++ hdrC pre)
def hdrS (pre name : List UInt8) (size : Int) : Nat := sumL (hdr0 pre name size)
def sumB (n : Nat) : List UInt8 := putT n 7 ++ [32]
def hdrL (pre name : List UInt8) (size : Int) : List UInt8 := hdrA name size ++ (sumB (hdrS pre name size) ++ hdrC pre)
/-- Fields that fit. -/
def Fit (pre name : List UInt8) (size : Int) : Prop := fieldErr name 100 = 0 ∧ fieldErr pre 155 = 0 ∧ putErr size 12 = 0
theorem hdrA_len {pre name : List UInt8} {size : Int} (h : Fit pre name size) : (hdrA name size).length = 148 := by
  have a := fieldT_length name 100 h.1
  have b := (get_put size 12 h.2.2).2.2
  have c : (putT 420 8).length = 8 := by decide +kernel
  have d : (putT 0 8).length = 8 := by decide +kernel
  have e : (putT 0 12).length = 12 := by decide +kernel
  simp only [hdrA, List.length_append, a, b, c, d, e]; rfl
theorem hdrC_len {pre name : List UInt8} {size : Int} (h : Fit pre name size) : (hdrC pre).length = 356 := by
  have a := fieldT_length pre 155 h.2.1
  have b : (fieldT [48] 1).length = 1 := by decide +kernel
  have c : (fieldT [] 100).length = 100 := by decide +kernel
  have d : (fieldT [117, 115, 116, 97, 114] 6).length = 6 := by decide +kernel
  have e : (fieldT [48, 48] 2).length = 2 := by decide +kernel
  have f : (fieldT [] 32).length = 32 := by decide +kernel
  have g : (putT 0 8).length = 8 := by decide +kernel
  have i : (fieldT [] 12).length = 12 := by decide +kernel
  simp only [hdrC, List.length_append, a, b, c, d, e, f, g, i]; rfl
theorem blank8_eq : blank8 = [32, 32, 32, 32, 32, 32, 32, 32] := by decide +kernel
theorem sumL_le (b : List UInt8) : sumL b ≤ 255 * b.length := sumTo_le b b.length
theorem hdrS_lt {pre name : List UInt8} {size : Int} (h : Fit pre name size) : hdrS pre name size ≤ 130560 := by
  have h1 := sumL_le (hdr0 pre name size)
  rw [hdr0, List.length_append, List.length_append, hdrA_len h, hdrC_len h, blank8_eq] at h1
  exact h1
theorem put7 {n : Nat} (h : n ≤ 130560) : putErr n 7 = 0 := by
  have h8 : (8 : Nat) ^ 6 = 262144 := by decide
  rw [putErr_ok, show (7 : Int).toNat - 1 = 6 from rfl, h8]; omega
theorem sumB_len {n : Nat} (h : n ≤ 130560) : (sumB n).length = 8 := by
  rw [sumB, List.length_append, (get_put n 7 (put7 h)).2.2]; rfl
theorem hdrL_len {pre name : List UInt8} {size : Int} (h : Fit pre name size) : (hdrL pre name size).length = 512 := by
  rw [hdrL, List.length_append, List.length_append, hdrA_len h, sumB_len (hdrS_lt h), hdrC_len h]
theorem hdr0_len {pre name : List UInt8} {size : Int} (h : Fit pre name size) : (hdr0 pre name size).length = 512 := by
  rw [hdr0, List.length_append, List.length_append, hdrA_len h, hdrC_len h, blank8_eq]; rfl
/-- The sum hangs on no byte of its own field. -/
theorem sum_mid (a x y c : List UInt8) (ha : a.length = 148) (hx : x.length = 8) (hy : y.length = 8) : sumL (a ++ (x ++ c)) = sumL (a ++ (y ++ c)) := by
  have hl : (a ++ (x ++ c)).length = (a ++ (y ++ c)).length := by simp [hx, hy]
  rw [sumL, sumL, hl]
  refine sumTo_congr _ _ _ fun i _ => ?_
  unfold sumAt
  by_cases h : 148 ≤ i ∧ i ≤ 155
  · rw [if_pos h, if_pos h]
  · rw [if_neg h, if_neg h]
    congr 1
    rw [List.getD_eq_getElem?_getD, List.getD_eq_getElem?_getD]
    congr 1
    rcases Nat.lt_or_ge i 148 with h1 | h1
    · rw [List.getElem?_append_left (by omega), List.getElem?_append_left (by omega)]
    · rw [List.getElem?_append_right (by omega), List.getElem?_append_right (by omega), List.getElem?_append_right (by omega), List.getElem?_append_right (by omega), hx, hy]
/-- The fields, where they stand. -/
theorem hdr_name {pre name : List UInt8} {size : Int} (h : Fit pre name size) : (hdrL pre name size).take 100 = fieldT name 100 := by
  have a : (fieldT name 100).length = 100 := fieldT_length name 100 h.1
  rw [hdrL, hdrA, List.append_assoc, List.take_left' a]
theorem hdr_size {pre name : List UInt8} {size : Int} (h : Fit pre name size) : ((hdrL pre name size).take 136).drop 124 = putT size 12 := by
  have a : (fieldT name 100).length = 100 := fieldT_length name 100 h.1
  have b : (putT size 12).length = 12 := (get_put size 12 h.2.2).2.2
  have c : (putT 420 8).length = 8 := by decide +kernel
  have d : (putT 0 8).length = 8 := by decide +kernel
  obtain ⟨R, hR⟩ : ∃ R, hdrL pre name size = (fieldT name 100 ++ (putT 420 8 ++ (putT 0 8 ++ putT 0 8))) ++ (putT size 12 ++ R) := ⟨putT 0 12 ++ (sumB (hdrS pre name size) ++ hdrC pre), by rw [hdrL, hdrA]; simp only [List.append_assoc]⟩
  rw [hR, List.drop_take, List.drop_left' (by simp only [List.length_append, a, c, d]), List.take_left' b]
theorem hdr_pre {pre name : List UInt8} {size : Int} (h : Fit pre name size) : ((hdrL pre name size).take 500).drop 345 = fieldT pre 155 := by
  have a : (fieldT pre 155).length = 155 := fieldT_length pre 155 h.2.1
  have b : (fieldT [48] 1).length = 1 := by decide +kernel
  have c : (fieldT [] 100).length = 100 := by decide +kernel
  have d : (fieldT [117, 115, 116, 97, 114] 6).length = 6 := by decide +kernel
  have e : (fieldT [48, 48] 2).length = 2 := by decide +kernel
  have f : (fieldT [] 32).length = 32 := by decide +kernel
  have g : (putT 0 8).length = 8 := by decide +kernel
  obtain ⟨R, hR⟩ : ∃ R, hdrL pre name size = (hdrA name size ++ (sumB (hdrS pre name size) ++ (fieldT [48] 1 ++ (fieldT [] 100 ++ (fieldT [117, 115, 116, 97, 114] 6 ++ (fieldT [48, 48] 2 ++ (fieldT [] 32 ++ (fieldT [] 32 ++ (putT 0 8 ++ putT 0 8))))))))) ++ (fieldT pre 155 ++ R) := ⟨fieldT [] 12, by rw [hdrL, hdrC]; simp only [List.append_assoc]⟩
  rw [hR, List.drop_take, List.drop_left' (by simp only [List.length_append, hdrA_len h, sumB_len (hdrS_lt h), b, c, d, e, f, g]), List.take_left' a]
/-- A path has no byte 0. -/
theorem let_nonzero {c : UInt8} (h : isLet c = true) : c ≠ 0 := fun e => by subst e; revert h; decide
theorem parts_nonzero : ∀ (n : Nat) (s : List UInt8), s.length ≤ n → isParts s = true → ∀ c ∈ s, c ≠ 0 := by
  intro n
  induction n with
  | zero => intro s hs _ c hc; obtain rfl : s = [] := List.eq_nil_of_length_eq_zero (by omega); cases hc
  | succ n ih =>
    intro s hs h c hc
    rcases last_piece s with hno | ⟨a, l, rfl, hl⟩
    · rw [isParts_one hno] at h
      exact let_nonzero (isPart_let h c hc)
    · rw [isParts_append, Bool.and_eq_true] at h
      rcases List.mem_append.1 hc with h1 | h1
      · exact ih a (by simp at hs; omega) h.1 c h1
      · rcases List.mem_cons.1 h1 with h2 | h2
        · rw [h2]; decide
        · have := h.2
          rw [isParts_one hl] at this
          exact let_nonzero (isPart_let this c h2)
/-- What Put answers. -/
def putHErr (p : List UInt8) (n : Int) : Int := if splitErr p ≠ 0 then splitErr p else if n < 0 ∨ 4194304 < n then 8 else 0
def putH (p : List UInt8) (n : Int) : List UInt8 := if putHErr p n = 0 then hdrL (splitA p) (splitB p) n else []
theorem splitErr_cases (p : List UInt8) : (splitErr p = 0 ∧ splitR p = some (splitA p, splitB p)) ∨ (splitErr p = 9 ∧ splitR p = none) := by
  unfold splitErr splitA splitB
  cases splitR p with
  | none => exact .inr ⟨rfl, rfl⟩
  | some x => exact .inl ⟨rfl, rfl⟩
theorem putHErr_ok (p : List UInt8) (n : Int) : putHErr p n = 0 ↔ splitR p = some (splitA p, splitB p) ∧ 0 ≤ n ∧ n ≤ 4194304 := by
  unfold putHErr
  rcases splitErr_cases p with ⟨h, hr⟩ | ⟨h, hr⟩
  · rw [if_neg (by omega)]
    by_cases hn : n < 0 ∨ 4194304 < n
    · rw [if_pos hn]; constructor
      · intro e; cases e
      · intro e; omega
    · rw [if_neg hn]; exact ⟨fun _ => ⟨hr, by omega, by omega⟩, fun _ => rfl⟩
  · rw [if_pos (by omega), h, hr]; constructor
    · intro e; cases e
    · intro e; cases e.1
theorem no_zero {s : List UInt8} (h : ∀ c ∈ s, c ≠ 0) : s.contains 0 = false := by
  rw [Bool.eq_false_iff]; intro h1; exact h 0 (List.contains_iff_mem.1 h1) rfl
theorem fit_of {p : List UInt8} {n : Int} (h : putHErr p n = 0) : Fit (splitA p) (splitB p) n := by
  obtain ⟨hr, h0, h1⟩ := (putHErr_ok p n).1 h
  have hs := split_some hr
  have hz := parts_nonzero p.length p (Nat.le_refl _) hs.1
  have hj : joinS (splitA p) (splitB p) = p := hs.2.2.2.2.2
  have hA : ∀ c ∈ splitA p, c ≠ 0 := fun c hc => hz c (by
    rw [← hj, joinS, if_neg (List.ne_nil_of_mem hc)]; simp [hc])
  have hB : ∀ c ∈ splitB p, c ≠ 0 := fun c hc => hz c (by
    rw [← hj, joinS]; split
    · exact hc
    · simp [hc])
  refine ⟨(fieldErr_ok _ _).2 ⟨by omega, by omega, no_zero hB, by have := hs.2.2.2.1; omega⟩, (fieldErr_ok _ _).2 ⟨by omega, by omega, no_zero hA, by have := hs.2.2.1; omega⟩, ?_⟩
  have h8 : (8 : Nat) ^ 11 = 8589934592 := by decide
  rw [putErr_ok, show (12 : Int).toNat - 1 = 11 from rfl, h8]; omega
/-- What Get answers. -/
def rawPath (b : List UInt8) : List UInt8 := joinT (nameT ((b.take 500).drop 345)) (nameT (b.take 100))
def rawErr (b : List UInt8) : Int := joinErr (nameT ((b.take 500).drop 345)) (nameT (b.take 100))
def rawSize (b : List UInt8) : Int := getN ((b.take 136).drop 124)
def isHdr (b : List UInt8) : Bool := rawErr b == 0 && (putHErr (rawPath b) (rawSize b) == 0 && putH (rawPath b) (rawSize b) == b)
def getHErr (b : List UInt8) : Int := if b.length < 512 then 3 else if isHdr b then 0 else 2
def getHPath (b : List UInt8) : List UInt8 := if getHErr b = 0 then rawPath b else []
def getHSize (b : List UInt8) : Int := if getHErr b = 0 then rawSize b else 0
theorem putH_len {p : List UInt8} {n : Int} (h : putHErr p n = 0) : (putH p n).length = 512 := by rw [putH, if_pos h, hdrL_len (fit_of h)]
theorem isHdr_of {b : List UInt8} (h : isHdr b = true) : rawErr b = 0 ∧ putHErr (rawPath b) (rawSize b) = 0 ∧ putH (rawPath b) (rawSize b) = b := by
  simp only [isHdr, Bool.and_eq_true, beq_iff_eq] at h; exact h
theorem getHErr_zero {b : List UInt8} : getHErr b = 0 ↔ isHdr b = true := by
  unfold getHErr
  by_cases h : b.length < 512
  · rw [if_pos h]
    refine ⟨fun e => (by cases e), fun e => ?_⟩
    obtain ⟨_, h2, h3⟩ := isHdr_of e
    rw [← h3, putH_len h2] at h; omega
  · rw [if_neg h]; split
    · rename_i h1; exact ⟨fun _ => h1, fun _ => rfl⟩
    · rename_i h1; exact ⟨fun e => (by cases e), fun e => absurd e h1⟩
theorem getHErr_cases (b : List UInt8) : getHErr b = 0 ∨ getHErr b = 2 ∨ getHErr b = 3 := by
  unfold getHErr; split
  · exact .inr (.inr rfl)
  · split
    · exact .inl rfl
    · exact .inr (.inl rfl)
theorem raw_put {p : List UInt8} {n : Int} (h : putHErr p n = 0) : rawPath (putH p n) = p ∧ rawErr (putH p n) = 0 ∧ rawSize (putH p n) = n := by
  have hf := fit_of h
  obtain ⟨hr, -, -⟩ := (putHErr_ok p n).1 h
  obtain ⟨j1, j2⟩ := join_split hr
  rw [putH, if_pos h]
  refine ⟨?_, ?_, ?_⟩
  · rw [rawPath, hdr_pre hf, hdr_name hf, (name_field _ 155 hf.2.1).1, (name_field _ 100 hf.1).1]; exact j1
  · rw [rawErr, hdr_pre hf, hdr_name hf, (name_field _ 155 hf.2.1).1, (name_field _ 100 hf.1).1]; exact j2
  · rw [rawSize, hdr_size hf, (get_put n 12 hf.2.2).1]
/-- What was put is got. -/
theorem get_putH {p : List UInt8} {n : Int} (h : putHErr p n = 0) : getHErr (putH p n) = 0 ∧ getHPath (putH p n) = p ∧ getHSize (putH p n) = n := by
  obtain ⟨r1, r2, r3⟩ := raw_put h
  have hi : isHdr (putH p n) = true := by
    simp only [isHdr, Bool.and_eq_true, beq_iff_eq, r1, r2, r3]
    exact ⟨trivial, h, trivial⟩
  have h0 := getHErr_zero.2 hi
  rw [getHPath, getHSize, if_pos h0, if_pos h0, r1, r3]
  exact ⟨h0, rfl, rfl⟩
/-- What is got is put as it stood. -/
theorem put_getH {b : List UInt8} (h : getHErr b = 0) : putHErr (getHPath b) (getHSize b) = 0 ∧ putH (getHPath b) (getHSize b) = b := by
  obtain ⟨-, h2, h3⟩ := isHdr_of (getHErr_zero.1 h)
  rw [getHPath, getHSize, if_pos h, if_pos h]
  exact ⟨h2, h3⟩
theorem getH_bad {b : List UInt8} (h : getHErr b ≠ 0) : getHPath b = [] ∧ getHSize b = 0 := by
  rw [getHPath, getHSize, if_neg h, if_neg h]; exact ⟨rfl, rfl⟩
theorem getH_len {b : List UInt8} (h : getHErr b = 0) : b.length = 512 := by
  obtain ⟨h1, h2⟩ := put_getH h
  rw [← h2, putH_len h1]
/-- No byte of a header may be another one. -/
theorem turned {p : List UInt8} {n : Int} {x : List UInt8} (hl : x.length = 512) (hx : x ≠ putH p n) : getHErr x = 2 ∨ (getHErr x = 0 ∧ (getHPath x ≠ p ∨ getHSize x ≠ n)) := by
  rcases getHErr_cases x with h0 | h2 | h3
  · refine .inr ⟨h0, ?_⟩
    by_cases h1 : getHPath x = p
    · refine .inr fun h2 => hx ?_
      rw [← (put_getH h0).2, h1, h2]
    · exact .inl h1
  · exact .inl h2
  · unfold getHErr at h3; rw [if_neg (by omega)] at h3; split at h3 <;> cases h3
theorem shorter {x : List UInt8} (h : x.length < 512) : getHErr x = 3 := by unfold getHErr; rw [if_pos h]
/-- Headers are alike just if their paths and sizes are. -/
theorem putH_inj {p q : List UInt8} {n m : Int} (h : putHErr p n = 0) (h' : putHErr q m = 0) : (putH p n = putH q m) ↔ (p = q ∧ n = m) := by
  constructor
  · intro e
    have a := get_putH h
    have b := get_putH h'
    rw [e] at a
    exact ⟨a.2.1.symm.trans b.2.1, a.2.2.symm.trans b.2.2⟩
  · rintro ⟨rfl, rfl⟩; rfl
/-- A size up to whole blocks. -/
def roundZ (z : Int) : Int := if z ≤ 0 then 0 else (z + 511) / 512 * 512
end Go.Proofs.YtocpplnnnflekaaDoor
