/-
Plain mathematics of SHA-256 over bytes: what stands behind n bytes, the words behind blocks in turn, the digest; no program is named here.
-/
import Derived.Test.YtfechljjkblkhaaDoorBlock
namespace Go.Proofs.YtfechljjkblkhaaDoor
open Go.RowKit
/-- Bytes as cells. -/
def bytesL (bs : List (BitVec 32)) : List Value := bs.map fun x => Value.int .u8 (u32 x)
theorem bytesL_length (bs : List (BitVec 32)) : (bytesL bs).length = bs.length := by simp [bytesL]
theorem bytesL_append (as bs : List (BitVec 32)) : bytesL (as ++ bs) = bytesL as ++ bytesL bs := by simp [bytesL]
theorem bytesL_get (bs : List (BitVec 32)) (i : Nat) (h : i < bs.length) : (bytesL bs)[i]? = some (.int .u8 (u32 (bs.getD i 0#32))) := by
  simp [bytesL, h]
theorem bytesL_one (bs : List (BitVec 32)) : ∀ v ∈ bytesL bs, v.oneCell' = true := by
  intro v hv
  obtain ⟨x, _, rfl⟩ := List.mem_map.1 hv
  rfl
/-- How many bytes 0 stand behind n bytes and the first one. -/
def padZeros (n : Nat) : Nat := (119 - n % 64) % 64
theorem padZeros_lt (n : Nat) : padZeros n < 64 := by unfold padZeros; omega
theorem padZeros_end (n : Nat) : (n + 1 + padZeros n + 8) % 64 = 0 := by unfold padZeros; omega
theorem padZeros_not (n j : Nat) (h : j < padZeros n) : (n + 1 + j + 8) % 64 ≠ 0 := by unfold padZeros at h; omega
/-- A byte of how many bits n bytes are. -/
def lenByte (n i : Nat) : BitVec 32 := BitVec.ofNat 32 (8 * n / 256 ^ (7 - i) % 256)
theorem u32_lenByte (n i : Nat) : u32 (lenByte n i) = ((8 * n / 256 ^ (7 - i) % 256 : Nat) : Int) := by
  unfold u32 lenByte
  rw [BitVec.toNat_ofNat, Nat.mod_eq_of_lt]
  exact Nat.lt_of_lt_of_le (Nat.mod_lt _ (by decide)) (by decide)
/-- The padding, with j of its zeros. -/
def padHead (j : Nat) : List (BitVec 32) := 128#32 :: List.replicate j 0#32
theorem padHead_length (j : Nat) : (padHead j).length = j + 1 := by simp [padHead]
theorem padHead_succ (j : Nat) : padHead (j + 1) = padHead j ++ [0#32] := by
  simp [padHead, List.replicate_succ']
/-- The padding, with i of its last eight bytes. -/
def padUpTo (n i : Nat) : List (BitVec 32) := padHead (padZeros n) ++ (List.range i).map (lenByte n)
theorem padUpTo_zero (n : Nat) : padUpTo n 0 = padHead (padZeros n) := by simp [padUpTo]
theorem padUpTo_succ (n i : Nat) : padUpTo n (i + 1) = padUpTo n i ++ [lenByte n i] := by
  simp [padUpTo, List.range_succ]
theorem padUpTo_length (n i : Nat) : (padUpTo n i).length = padZeros n + 1 + i := by simp [padUpTo, padHead_length]
/-- What stands behind n bytes. -/
def padB (n : Nat) : List (BitVec 32) := padUpTo n 8
theorem padB_length (n : Nat) : (padB n).length = padZeros n + 9 := by simp [padB, padUpTo_length]
theorem padB_whole (n : Nat) : (n + (padB n).length) % 64 = 0 := by rw [padB_length]; have := padZeros_end n; omega
theorem padB_bytes (n : Nat) : ∀ x ∈ padB n, u32 x < 256 := by
  intro x hx
  simp only [padB, padUpTo, padHead, List.mem_append, List.mem_cons, List.mem_replicate, List.mem_map] at hx
  rcases hx with (rfl | ⟨_, rfl⟩) | ⟨i, _, rfl⟩
  · decide
  · decide
  · rw [u32_lenByte]; omega
/-- The words at first. -/
def firstF : Nat → BitVec 32 := eight 1779033703 3144134277 1013904242 2773480762 1359893119 2600822924 528734635 1541459225
/-- The bytes of a block. -/
def blockF (bs : List (BitVec 32)) (k i : Nat) : BitVec 32 := bs.getD (64 * k + i) 0#32
/-- The words behind the first k blocks. -/
def wordsF (bs : List (BitVec 32)) : Nat → Nat → BitVec 32
  | 0 => firstF
  | k + 1 => compressed (wordsF bs k) (blockF bs k)
theorem wordsF_zero (bs : List (BitVec 32)) : wordsF bs 0 = firstF := rfl
theorem wordsF_succ (bs : List (BitVec 32)) (k : Nat) : wordsF bs (k + 1) = compressed (wordsF bs k) (blockF bs k) := rfl
attribute [irreducible] wordsF
/-- A byte of eight words, the highest first. -/
def digestF (h : Nat → BitVec 32) (i : Nat) : BitVec 32 := (h (i / 4) >>> (8 * (3 - i % 4))) &&& 255#32
theorem blockF_lt (bs : List (BitVec 32)) (hb : ∀ x ∈ bs, u32 x < 256) (k i : Nat) : u32 (blockF bs k i) < 256 := by
  unfold blockF
  by_cases h : 64 * k + i < bs.length
  · rw [show bs.getD (64 * k + i) 0#32 = bs[64 * k + i] from by simp [h]]
    exact hb _ (List.getElem_mem h)
  · rw [show bs.getD (64 * k + i) 0#32 = 0#32 from by simp [h]]; decide
@[go_sem] theorem u32_div256 (x : BitVec 32) : u32 x / (256 : Int) = u32 (x >>> 8) := u32_shr x 8
theorem u32_mod256 (x : BitVec 32) : u32 x % (256 : Int) = u32 (x &&& 255#32) := by
  unfold u32
  rw [BitVec.toNat_and, show (255#32).toNat = 2 ^ 8 - 1 from rfl, Nat.and_two_pow_sub_one_eq_mod]
  omega
@[go_sem] theorem u32_tdiv256 (x : BitVec 32) : (u32 x).tdiv (256 : Int) % (4294967296 : Int) = u32 (x >>> 8) := by
  have h0 := u32_lo x
  have h1 := u32_hi x
  rw [Int.tdiv_eq_ediv_of_nonneg h0, ← u32_div256]
  omega
@[go_sem] theorem u32_tmod256 (x : BitVec 32) : (u32 x).tmod (256 : Int) % (256 : Int) = u32 (x &&& 255#32) := by
  rw [Int.tmod_eq_emod_of_nonneg (u32_lo x), ← u32_mod256]
  omega
theorem digest_step (x : BitVec 32) (k : Nat) : x >>> k >>> 8 = x >>> (k + 8) := (BitVec.shiftRight_add x k 8).symm
/-- All bytes that are digested. -/
def paddedB (bs : List (BitVec 32)) : List (BitVec 32) := bs ++ padB bs.length
theorem paddedB_length (bs : List (BitVec 32)) : (paddedB bs).length % 64 = 0 := by
  unfold paddedB; rw [List.length_append]; exact padB_whole _
/-- The digest of bytes. -/
def sumF (bs : List (BitVec 32)) : Nat → BitVec 32 := digestF (wordsF (paddedB bs) ((paddedB bs).length / 64))
end Go.Proofs.YtfechljjkblkhaaDoor
