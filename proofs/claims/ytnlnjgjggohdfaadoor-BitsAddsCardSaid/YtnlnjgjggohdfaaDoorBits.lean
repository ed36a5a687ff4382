/-
Plain mathematics of 32-bit words: what the functions of layer 1 compute, on BitVec 32, and the laws between them; no program is named here.
-/
import Derived.WalkKit
namespace Go.Proofs.YtnlnjgjggohdfaaDoor
open Go.RowKit
def u32 (x : BitVec 32) : Int := x.toNat
theorem u32_lo (x : BitVec 32) : 0 ≤ u32 x := by unfold u32; omega
theorem u32_hi (x : BitVec 32) : u32 x < 4294967296 := by unfold u32; have := x.isLt; omega
theorem u32_inj {x y : BitVec 32} (h : u32 x = u32 y) : x = y := by
  unfold u32 at h; exact BitVec.eq_of_toNat_eq (by omega)
theorem u32_of (a : Int) (h0 : 0 ≤ a) (h1 : a < 4294967296) : u32 (BitVec.ofInt 32 a) = a := by
  unfold u32; rw [BitVec.toNat_ofInt]; omega
theorem u32_wf (x : BitVec 32) : (Lit.int .u32 (u32 x)).wf = true := WalkArith.wf_u32 ⟨u32_lo x, by have := u32_hi x; omega⟩
theorem wf_u32_of {a : Int} (h : (Lit.int .u32 a).wf = true) : ∃ x : BitVec 32, a = u32 x := by
  simp [Lit.wf, IntKind.min, IntKind.max, IntKind.signed, IntKind.bits] at h
  exact ⟨BitVec.ofInt 32 a, (u32_of a (by omega) (by omega)).symm⟩
theorem bd_i16 {a : Int} (h : (Lit.int .i16 a).wf = true) : -32768 ≤ a ∧ a ≤ 32767 := by
  simpa [Lit.wf, IntKind.min, IntKind.max, IntKind.signed, IntKind.bits] using h
@[go_sem] theorem u32_xor (x y : BitVec 32) : bits .xor .u32 (u32 x) (u32 y) = u32 (x ^^^ y) := by
  unfold u32; rw [u32_xor_nat _ _ x.isLt y.isLt, BitVec.toNat_xor]
@[go_sem] theorem u32_and' (x y : BitVec 32) : bits .and .u32 (u32 x) (u32 y) = u32 (x &&& y) := by
  unfold u32; rw [u32_and_nat _ _ x.isLt y.isLt, BitVec.toNat_and]
@[go_sem] theorem u32_or' (x y : BitVec 32) : bits .or .u32 (u32 x) (u32 y) = u32 (x ||| y) := by
  unfold u32; rw [u32_or_nat _ _ x.isLt y.isLt, BitVec.toNat_or]
@[go_sem] theorem u32_not (x : BitVec 32) : bits .xor .u32 4294967295 (u32 x) = u32 (~~~x) := by
  have h : (4294967295 : Int) = u32 (BitVec.allOnes 32) := by decide
  rw [h, u32_xor, BitVec.allOnes_xor]
@[go_sem] theorem u32_not' (x : BitVec 32) : bits .xor .u32 IntKind.u32.max (u32 x) = u32 (~~~x) := u32_not x
@[go_sem] theorem and31 (n : Int) : bits .and .u64 (IntKind.u64.wrap n) 31 = n % 32 := by
  have h := u64_and (IntKind.u64.wrap n) 31 (by rw [IntKind.wrap_u64]; omega) (by rw [IntKind.wrap_u64]; omega) (by decide) (by decide)
  rw [h, IntKind.wrap_u64, show (31 : Int).toNat = 31 from rfl, nat_mask5]
  omega
@[go_sem] theorem u32_shr (x : BitVec 32) (k : Nat) : u32 x / 2 ^ k = u32 (x >>> k) := by
  unfold u32; rw [BitVec.toNat_ushiftRight, Nat.shiftRight_eq_div_pow]; simp
@[go_sem] theorem u32_shr3 (x : BitVec 32) : u32 x / (8 : Int) = u32 (x >>> 3) := u32_shr x 3
@[go_sem] theorem u32_shr10 (x : BitVec 32) : u32 x / (1024 : Int) = u32 (x >>> 10) := u32_shr x 10
@[go_sem] theorem u32_shl (x : BitVec 32) (k : Nat) : u32 x * 2 ^ k % 4294967296 = u32 (x <<< k) := by
  unfold u32; rw [BitVec.toNat_shiftLeft, Nat.shiftLeft_eq]; simp
@[go_sem] theorem u32_beq (x y : BitVec 32) : (u32 x == u32 y) = (x == y) := by
  rw [Bool.eq_iff_iff, beq_iff_eq, beq_iff_eq]; exact ⟨u32_inj, congrArg _⟩
/-- x turned by n places to the right. -/
def rot (x : BitVec 32) (n : Int) : BitVec 32 := x >>> (n % 32).toNat ||| x <<< (32 - n % 32).toNat
theorem rot_get (x : BitVec 32) (n : Int) (i : Nat) (hi : i < 32) : (rot x n).getLsbD i = x.getLsbD (((i : Int) + n) % 32).toNat := by
  unfold rot
  rw [BitVec.getLsbD_or, BitVec.getLsbD_ushiftRight, BitVec.getLsbD_shiftLeft]
  by_cases h : i + (n % 32).toNat < 32
  · rw [show (((i : Int) + n) % 32).toNat = (n % 32).toNat + i from by omega]
    simp [hi, show i < (32 - n % 32).toNat from by omega]
  · rw [show (((i : Int) + n) % 32).toNat = i - (32 - n % 32).toNat from by omega]
    rw [BitVec.getLsbD_of_ge x ((n % 32).toNat + i) (by omega)]
    simp [hi, show ¬ i < (32 - n % 32).toNat from by omega]
theorem rot_rot (x : BitVec 32) (a b : Int) : rot (rot x a) b = rot x (a + b) := by
  apply BitVec.eq_of_getLsbD_eq
  intro i hi
  rw [rot_get _ _ _ hi, rot_get _ _ _ (by omega), rot_get _ _ _ hi]
  congr 1; omega
theorem rot_mod (x : BitVec 32) (a : Int) : rot x (a + 32) = rot x a := by
  unfold rot; rw [show (a + 32) % 32 = a % 32 from by omega]
theorem rot_zero (x : BitVec 32) : rot x 0 = x := by
  apply BitVec.eq_of_getLsbD_eq
  intro i hi
  rw [rot_get _ _ _ hi]; congr 1; omega
theorem rot_xor (x y : BitVec 32) (n : Int) : rot (x ^^^ y) n = rot x n ^^^ rot y n := by
  apply BitVec.eq_of_getLsbD_eq
  intro i hi
  rw [BitVec.getLsbD_xor, rot_get _ _ _ hi, rot_get _ _ _ hi, rot_get _ _ _ hi, BitVec.getLsbD_xor]
/-- The constants of the rounds. -/
def kTab : List Int := [1116352408, 1899447441, 3049323471, 3921009573, 961987163, 1508970993, 2453635748, 2870763221, 3624381080, 310598401, 607225278, 1426881987, 1925078388, 2162078206, 2614888103, 3248222580, 3835390401, 4022224774, 264347078, 604807628, 770255983, 1249150122, 1555081692, 1996064986, 2554220882, 2821834349, 2952996808, 3210313671, 3336571891, 3584528711, 113926993, 338241895, 666307205, 773529912, 1294757372, 1396182291, 1695183700, 1986661051, 2177026350, 2456956037, 2730485921, 2820302411, 3259730800, 3345764771, 3516065817, 3600352804, 4094571909, 275423344, 430227734, 506948616, 659060556, 883997877, 958139571, 1322822218, 1537002063, 1747873779, 1955562222, 2024104815, 2227730452, 2361852424, 2428436474, 2756734187, 3204031479, 3329325298]
def ch (x y z : BitVec 32) : BitVec 32 := x &&& y ^^^ ~~~x &&& z
def maj (x y z : BitVec 32) : BitVec 32 := x &&& y ^^^ x &&& z ^^^ y &&& z
def big0 (x : BitVec 32) : BitVec 32 := rot x 2 ^^^ rot x 13 ^^^ rot x 22
def big1 (x : BitVec 32) : BitVec 32 := rot x 6 ^^^ rot x 11 ^^^ rot x 25
def small0 (x : BitVec 32) : BitVec 32 := rot x 7 ^^^ rot x 18 ^^^ x >>> 3
def small1 (x : BitVec 32) : BitVec 32 := rot x 17 ^^^ rot x 19 ^^^ x >>> 10
theorem xor6 (a b c d e f : BitVec 32) : (a ^^^ b) ^^^ (c ^^^ d) ^^^ (e ^^^ f) = (a ^^^ c ^^^ e) ^^^ (b ^^^ d ^^^ f) := by
  ac_rfl
theorem big0_xor (x y : BitVec 32) : big0 (x ^^^ y) = big0 x ^^^ big0 y := by simp only [big0, rot_xor, xor6]
theorem big1_xor (x y : BitVec 32) : big1 (x ^^^ y) = big1 x ^^^ big1 y := by simp only [big1, rot_xor, xor6]
theorem small0_xor (x y : BitVec 32) : small0 (x ^^^ y) = small0 x ^^^ small0 y := by simp only [small0, rot_xor, BitVec.ushiftRight_xor_distrib, xor6]
theorem small1_xor (x y : BitVec 32) : small1 (x ^^^ y) = small1 x ^^^ small1 y := by simp only [small1, rot_xor, BitVec.ushiftRight_xor_distrib, xor6]
theorem ch_not (x y z : BitVec 32) : ch (~~~x) y z = ch x z y := by
  ext i hi; simp [ch]; cases x[i] <;> cases y[i] <;> cases z[i] <;> rfl
theorem ch_same (x y : BitVec 32) : ch x y y = y := by
  ext i hi; simp [ch]; cases x[i] <;> cases y[i] <;> rfl
theorem maj_12 (x y z : BitVec 32) : maj x y z = maj y x z := by
  ext i hi; simp [maj]; cases x[i] <;> cases y[i] <;> cases z[i] <;> rfl
theorem maj_13 (x y z : BitVec 32) : maj x y z = maj z y x := by
  ext i hi; simp [maj]; cases x[i] <;> cases y[i] <;> cases z[i] <;> rfl
theorem maj_same (x z : BitVec 32) : maj x x z = x := by
  ext i hi; simp [maj]
theorem maj_not (x y z : BitVec 32) : maj (~~~x) (~~~y) (~~~z) = ~~~(maj x y z) := by
  ext i hi; simp [maj]; cases x[i] <;> cases y[i] <;> cases z[i] <;> rfl
theorem maj_ch (x y z : BitVec 32) : maj x y z = ch (x ^^^ y) z y := by
  ext i hi; simp [ch, maj]; cases x[i] <;> cases y[i] <;> cases z[i] <;> rfl
end Go.Proofs.YtnlnjgjggohdfaaDoor
