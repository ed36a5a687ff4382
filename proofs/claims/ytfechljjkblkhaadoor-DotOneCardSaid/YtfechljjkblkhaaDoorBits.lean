/-
Plain mathematics of 32-bit words: what the functions of layer 1 compute, on BitVec 32, and the laws between them; no program is named here.
-/
import Derived.WalkKit
namespace Go.Proofs.YtfechljjkblkhaaDoor
open Go.RowKit
def u32 (x : BitVec 32) : Int := x.toNat
theorem u32_lo (x : BitVec 32) : 0 ≤ u32 x := by unfold u32; omega
theorem u32_hi (x : BitVec 32) : u32 x < 4294967296 := by unfold u32; have := x.isLt; omega
theorem u32_inj {x y : BitVec 32} (h : u32 x = u32 y) : x = y := by
  unfold u32 at h; exact BitVec.eq_of_toNat_eq (by omega)
theorem u32_of (a : Int) (h0 : 0 ≤ a) (h1 : a < 4294967296) : u32 (BitVec.ofInt 32 a) = a := by
  unfold u32; rw [BitVec.toNat_ofInt]; omega
theorem u32_wf (x : BitVec 32) : (Lit.int .u32 (u32 x)).wf = true := WalkArith.wf_u32 ⟨u32_lo x, by have := u32_hi x; omega⟩
theorem wf_u32_of {a : Int} (h : (Lit.int .u32 a).wf = true) : ∃ x : BitVec 32, a = u32 x := by
  simp [Lit.wf, IntKind.min, IntKind.max, IntKind.signed, IntKind.bits] at h
  exact ⟨BitVec.ofInt 32 a, (u32_of a (by omega) (by omega)).symm⟩
/-- Numbers that all fit 32 bits are words. -/
theorem words_of : ∀ {zs : List Int}, (∀ z ∈ zs, (Lit.int .u32 z).wf = true) → ∃ xs : List (BitVec 32), zs = xs.map u32
  | [], _ => ⟨[], rfl⟩
  | z :: zs, h => by
    obtain ⟨x, rfl⟩ := wf_u32_of (h z (by simp))
    obtain ⟨xs, rfl⟩ := words_of (zs := zs) fun z hz => h z (by simp [hz])
    exact ⟨x :: xs, rfl⟩
theorem words3 {zs : List Int} (hl : zs.length = 3) (h : ∀ z ∈ zs, (Lit.int .u32 z).wf = true) : ∃ x y z, zs = [u32 x, u32 y, u32 z] := by
  obtain ⟨xs, rfl⟩ := words_of h
  match xs, hl with
  | [x, y, z], _ => exact ⟨x, y, z, rfl⟩
theorem bd_i16 {a : Int} (h : (Lit.int .i16 a).wf = true) : -32768 ≤ a ∧ a ≤ 32767 := by
  simpa [Lit.wf, IntKind.min, IntKind.max, IntKind.signed, IntKind.bits] using h
@[go_sem] theorem u32_xor (x y : BitVec 32) : bits .xor .u32 (u32 x) (u32 y) = u32 (x ^^^ y) := by
  unfold u32; rw [u32_xor_nat _ _ x.isLt y.isLt, BitVec.toNat_xor]
@[go_sem] theorem u32_and' (x y : BitVec 32) : bits .and .u32 (u32 x) (u32 y) = u32 (x &&& y) := by
  unfold u32; rw [u32_and_nat _ _ x.isLt y.isLt, BitVec.toNat_and]
@[go_sem] theorem u32_or' (x y : BitVec 32) : bits .or .u32 (u32 x) (u32 y) = u32 (x ||| y) := by
  unfold u32; rw [u32_or_nat _ _ x.isLt y.isLt, BitVec.toNat_or]
@[go_sem] theorem u32_not (x : BitVec 32) : bits .xor .u32 4294967295 (u32 x) = u32 (~~~x) := by
  have h : (4294967295 : Int) = u32 (BitVec.allOnes 32) := by decide
  rw [h, u32_xor, BitVec.allOnes_xor]
@[go_sem] theorem u32_not' (x : BitVec 32) : bits .xor .u32 IntKind.u32.max (u32 x) = u32 (~~~x) := u32_not x
@[go_sem] theorem and31 (n : Int) : bits .and .u64 (IntKind.u64.wrap n) 31 = n % 32 := by
  have h := u64_and (IntKind.u64.wrap n) 31 (by rw [IntKind.wrap_u64]; omega) (by rw [IntKind.wrap_u64]; omega) (by decide) (by decide)
  rw [h, IntKind.wrap_u64, show (31 : Int).toNat = 31 from rfl, nat_mask5]
  omega
@[go_sem] theorem u32_shr (x : BitVec 32) (k : Nat) : u32 x / 2 ^ k = u32 (x >>> k) := by
  unfold u32; rw [BitVec.toNat_ushiftRight, Nat.shiftRight_eq_div_pow]; simp
@[go_sem] theorem u32_shr3 (x : BitVec 32) : u32 x / (8 : Int) = u32 (x >>> 3) := u32_shr x 3
@[go_sem] theorem u32_shr10 (x : BitVec 32) : u32 x / (1024 : Int) = u32 (x >>> 10) := u32_shr x 10
@[go_sem] theorem u32_shl (x : BitVec 32) (k : Nat) : u32 x * 2 ^ k % 4294967296 = u32 (x <<< k) := by
  unfold u32; rw [BitVec.toNat_shiftLeft, Nat.shiftLeft_eq]; simp
@[go_sem] theorem u32_beq (x y : BitVec 32) : (u32 x == u32 y) = (x == y) := by
  rw [Bool.eq_iff_iff, beq_iff_eq, beq_iff_eq]; exact ⟨u32_inj, congrArg _⟩
/-- x turned by n places to the right. -/
def rot (x : BitVec 32) (n : Int) : BitVec 32 := x >>> (n % 32).toNat ||| x <<< (32 - n % 32).toNat
theorem rot_get (x : BitVec 32) (n : Int) (i : Nat) (hi : i < 32) : (rot x n).getLsbD i = x.getLsbD (((i : Int) + n) % 32).toNat := by
  unfold rot
  rw [BitVec.getLsbD_or, BitVec.getLsbD_ushiftRight, BitVec.getLsbD_shiftLeft]
  by_cases h : i + (n % 32).toNat < 32
  · rw [show (((i : Int) + n) % 32).toNat = (n % 32).toNat + i from by omega]
    simp [hi, show i < (32 - n % 32).toNat from by omega]
  · rw [show (((i : Int) + n) % 32).toNat = i - (32 - n % 32).toNat from by omega]
    rw [BitVec.getLsbD_of_ge x ((n % 32).toNat + i) (by omega)]
    simp [hi, show ¬ i < (32 - n % 32).toNat from by omega]
theorem rot_rot (x : BitVec 32) (a b : Int) : rot (rot x a) b = rot x (a + b) := by
  apply BitVec.eq_of_getLsbD_eq
  intro i hi
  rw [rot_get _ _ _ hi, rot_get _ _ _ (by omega), rot_get _ _ _ hi]
  congr 1; omega
theorem rot_mod (x : BitVec 32) (a : Int) : rot x (a + 32) = rot x a := by
  unfold rot; rw [show (a + 32) % 32 = a % 32 from by omega]
theorem rot_zero (x : BitVec 32) : rot x 0 = x := by
  apply BitVec.eq_of_getLsbD_eq
  intro i hi
  rw [rot_get _ _ _ hi]; congr 1; omega
theorem rot_xor (x y : BitVec 32) (n : Int) : rot (x ^^^ y) n = rot x n ^^^ rot y n := by
  apply BitVec.eq_of_getLsbD_eq
  intro i hi
  rw [BitVec.getLsbD_xor, rot_get _ _ _ hi, rot_get _ _ _ hi, rot_get _ _ _ hi, BitVec.getLsbD_xor]
/-- The constants of the rounds. -/
def kTab : List Int := [1116352408, 1899447441, 3049323471, 3921009573, 961987163, 1508970993, 2453635748, 2870763221, 3624381080, 310598401, 607225278, 1426881987, 1925078388, 2162078206, 2614888103, 3248222580, 3835390401, 4022224774, 264347078, 604807628, 770255983, 1249150122, 1555081692, 1996064986, 2554220882, 2821834349, 2952996808, 3210313671, 3336571891, 3584528711, 113926993, 338241895, 666307205, 773529912, 1294757372, 1396182291, 1695183700, 1986661051, 2177026350, 2456956037, 2730485921, 2820302411, 3259730800, 3345764771, 3516065817, 3600352804, 4094571909, 275423344, 430227734, 506948616, 659060556, 883997877, 958139571, 1322822218, 1537002063, 1747873779, 1955562222, 2024104815, 2227730452, 2361852424, 2428436474, 2756734187, 3204031479, 3329325298]
theorem rot_step (x : BitVec 32) : u32 x / (2 : Int) + u32 x % (2 : Int) * (2147483648 : Int) = u32 (rot x 1) := by
  have h := x.isLt
  have e : (rot x 1).toNat = x.toNat / 2 + x.toNat % 2 * 2147483648 := by
    show (x >>> 1 ||| x <<< 31).toNat = _
    rw [BitVec.toNat_or, BitVec.toNat_ushiftRight, BitVec.toNat_shiftLeft, Nat.shiftRight_eq_div_pow, Nat.shiftLeft_eq, Nat.or_comm,
      nat_join 31 _ _ (by omega) (by omega)]
    omega
  unfold u32
  omega
theorem tmod32 (n : Int) : (-32 < n.tmod 32 ∧ n.tmod 32 < 32) ∧ (n.tmod 32 % 32 = n % 32) ∧ (0 ≤ n → 0 ≤ n.tmod 32) := by
  by_cases h : 0 ≤ n
  · rw [Int.tmod_eq_emod_of_nonneg h]; omega
  · have e : n.tmod 32 = -((-n) % 32) := by
      rw [← Int.tmod_eq_emod_of_nonneg (by omega), Int.neg_tmod]; omega
    omega
theorem rot_tmod (x : BitVec 32) (n : Int) (k : Nat) (hk : (k : Int) = n.tmod 32 ∨ (k : Int) = n.tmod 32 + 32) : rot x k = rot x n := by
  have h : ((k : Int) % 32) = n % 32 := by
    have := (tmod32 n).2.1
    omega
  unfold rot; rw [h]
@[go_sem] theorem u32_tdiv2 (x : BitVec 32) : (u32 x).tdiv (2 : Int) % (4294967296 : Int) = u32 (x >>> 1) := by
  have h0 := u32_lo x
  have h1 := u32_hi x
  rw [Int.tdiv_eq_ediv_of_nonneg h0, ← u32_shr x 1]
  omega
theorem u32_half (x : BitVec 32) (k : Nat) : u32 (x >>> k) / (2 : Int) = u32 (x >>> (k + 1)) := by
  have := u32_shr (x >>> k) 1
  rw [← BitVec.shiftRight_add] at this
  exact this
def ch (x y z : BitVec 32) : BitVec 32 := x &&& y ^^^ ~~~x &&& z
def maj (x y z : BitVec 32) : BitVec 32 := x &&& y ^^^ x &&& z ^^^ y &&& z
def big0 (x : BitVec 32) : BitVec 32 := rot x 2 ^^^ rot x 13 ^^^ rot x 22
def big1 (x : BitVec 32) : BitVec 32 := rot x 6 ^^^ rot x 11 ^^^ rot x 25
def small0 (x : BitVec 32) : BitVec 32 := rot x 7 ^^^ rot x 18 ^^^ x >>> 3
def small1 (x : BitVec 32) : BitVec 32 := rot x 17 ^^^ rot x 19 ^^^ x >>> 10
theorem xor6 (a b c d e f : BitVec 32) : (a ^^^ b) ^^^ (c ^^^ d) ^^^ (e ^^^ f) = (a ^^^ c ^^^ e) ^^^ (b ^^^ d ^^^ f) := by
  ac_rfl
theorem big0_xor (x y : BitVec 32) : big0 (x ^^^ y) = big0 x ^^^ big0 y := by simp only [big0, rot_xor, xor6]
theorem big1_xor (x y : BitVec 32) : big1 (x ^^^ y) = big1 x ^^^ big1 y := by simp only [big1, rot_xor, xor6]
theorem small0_xor (x y : BitVec 32) : small0 (x ^^^ y) = small0 x ^^^ small0 y := by simp only [small0, rot_xor, BitVec.ushiftRight_xor_distrib, xor6]
theorem small1_xor (x y : BitVec 32) : small1 (x ^^^ y) = small1 x ^^^ small1 y := by simp only [small1, rot_xor, BitVec.ushiftRight_xor_distrib, xor6]
theorem ch_not (x y z : BitVec 32) : ch (~~~x) y z = ch x z y := by
  ext i hi; simp [ch]; cases x[i] <;> cases y[i] <;> cases z[i] <;> rfl
theorem ch_same (x y : BitVec 32) : ch x y y = y := by
  ext i hi; simp [ch]; cases x[i] <;> cases y[i] <;> rfl
theorem maj_12 (x y z : BitVec 32) : maj x y z = maj y x z := by
  ext i hi; simp [maj]; cases x[i] <;> cases y[i] <;> cases z[i] <;> rfl
theorem maj_13 (x y z : BitVec 32) : maj x y z = maj z y x := by
  ext i hi; simp [maj]; cases x[i] <;> cases y[i] <;> cases z[i] <;> rfl
theorem maj_same (x z : BitVec 32) : maj x x z = x := by
  ext i hi; simp [maj]
theorem maj_not (x y z : BitVec 32) : maj (~~~x) (~~~y) (~~~z) = ~~~(maj x y z) := by
  ext i hi; simp [maj]; cases x[i] <;> cases y[i] <;> cases z[i] <;> rfl
theorem maj_ch (x y z : BitVec 32) : maj x y z = ch (x ^^^ y) z y := by
  ext i hi; simp [ch, maj]; cases x[i] <;> cases y[i] <;> cases z[i] <;> rfl
/-- The bit of a word at a place, as a number. -/
def bt (x : BitVec 32) (i : Nat) : Int := u32 (x >>> i) % 2
theorem bt_get (x : BitVec 32) (i : Nat) : bt x i = if x.getLsbD i then 1 else 0 := by
  unfold bt u32
  rw [BitVec.toNat_ushiftRight, Nat.shiftRight_eq_div_pow, BitVec.getLsbD, Nat.testBit_eq_decide_div_mod_eq]
  generalize x.toNat / 2 ^ i = m
  by_cases h : m % 2 = 1
  · rw [if_pos (by simpa using h)]; omega
  · rw [if_neg (by simpa using h)]; omega
theorem bt_bd (x : BitVec 32) (i : Nat) : 0 ≤ bt x i ∧ bt x i ≤ 1 := by rw [bt_get]; split <;> simp
/-- A word down to a place is twice that down to the next one, and the bit there. -/
theorem u32_down (x : BitVec 32) (i : Nat) : 2 * u32 (x >>> (i + 1)) + bt x i = u32 (x >>> i) := by
  rw [← u32_half]; unfold bt; omega
theorem bt_ch1 (x y z : BitVec 32) (i : Nat) (h : (bt x i == 1) = true) : bt (ch x y z) i = bt y i := by
  have e : x.getLsbD i = true := by
    rw [bt_get] at h; by_cases g : x.getLsbD i = true
    · exact g
    · simp [g] at h
  rw [bt_get, bt_get, ch, BitVec.getLsbD_xor, BitVec.getLsbD_and, BitVec.getLsbD_and, BitVec.getLsbD_not, e]
  simp
theorem bt_ch0 (x y z : BitVec 32) (i : Nat) (hi : i < 32) (h : (bt x i == 1) = false) : bt (ch x y z) i = bt z i := by
  have e : x.getLsbD i = false := by
    rw [bt_get] at h; by_cases g : x.getLsbD i = true
    · simp [g] at h
    · simpa using g
  rw [bt_get, bt_get, ch, BitVec.getLsbD_xor, BitVec.getLsbD_and, BitVec.getLsbD_and, BitVec.getLsbD_not, e]
  simp [hi]
theorem bt_maj (x y z : BitVec 32) (i : Nat) : bt (maj x y z) i = if 2 ≤ bt x i + bt y i + bt z i then 1 else 0 := by
  rw [bt_get, bt_get, bt_get, bt_get]; simp only [maj, BitVec.getLsbD_xor, BitVec.getLsbD_and]
  cases x.getLsbD i <;> cases y.getLsbD i <;> cases z.getLsbD i <;> rfl
end Go.Proofs.YtfechljjkblkhaaDoor
