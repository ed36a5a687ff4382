/-
Plain mathematics: the first 64 primes, and that the search by trial division finds them; the constants of the rounds are their roots.
-/
import Derived.Test.YtblmmpgainogbaaWide
import Derived.Test.YtblmmpgainogbaaBits
namespace Go.Proofs.Ytblmmpgainogbaa
def primes : List Nat := [2, 3, 5, 7, 11, 13, 17, 19, 23, 29, 31, 37, 41, 43, 47, 53, 59, 61, 67, 71, 73, 79, 83, 89, 97, 101, 103, 107, 109, 113, 127, 131, 137, 139, 149, 151, 157, 163, 167, 173, 179, 181, 191, 193, 197, 199, 211, 223, 227, 229, 233, 239, 241, 251, 257, 263, 269, 271, 277, 281, 283, 293, 307, 311]
def prime (i : Nat) : Nat := primes.getD i 0
/-- No number from 2 up to below d divides n. -/
def freeTo (n d : Nat) : Bool := (List.range (d - 2)).all fun i => n % (i + 2) != 0
theorem freeTo_two (n : Nat) : freeTo n 2 = true := rfl
theorem freeTo_succ (n d : Nat) (h : 2 ≤ d) : freeTo n (d + 1) = (freeTo n d && n % d != 0) := by
  unfold freeTo
  rw [show d + 1 - 2 = (d - 2) + 1 from by omega, List.range_succ, List.all_append]
  simp [show d - 2 + 2 = d from by omega]
/-- The first d from 2 on whose square is above n. -/
def firstAbove (n : Nat) : Nat → Nat → Nat
  | 0, d => d
  | f + 1, d => if d * d ≤ n then firstAbove n f (d + 1) else d
def isPrime (n : Nat) : Bool := freeTo n (firstAbove n 20 2)
/-- Where m lies from the c-th prime on (or c is 0), and below the next one: the next number is a prime just if it is that one. -/
def okAt (c m : Nat) : Bool := !((c == 0 || decide (prime (c - 1) ≤ m)) && decide (1 ≤ m) && decide (m < prime c)) || (isPrime (m + 1) == (m + 1 == prime c))
theorem ok_all : ((List.range 64).all fun c => (List.range 312).all fun m => okAt c m) = true := by decide +kernel
theorem above_all : ((List.range 312).all fun n => decide (n < firstAbove n 20 2 * firstAbove n 20 2)) = true := by decide +kernel
theorem rootK_all : ((List.range 64).all fun i => ((rootAt (prime i) 3 37 % 4294967296 : Nat) : Int) == kTab.getD i 0) = true := by decide +kernel
theorem rootF_all : ((List.range 8).map fun i => ((rootAt (prime i) 2 37 % 4294967296 : Nat) : Int)) = [1779033703, 3144134277, 1013904242, 2773480762, 1359893119, 2600822924, 528734635, 1541459225] := by decide +kernel
theorem prime_at (c : Nat) (h : c < 64) : 2 ≤ prime c ∧ prime c ≤ 311 := by
  have h2 : ((List.range 64).all fun c => decide (2 ≤ prime c ∧ prime c ≤ 311)) = true := by decide +kernel
  exact of_decide_eq_true (List.all_eq_true.1 h2 c (by simpa using h))
theorem prime_lt (c : Nat) (h : c + 1 < 64) : prime c < prime (c + 1) := by
  have h2 : ((List.range 63).all fun c => decide (prime c < prime (c + 1))) = true := by decide +kernel
  exact of_decide_eq_true (List.all_eq_true.1 h2 c (by simp; omega))
theorem next_prime (c m : Nat) (hc : c < 64) (hm : m ≤ 311) (hm1 : 1 ≤ m) (hlo : c = 0 ∨ prime (c - 1) ≤ m) (hhi : m < prime c) : isPrime (m + 1) = (m + 1 == prime c) := by
  have h1 := List.all_eq_true.1 (List.all_eq_true.1 ok_all c (by simpa using hc)) m (by simp; omega)
  unfold okAt at h1
  have e : ((c == 0 || decide (prime (c - 1) ≤ m)) && decide (1 ≤ m) && decide (m < prime c)) = true := by
    rcases hlo with h | h
    · subst h; simp [hm1, hhi]
    · simp [h, hm1, hhi]
  rw [e] at h1
  simpa using h1
theorem firstAbove_step (n d : Nat) (hd : d < 22) (h : d * d ≤ n) : firstAbove n (22 - d) d = firstAbove n (22 - (d + 1)) (d + 1) := by
  rw [show 22 - d = (22 - (d + 1)) + 1 from by omega]
  show (if d * d ≤ n then _ else _) = _
  rw [if_pos h]
theorem firstAbove_stop (n d : Nat) (h : ¬ d * d ≤ n) : firstAbove n (22 - d) d = d := by
  cases e : 22 - d with
  | zero => rfl
  | succ f => show (if d * d ≤ n then _ else _) = _; rw [if_neg h]
theorem small_root (d n : Nat) (h : d * d ≤ n) (hn : n ≤ 312) : d < 22 := by
  rcases Nat.lt_or_ge d 22 with g | g
  · exact g
  · have := Nat.mul_le_mul g g; omega
theorem mod_ne (m d : Nat) : (((m : Int) + 1) % (d : Int) != 0) = ((m + 1) % d != 0) := by
  have e : ((m : Int) + 1) % (d : Int) = (((m + 1) % d : Nat) : Int) := by rw [Int.natCast_emod]; rfl
  rw [e, Bool.eq_iff_iff, bne_iff_ne, bne_iff_ne]; omega
/-- A first word of a digest, as a root. -/
def fWord (i : Nat) : Int := (squareRoot (prime i) : Int) % 4294967296
def fAt (k j : Nat) : Int := if j < k then fWord j else 0
def fA (k : Nat) : Array Value := #[.int .u32 (fAt k 0), .int .u32 (fAt k 1), .int .u32 (fAt k 2), .int .u32 (fAt k 3), .int .u32 (fAt k 4), .int .u32 (fAt k 5), .int .u32 (fAt k 6), .int .u32 (fAt k 7)]
def zeros8w : Array Value := #[.int .u32 0, .int .u32 0, .int .u32 0, .int .u32 0, .int .u32 0, .int .u32 0, .int .u32 0, .int .u32 0]
theorem fA_zero : fA 0 = zeros8w := by simp [fA, fAt, zeros8w]
theorem fA_get (j k : Nat) (h : k < 8) : (fA j)[k]? = some (.int .u32 (fAt j k)) := by
  match k, h with
  | 0, _ | 1, _ | 2, _ | 3, _ | 4, _ | 5, _ | 6, _ | 7, _ => rfl
theorem fA_set (k : Nat) (h : k < 8) : (fA k).setIfInBounds k (.int .u32 (fWord k)) = fA (k + 1) := by
  match k, h with
  | 0, _ | 1, _ | 2, _ | 3, _ | 4, _ | 5, _ | 6, _ | 7, _ => simp [fA, fAt]
theorem fWord_all : (fWord 0 = 1779033703 ∧ fWord 1 = 3144134277 ∧ fWord 2 = 1013904242 ∧ fWord 3 = 2773480762) ∧ (fWord 4 = 1359893119 ∧ fWord 5 = 2600822924 ∧ fWord 6 = 528734635 ∧ fWord 7 = 1541459225) := by
  have h := rootF_all
  simp only [List.range, List.range.loop, List.map_cons, List.map_nil, List.cons.injEq] at h
  obtain ⟨h0, h1, h2, h3, h4, h5, h6, h7, _⟩ := h
  unfold fWord
  rw [squareRoot_eq, squareRoot_eq, squareRoot_eq, squareRoot_eq, squareRoot_eq, squareRoot_eq, squareRoot_eq, squareRoot_eq]
  refine ⟨⟨?_, ?_, ?_, ?_⟩, ?_, ?_, ?_, ?_⟩ <;> omega
attribute [irreducible] prime
end Go.Proofs.Ytblmmpgainogbaa
