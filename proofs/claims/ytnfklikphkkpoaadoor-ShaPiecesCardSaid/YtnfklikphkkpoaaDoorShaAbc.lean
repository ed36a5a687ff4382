/-
Plain mathematics: the digest of the bytes a, b, c, reckoned by the kernel; no program is named here.
-/
import Derived.Test.YtnfklikphkkpoaaDoorSha
namespace Go.Proofs.YtnfklikphkkpoaaDoor
/-- The schedule as a list, the last word first. -/
def schedRev (f : Nat → BitVec 32) : Nat → List (BitVec 32)
  | 0 => []
  | t + 1 => (if t < 16 then f (4 * t) <<< 24 ||| f (4 * t + 1) <<< 16 ||| f (4 * t + 2) <<< 8 ||| f (4 * t + 3)
      else small1 ((schedRev f t).getD 1 0) + (schedRev f t).getD 6 0 + small0 ((schedRev f t).getD 14 0) + (schedRev f t).getD 15 0) :: schedRev f t
theorem schedRev_eq (f : Nat → BitVec 32) : ∀ t, schedRev f t = ((List.range t).map (sched f)).reverse
  | 0 => rfl
  | t + 1 => by
    have ih := schedRev_eq f t
    have get : ∀ j, j < t → (schedRev f t).getD j 0 = sched f (t - 1 - j) := fun j hj => by
      rw [ih]
      simp [List.getD, hj]
    rw [List.range_succ, List.map_append, List.reverse_append, ← ih]
    show _ :: _ = _ :: _
    congr 1
    by_cases h : t < 16
    · rw [if_pos h, sched_lo f t h, word_def]
    · rw [if_neg h, get 1 (by omega), get 6 (by omega), get 14 (by omega), get 15 (by omega), sched_hi f t (by omega)]
      rfl
/-- Eight words at hand. -/
structure S8 where
  a : BitVec 32
  b : BitVec 32
  c : BitVec 32
  d : BitVec 32
  e : BitVec 32
  f : BitVec 32
  g : BitVec 32
  h : BitVec 32
def S8.fn (s : S8) : Nat → BitVec 32 := eight s.a s.b s.c s.d s.e s.f s.g s.h
def S8.step (s : S8) (k w : BitVec 32) : S8 :=
  ⟨s.h + big1 s.e + ch s.e s.f s.g + k + w + (big0 s.a + maj s.a s.b s.c), s.a, s.b, s.c, s.d + (s.h + big1 s.e + ch s.e s.f s.g + k + w), s.e, s.f, s.g⟩
theorem S8.step_fn (s : S8) (k w : BitVec 32) : (s.step k w).fn = roundF s.fn k w := rfl
/-- The rounds, over the words behind one another, the last first. -/
def runS (s : S8) : List (BitVec 32) → S8
  | [] => s
  | w :: ws => (runS s ws).step (kB ws.length) w
theorem runS_fn (s : S8) (f : Nat → BitVec 32) : ∀ n, (runS s (schedRev f n)).fn = rounds s.fn (sched f) n
  | 0 => by rw [rounds_zero]; rfl
  | n + 1 => by
    have ih := runS_fn s f n
    have hl : (schedRev f n).length = n := by rw [schedRev_eq]; simp
    have hc : ∃ x, schedRev f (n + 1) = x :: schedRev f n ∧ x = sched f n := by
      refine ⟨sched f n, ?_, rfl⟩
      rw [schedRev_eq, schedRev_eq, List.range_succ, List.map_append, List.reverse_append]; rfl
    obtain ⟨x, hx, rfl⟩ := hc
    rw [hx, rounds_succ, ← ih]
    show ((runS s (schedRev f n)).step (kB (schedRev f n).length) _).fn = _
    rw [hl, S8.step_fn]
def first8 : S8 := ⟨1779033703, 3144134277, 1013904242, 2773480762, 1359893119, 2600822924, 528734635, 1541459225⟩
theorem first8_fn : first8.fn = firstF := rfl
/-- The block of a, b, c. -/
def abcF (i : Nat) : BitVec 32 := [97#32, 98#32, 99#32, 128#32].getD i (if i = 63 then 24#32 else 0#32)
def abc : List (BitVec 32) := [97#32, 98#32, 99#32]
theorem abc_length : (paddedB abc).length = 64 := by decide +kernel
theorem abc_block : ∀ i, i < 64 → blockF (paddedB abc) 0 i = abcF i := by decide +kernel
def abc8 : S8 := runS first8 (schedRev abcF 64)
def knownB : List Nat := [0xba, 0x78, 0x16, 0xbf, 0x8f, 0x01, 0xcf, 0xea, 0x41, 0x41, 0x40, 0xde, 0x5d, 0xae, 0x22, 0x23, 0xb0, 0x03, 0x61, 0xa3, 0x96, 0x17, 0x7a, 0x9c, 0xb4, 0x10, 0xff, 0x61, 0xf2, 0x00, 0x15, 0xad]
theorem abc8_all : abc8.a + first8.a = 0xba7816bf#32 ∧ abc8.b + first8.b = 0x8f01cfea#32 ∧ abc8.c + first8.c = 0x414140de#32 ∧ abc8.d + first8.d = 0x5dae2223#32 ∧
    abc8.e + first8.e = 0xb00361a3#32 ∧ abc8.f + first8.f = 0x96177a9c#32 ∧ abc8.g + first8.g = 0xb410ff61#32 ∧ abc8.h + first8.h = 0xf20015ad#32 := by decide +kernel
theorem abc_fn : blockF (paddedB abc) 0 = abcF := by
  funext i
  by_cases h : i < 64
  · exact abc_block i h
  · unfold blockF
    have hl := abc_length
    rw [show (paddedB abc).getD (64 * 0 + i) 0#32 = 0#32 from by
      rw [List.getD_eq_getElem?_getD, List.getElem?_eq_none (by omega)]; rfl]
    unfold abcF
    rw [List.getD_eq_getElem?_getD, List.getElem?_eq_none (by simp; omega)]
    simp; omega
def knownW : Nat → BitVec 32 := eight 0xba7816bf#32 0x8f01cfea#32 0x414140de#32 0x5dae2223#32 0xb00361a3#32 0x96177a9c#32 0xb410ff61#32 0xf20015ad#32
theorem abc_words : ∀ i, i < 8 → wordsF (paddedB abc) 1 i = knownW i := by
  rw [wordsF_succ, wordsF_zero, abc_fn]
  have e : ∀ i, compressed firstF abcF i = abc8.fn i + first8.fn i := fun i => by
    rw [← compressed_def, first8_fn]
    unfold abc8
    rw [runS_fn, first8_fn]
  obtain ⟨h0, h1, h2, h3, h4, h5, h6, h7⟩ := abc8_all
  exact eight_lt (p := fun i x => x = knownW i) ((e 0).trans h0) ((e 1).trans h1) ((e 2).trans h2) ((e 3).trans h3) ((e 4).trans h4) ((e 5).trans h5) ((e 6).trans h6) ((e 7).trans h7)
theorem known_bytes : ∀ i, i < 32 → digestF knownW i = BitVec.ofNat 32 (knownB.getD i 0) := by decide +kernel
theorem sum_abc : row .u8 32 (sumF abc) = row .u8 32 fun i => BitVec.ofNat 32 (knownB.getD i 0) := row_congr _ _ _ _ fun i hi => by
  unfold sumF
  rw [abc_length]
  show digestF (wordsF (paddedB abc) 1) i = _
  rw [← known_bytes i hi]
  unfold digestF
  rw [abc_words (i / 4) (by omega)]
end Go.Proofs.YtnfklikphkkpoaaDoor
