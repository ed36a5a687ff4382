/-
The walk of the statement of layer 2 on the words of a schedule.
-/
import Derived.Test.YtblmmpgainogbaaLaw02Awake
import Derived.Test.YtblmmpgainogbaaHeld
import Derived.Test.YtblmmpgainogbaaRef01Walks
import Derived.Deep.QuietTactic
import Derived.BigQuiet
namespace Go.Proofs.Ytblmmpgainogbaa
open Go.RowKit
theorem sched_back (f : Nat → BitVec 32) (t : Nat) (h : 16 ≤ t) : sched f t - small1 (sched f (t - 2)) - sched f (t - 7) - small0 (sched f (t - 15)) = sched f (t - 16) := by
  rw [sched_hi f t h]
  generalize small1 (sched f (t - 2)) = a
  generalize sched f (t - 7) = b
  generalize small0 (sched f (t - 15)) = c
  generalize sched f (t - 16) = d
  rw [show a + b + c + d = d + c + b + a from by ac_rfl, BitVec.add_sub_cancel, BitVec.add_sub_cancel, BitVec.add_sub_cancel]
set_option maxHeartbeats 4000000 in
theorem blockWords_walk (f : Nat → BitVec 32) (a : Int) (ha0 : 0 ≤ a) (ha1 : a < 256) (w : World) :
    Calls Try.prog 6 #[.agg (row .u8 64 f), .int .u8 a] w fun e w' => e = .returned (.bool true) ∧ Below w.heap.size w w' := by
  obtain ⟨m, hm⟩ : ∃ m : Nat, (m : Int) = a % 48 := ⟨(a % 48).toNat, by omega⟩
  obtain ⟨i, hi⟩ : ∃ i : Nat, (i : Int) = a % 16 := ⟨(a % 16).toNat, by omega⟩
  have hm48 : m < 48 := by omega
  have hi16 : i < 16 := by omega
  have em : a % 48 = (m : Int) := hm.symm
  have ei : a % 16 = (i : Int) := hi.symm
  clear hm hi
  have H0 := heap_last w (.cells (row .u8 64 f) 22 (0, 0))
  go_enter Try.func6, Try.ntmps6
  go_wp2_with (first | (go_at_call 7; refine (awake2_any _).mono ?_; rintro e w1 ⟨rfl, hb1⟩; have H1 := Lib.hid ((hb1.block w.heap.size (by simp)).trans H0); have hlt : w.heap.size < w1.heap.size := Nat.lt_of_lt_of_le (by simp) hb1.size; have B1 : Below w.heap.size w w1 := below_next ((Below.refl _ _).alloc (Nat.le_refl _) _) hb1; clear H0 hb1) | (refine wpList_load_row rfl 22 (.tmp 2) rfl w.heap.size rfl 22 _ (0, 0) _ H1.out Try.underlying22 rfl (by kernel_rfl) ?_) | (go_at_call 8; refine (schedule_any f _).mono ?_; rintro e w2 ⟨rfl, hb2⟩) | (refine store_new rfl 25 (.tmp 6) (.tmp 13) rfl rfl w2 _ _ 25 rfl rfl rfl (by kernel_rfl) rfl (row_one _ _ _) ?_; intro w3 hh3 hb3 hs3; have H3 := Lib.hid ((hb3.block w.heap.size (Nat.lt_of_lt_of_le hlt hb2.size)).trans ((hb2.block w.heap.size hlt).trans H1.out)); have B3 := below_next (below_next B1 hb2) hb3; have HH := Lib.hid hh3; clear hh3 hb3 hb2 hs3 B1 hlt))
  obtain ⟨t, ht⟩ : ∃ t : Nat, (16 : Int) + (m : Int) = (t : Int) := ⟨16 + m, by omega⟩
  rw [ht]
  have ht16 : 16 ≤ t := by omega
  have ht64 : t < 64 := by omega
  clear ht hm48 em ei
  obtain ⟨p0, hp0⟩ : ∃ p : Nat, p = 4 * i := ⟨_, rfl⟩
  obtain ⟨p1, hp1⟩ : ∃ p : Nat, p = 4 * i + 1 := ⟨_, rfl⟩
  obtain ⟨p2, hp2⟩ : ∃ p : Nat, p = 4 * i + 2 := ⟨_, rfl⟩
  obtain ⟨p3, hp3⟩ : ∃ p : Nat, p = 4 * i + 3 := ⟨_, rfl⟩
  have e0 := wrap_at (4 * (i : Int)) p0 (by omega) (by omega)
  have e1 := wrap_at ((p0 : Int) + 1) p1 (by omega) (by omega)
  have e2 := wrap_at ((p0 : Int) + 2) p2 (by omega) (by omega)
  have e3 := wrap_at ((p0 : Int) + 3) p3 (by omega) (by omega)
  have q0 : (p0 : Int) < 64 := by omega
  have q1 : (p1 : Int) < 64 := by omega
  have q2 : (p2 : Int) < 64 := by omega
  have q3 : (p3 : Int) < 64 := by omega
  have b0 := (cell_of_row w3 _ p0 _ _ _ H3.out).trans (row_get .u8 64 f p0 (by omega))
  have b1 := (cell_of_row w3 _ p1 _ _ _ H3.out).trans (row_get .u8 64 f p1 (by omega))
  have b2 := (cell_of_row w3 _ p2 _ _ _ H3.out).trans (row_get .u8 64 f p2 (by omega))
  have b3 := (cell_of_row w3 _ p3 _ _ _ H3.out).trans (row_get .u8 64 f p3 (by omega))
  have HW := Lib.hid (show f p0 <<< 24 ||| f p1 <<< 16 ||| f p2 <<< 8 ||| f p3 = sched f i by rw [sched_lo f i hi16, word_def, hp0, hp1, hp2, hp3])
  clear hp0 hp1 hp2 hp3
  go_quiet (fail)
  have HH4 := Lib.hid (show (w3.drewN nq).heap[w2.heap.size]? = _ from HH.out)
  have B4 := below_draws B3 nq
  clear HH H3 B3 b0 b1 b2 b3 e0 e1 e2 e3 q0 q1 q2 q3
  generalize w3.drewN nq = w4 at *
  go_wp2
  rw [HW.out]
  obtain ⟨p0, hp0⟩ : ∃ p : Nat, p = t - 2 := ⟨_, rfl⟩
  obtain ⟨p1, hp1⟩ : ∃ p : Nat, p = t - 7 := ⟨_, rfl⟩
  obtain ⟨p2, hp2⟩ : ∃ p : Nat, p = t - 15 := ⟨_, rfl⟩
  obtain ⟨p3, hp3⟩ : ∃ p : Nat, p = t - 16 := ⟨_, rfl⟩
  have e0 := wrap_at ((t : Int) - 2) p0 (by omega) (by omega)
  have e1 := wrap_at ((t : Int) - 7) p1 (by omega) (by omega)
  have e2 := wrap_at ((t : Int) - 15) p2 (by omega) (by omega)
  have e3 := wrap_at ((t : Int) - 16) p3 (by omega) (by omega)
  have q0 : (p0 : Int) < 64 := by omega
  have q1 : (p1 : Int) < 64 := by omega
  have q2 : (p2 : Int) < 64 := by omega
  have q3 : (p3 : Int) < 64 := by omega
  have q4 : (t : Int) < 64 := by omega
  have q5 : (i : Int) < 64 := by omega
  have b0 := (cell_of_row w4 _ p0 _ _ _ HH4.out).trans (row_get .u32 64 (sched f) p0 (by omega))
  have b1 := (cell_of_row w4 _ p1 _ _ _ HH4.out).trans (row_get .u32 64 (sched f) p1 (by omega))
  have b2 := (cell_of_row w4 _ p2 _ _ _ HH4.out).trans (row_get .u32 64 (sched f) p2 (by omega))
  have b4 := (cell_of_row w4 _ t _ _ _ HH4.out).trans (row_get .u32 64 (sched f) t (by omega))
  have HW2 := Lib.hid (show sched f t - small1 (sched f p0) - sched f p1 - small0 (sched f p2) = sched f p3 by rw [hp0, hp1, hp2, hp3]; exact sched_back f t ht16)
  have HT := Lib.hid (show (t : Int) - 16 = (p3 : Int) by omega)
  clear hp0 hp1 hp2 hp3
  go_quiet (first | (go_at_call 15; refine quiet_same (refSmall1_any _ _)) | (go_at_call 16; refine quiet_same (refSmall0_any _ _)))
  have HH5 := Lib.hid (show (w4.drewN nq).heap[w2.heap.size]? = _ from HH4.out)
  have B5 := below_draws B4 nq
  clear HH4 B4 b0 b1 b2 b4
  generalize w4.drewN nq = w5 at *
  have b3 := (cell_of_row w5 _ p3 _ _ _ HH5.out).trans (row_get .u32 64 (sched f) p3 (by omega))
  have b5 := (cell_of_row w5 _ i _ _ _ HH5.out).trans (row_get .u32 64 (sched f) i (by omega))
  clear HH5
  go_wp2
  rw [show (sched f t - small1 (sched f p0) - sched f p1 - small0 (sched f p2) == sched f p3) = true from by rw [HW2.out]; simp]
  go_ret
  exact ⟨rfl, B5⟩
end Go.Proofs.Ytblmmpgainogbaa
