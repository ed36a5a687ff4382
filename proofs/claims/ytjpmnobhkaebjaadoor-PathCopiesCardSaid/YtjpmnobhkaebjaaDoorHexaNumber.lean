/-
A number as a text, walked over the landed code (as in HexaCode, for seats that reach no more of package hexa).
-/
import Derived.Test.YtjpmnobhkaebjaaDoorHexaFace
import Derived.Test.YtjpmnobhkaebjaaDoorShelf
namespace Go.Proofs.YtjpmnobhkaebjaaDoor
open Go.RowKit
theorem dec_digs (m : Nat) : Lib.decDigits m = digs m := by
  induction m using Nat.strongRecOn with
  | _ m ih =>
    by_cases h : m < 10
    · rw [digs_lo m h, Lib.decDigits, dif_pos h]
    · rw [digs_hi m (by omega), Lib.decDigits, dif_neg h, ih _ (by omega)]
theorem itoa_num (n : Int) : Lib.itoa n = numL n := by
  unfold Lib.itoa numL
  by_cases h : n < 0
  · rw [if_pos h, if_pos h, dec_digs]
  · rw [if_neg h, if_neg h, dec_digs]; congr 1; omega
theorem number_any (w : World) (n : Int) (h0 : -9223372036854775808 ≤ n) (h1 : n < 9223372036854775808) (hT : PowTab w) :
    Calls Tryd.prog 30 #[.int .i64 n] w fun e w' => e = .returned (.string (str (numL n))) ∧ Below w.heap.size w w' := by
  have HC := Lib.hid (Tryd.strconv_FormatInt_10 n h0 (by omega) w hT)
  go_enter Tryd.func30, Tryd.ntmps30
  go_wp2_with (first | (go_at_call 38; refine HC.out.mono ?_; rintro e w' ⟨rfl, k, os, rfl⟩))
  go_ret
  exact ⟨by rw [itoa_num]; rfl, ⟨rfl, rfl, rfl, by simp [Sort.grow, World.drewN], fun i hi => Array.getElem?_append_left hi⟩⟩
end Go.Proofs.YtjpmnobhkaebjaaDoor
