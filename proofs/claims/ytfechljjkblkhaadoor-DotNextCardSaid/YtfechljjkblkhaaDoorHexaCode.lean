/-
What package hexa answers, walked over the landed code: Text, Parse, Number, Read.
-/
import Derived.Test.YtfechljjkblkhaaDoorHexaFace
import Derived.Test.YtfechljjkblkhaaDoorRef04Read
import Derived.Test.YtfechljjkblkhaaDoorShelf
namespace Go.Proofs.YtfechljjkblkhaaDoor
open Go.RowKit
/-- What worth answers. -/
def worthI (c : UInt8) : Nat := match fig c with | some n => n | none => 16
theorem worth_any (c : UInt8) (w : World) : Calls Tryd.prog 31 #[.int .u8 (c.toNat : Int)] w fun e w' => e = .returned (.int .u8 (worthI c : Int)) ∧ w = w' := by
  obtain ⟨x, hx⟩ : ∃ x : Nat, x = c.toNat := ⟨_, rfl⟩
  have hxlt := UInt8.toNat_lt c
  have HX := Lib.hid hx
  rw [← hx] at hxlt ⊢
  clear hx
  by_cases h1 : 48 ≤ x ∧ x ≤ 57
  · have HW := Lib.hid (show worthI c = x - 48 by unfold worthI fig; rw [← HX.out, if_pos h1])
    obtain ⟨d, hd⟩ : ∃ d : Nat, d = x - 48 := ⟨_, rfl⟩
    have b1 : decide ((48 : Int) ≤ (x : Int)) = true := decide_eq_true (by omega)
    have b2 : decide ((x : Int) ≤ 57) = true := decide_eq_true (by omega)
    have e1 : (x : Int) - 48 = (d : Int) := by omega
    have e2 : IntKind.u8.wrap (d : Int) = (d : Int) := by rw [IntKind.wrap_u8]; omega
    have HD := Lib.hid hd
    clear hd h1 hxlt
    go_enter Tryd.func31, Tryd.ntmps31
    go_wp2
    go_ret
    exact ⟨by rw [HW.out, ← HD.out]; rfl, rfl⟩
  · by_cases h2 : 97 ≤ x ∧ x ≤ 102
    · have HW := Lib.hid (show worthI c = x - 87 by unfold worthI fig; rw [← HX.out, if_neg h1, if_pos h2])
      obtain ⟨d, hd⟩ : ∃ d : Nat, d = x - 97 := ⟨_, rfl⟩
      obtain ⟨g, hg⟩ : ∃ g : Nat, g = d + 10 := ⟨_, rfl⟩
      have b1 : decide ((48 : Int) ≤ (x : Int)) = true := decide_eq_true (by omega)
      have b2 : decide ((x : Int) ≤ 57) = false := decide_eq_false (by omega)
      have b3 : decide ((97 : Int) ≤ (x : Int)) = true := decide_eq_true (by omega)
      have b4 : decide ((x : Int) ≤ 102) = true := decide_eq_true (by omega)
      have e1 : (x : Int) - 97 = (d : Int) := by omega
      have e2 : IntKind.u8.wrap (d : Int) = (d : Int) := by rw [IntKind.wrap_u8]; omega
      have e3 : (d : Int) + 10 = (g : Int) := by omega
      have e4 : IntKind.u8.wrap (g : Int) = (g : Int) := by rw [IntKind.wrap_u8]; omega
      have HD := Lib.hid (show g = x - 87 by omega)
      clear hd hg h1 h2 hxlt
      go_enter Tryd.func31, Tryd.ntmps31
      go_wp2
      go_ret
      exact ⟨by rw [HW.out, ← HD.out]; rfl, rfl⟩
    · have HW := Lib.hid (show worthI c = 16 by unfold worthI fig; rw [← HX.out, if_neg h1, if_neg h2])
      by_cases c1 : 48 ≤ x
      · have b1 : decide ((48 : Int) ≤ (x : Int)) = true := decide_eq_true (by omega)
        have b2 : decide ((x : Int) ≤ 57) = false := decide_eq_false (by omega)
        by_cases c2 : 97 ≤ x
        · have b3 : decide ((97 : Int) ≤ (x : Int)) = true := decide_eq_true (by omega)
          have b4 : decide ((x : Int) ≤ 102) = false := decide_eq_false (by omega)
          clear h1 h2 c1 c2 hxlt
          go_enter Tryd.func31, Tryd.ntmps31
          go_wp2
          go_ret
          exact ⟨by rw [HW.out]; rfl, rfl⟩
        · have b3 : decide ((97 : Int) ≤ (x : Int)) = false := decide_eq_false (by omega)
          clear h1 h2 c1 c2 hxlt
          go_enter Tryd.func31, Tryd.ntmps31
          go_wp2
          go_ret
          exact ⟨by rw [HW.out]; rfl, rfl⟩
      · have b1 : decide ((48 : Int) ≤ (x : Int)) = false := decide_eq_false (by omega)
        have b3 : decide ((97 : Int) ≤ (x : Int)) = false := decide_eq_false (by omega)
        clear h1 h2 c1 hxlt
        go_enter Tryd.func31, Tryd.ntmps31
        go_wp2
        go_ret
        exact ⟨by rw [HW.out]; rfl, rfl⟩
theorem dec_digs (m : Nat) : Lib.decDigits m = digs m := by
  induction m using Nat.strongRecOn with
  | _ m ih =>
    by_cases h : m < 10
    · rw [digs_lo m h, Lib.decDigits, dif_pos h]
    · rw [digs_hi m (by omega), Lib.decDigits, dif_neg h, ih _ (by omega)]
theorem itoa_num (n : Int) : Lib.itoa n = numL n := by
  unfold Lib.itoa numL
  by_cases h : n < 0
  · rw [if_pos h, if_pos h, dec_digs]
  · rw [if_neg h, if_neg h, dec_digs]; congr 1; omega
theorem number_any (w : World) (n : Int) (h0 : -9223372036854775808 ≤ n) (h1 : n < 9223372036854775808) (hT : PowTab w) :
    Calls Tryd.prog 27 #[.int .i64 n] w fun e w' => e = .returned (.string (str (numL n))) ∧ Below w.heap.size w w' := by
  have HC := Lib.hid (Tryd.strconv_FormatInt_10 n h0 (by omega) w hT)
  go_enter Tryd.func27, Tryd.ntmps27
  go_wp2_with (first | (go_at_call 32; refine HC.out.mono ?_; rintro e w' ⟨rfl, k, os, rfl⟩))
  go_ret
  exact ⟨by rw [itoa_num]; rfl, ⟨rfl, rfl, rfl, by simp [Sort.grow, World.drewN], fun i hi => Array.getElem?_append_left hi⟩⟩
theorem hex_at : ∀ a, a < 16 → ([48, 49, 50, 51, 52, 53, 54, 55, 56, 57, 97, 98, 99, 100, 101, 102] : List UInt8)[a]? = some (figure a) := by decide
theorem hex_ix (a : Nat) (ha : a < 16) (w : World) : (Instr.index 9 (.string ⟨#[48, 49, 50, 51, 52, 53, 54, 55, 56, 57, 97, 98, 99, 100, 101, 102]⟩) (.int .u8 (a : Int))).run Tryd.prog w = .ok (.int .u8 (figN a : Int)) w := by
  have h := index_str (P := Tryd.prog) w [48, 49, 50, 51, 52, 53, 54, 55, 56, 57, 97, 98, 99, 100, 101, 102] .u8 a (figure a) (hex_at a ha) Tryd.underlying9
  rwa [figure_toNat a ha] at h
theorem index_yields {P : Program} {ops : Array Oper} {S : World → Prop} {o : Oper} {a : Act} {u v r : Value} (hw : Region.wanted o (yielded ops a.tmps) = true) (t : TypeId) (x y : Operand) (ho : o.op = .index t x y) (hx : a.eval x = u) (hy : a.eval y = v)
    (h : ∀ w, (Instr.index t u v).run P w = .ok r w) : YieldsIf P ops S o r a := .inl ⟨hw, fun w _ => by
  simp only [execOp, ho, hx, hy, Sem.run_bind, h w, Result.andThen_ok, Sem.run_pure]⟩
theorem cellsOne : Tryd.prog.cellsOf 5 = 1 := by kernel_rfl
theorem and15 (x : Nat) (h : x < 256) : bits .and .u8 (x : Int) 15 = ((x % 16 : Nat) : Int) := by
  rw [show (15 : Int) = ((15 : Nat) : Int) from rfl, u8_and_nat x 15 h (by decide), Nat.and_two_pow_sub_one_eq_mod x 4]
end Go.Proofs.YtfechljjkblkhaaDoor
