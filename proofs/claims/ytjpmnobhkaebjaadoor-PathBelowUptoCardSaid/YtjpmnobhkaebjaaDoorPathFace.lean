/-
What package path owes, as contracts; the walk that all statements of layer 6 begin with; the comparison of two lists of texts.
-/
import Derived.Test.YtjpmnobhkaebjaaDoorPath
import Derived.Test.YtjpmnobhkaebjaaDoorTexts
import Derived.Test.YtjpmnobhkaebjaaDoorHexaFace
import Derived.BigQuiet
import Derived.Deep.QuietTactic
namespace Go.Proofs.YtjpmnobhkaebjaaDoor
open Go.RowKit
structure PathFace : Prop where
  may : ∀ w (s : List UInt8), s.length < 1152921504606846976 → Calls Tryd.prog 14 #[.string (str s)] w fun e w' => e = .returned (.bool (mayP s)) ∧ Below w.heap.size w w'
  split : ∀ w (s : List UInt8), s.length < 1152921504606846976 → Calls Tryd.prog 10 #[.string (str s)] w fun e w' => e = .returned (.tuple #[.string (str (splitA s)), .string (str (splitB s)), .int .i64 (splitErr s)]) ∧ Below w.heap.size w w'
  join : ∀ w (p n : List UInt8), p.length < 1152921504606846976 → n.length < 1152921504606846976 → Calls Tryd.prog 12 #[.string (str p), .string (str n)] w fun e w' => e = .returned (.tuple #[.string (str (joinT p n)), .int .i64 (joinErr p n)]) ∧ Below w.heap.size w w'
  under : ∀ w (s d : List UInt8), s.length < 1152921504606846976 → d.length < 1152921504606846976 → Calls Tryd.prog 18 #[.string (str s), .string (str d)] w fun e w' => e = .returned (.bool (underP s d)) ∧ Below w.heap.size w w'
  parents : ∀ w (s : List UInt8), s.length < 1099511627776 → Calls Tryd.prog 21 #[.string (str s)] w fun e w' => ∃ v, e = .returned v ∧ HasTexts w' v (parL s) ∧ Below w.heap.size w w'
  own : ∀ w (s : List UInt8), s.length < 1152921504606846976 → PowTab w → Calls Tryd.prog 16 #[.string (str s)] w fun e w' => e = .returned (.bool (ownP s)) ∧ Below w.heap.size w w'
  copy : ∀ w (s : List UInt8) (r q : Int), s.length < 1152921504606846976 → -9223372036854775808 ≤ r → r < 9223372036854775808 → -9223372036854775808 ≤ q → q < 9223372036854775808 → PowTab w → Calls Tryd.prog 23 #[.string (str s), .agg #[.int .i64 r, .int .i64 q]] w fun e w' => e = .returned (.string (str (copyL s r q))) ∧ Below w.heap.size w w'
theorem built_317 : Tryd.prog.built 35 [(0, .int .i64 3), (1, .int .i64 17)] = some #[.int .i64 3, .int .i64 17] := by kernel_rfl
set_option maxHeartbeats 4000000 in
theorem awake6_any (F : PathFace) (w : World) (hT : PowTab w) : Calls Tryd.prog 9 #[] w fun e w' => e = .returned (.bool true) ∧ Below w.heap.size w w' := by
  have HT := Lib.hid hT
  have U1 := Lib.hid (show ∀ w, Calls Tryd.prog 18 #[.string ⟨#[97, 47, 98]⟩, .string ⟨#[97]⟩] w fun e w' => e = .returned (.bool true) ∧ Below w.heap.size w w' from fun w => by
    have h := F.under w [97, 47, 98] [97] (by decide) (by decide)
    rwa [show underP [97, 47, 98] [97] = true by decide +kernel] at h)
  have C1 := Lib.hid (show ∀ w, PowTab w → Calls Tryd.prog 23 #[.string ⟨#[97]⟩, .agg #[.int .i64 3, .int .i64 17]] w fun e w' => e = .returned (.string (str [97, 126, 51, 45, 49, 55])) ∧ Below w.heap.size w w' from fun w hT => by
    have h := F.copy w [97] 3 17 (by decide) (by decide) (by decide) (by decide) (by decide) hT
    rwa [show copyL [97] 3 17 = [97, 126, 51, 45, 49, 55] by decide +kernel] at h)
  have M1 := Lib.hid (show ∀ w, Calls Tryd.prog 14 #[.string ⟨#[97, 47, 98, 46, 99]⟩] w fun e w' => e = .returned (.bool true) ∧ Below w.heap.size w w' from fun w => by
    have h := F.may w [97, 47, 98, 46, 99] (by decide)
    rwa [show mayP [97, 47, 98, 46, 99] = true by decide +kernel] at h)
  have M2 := Lib.hid (show ∀ w, Calls Tryd.prog 14 #[.string ⟨#[97, 47, 46, 46, 47, 98]⟩] w fun e w' => e = .returned (.bool false) ∧ Below w.heap.size w w' from fun w => by
    have h := F.may w [97, 47, 46, 46, 47, 98] (by decide)
    rwa [show mayP [97, 47, 46, 46, 47, 98] = false by decide +kernel] at h)
  have O1 := Lib.hid (show ∀ w, PowTab w → Calls Tryd.prog 16 #[.string ⟨#[97]⟩] w fun e w' => e = .returned (.bool true) ∧ Below w.heap.size w w' from fun w hT => by
    have h := F.own w [97] (by decide) hT
    rwa [show ownP [97] = true by decide +kernel] at h)
  have O2 := Lib.hid (show ∀ w, PowTab w → Calls Tryd.prog 16 #[.string ⟨#[97, 126, 49, 45, 49]⟩] w fun e w' => e = .returned (.bool false) ∧ Below w.heap.size w w' from fun w hT => by
    have h := F.own w [97, 126, 49, 45, 49] (by decide) hT
    rwa [show ownP [97, 126, 49, 45, 49] = false by decide +kernel] at h)
  have h1 : (str [97, 126, 51, 45, 49, 55]).toList = [97, 126, 51, 45, 49, 55] := str_toList _
  have h2 : (ByteArray.mk #[97, 126, 51, 45, 49, 55]).toList = [97, 126, 51, 45, 49, 55] := ByteArray.toList_mk [97, 126, 51, 45, 49, 55]
  clear hT
  go_enter Tryd.func9, Tryd.ntmps9
  go_wp2_with (first
    | (go_at_call 18; refine (U1.out _).mono ?_; rintro e w1 ⟨rfl, hb⟩; have H1 := Lib.hid hb; clear hb)
    | (refine build_on (by rfl) 35 #[(0, .const (.int .i64 3)), (1, .const (.int .i64 17))] rfl _ _ built_317 (by simp [Act.eval]) ?_)
    | (go_at_call 23; refine (C1.out _ (powTab_below HT.out H1.out)).mono ?_; rintro e w2 ⟨rfl, hb⟩; have H2 := Lib.hid (below_next H1.out hb); clear hb H1)
    | (go_at_call 14; with_reducible refine (M1.out w2).mono ?_; rintro e w3 ⟨rfl, hb⟩; have H3 := Lib.hid (below_next H2.out hb); clear hb H2)
    | (go_at_call 14; with_reducible refine (M2.out w3).mono ?_; rintro e w4 ⟨rfl, hb⟩; have H4 := Lib.hid (below_next H3.out hb); clear hb H3)
    | (go_at_call 16; with_reducible refine (O1.out w4 (powTab_below HT.out H4.out)).mono ?_; rintro e w5 ⟨rfl, hb⟩; have H5 := Lib.hid (below_next H4.out hb); clear hb H4)
    | (go_at_call 16; with_reducible refine (O2.out w5 (powTab_below HT.out H5.out)).mono ?_; rintro e w6 ⟨rfl, hb⟩; have H6 := Lib.hid (below_next H5.out hb); clear hb H5))
  go_ret
  exact ⟨rfl, H6.out⟩
end Go.Proofs.YtjpmnobhkaebjaaDoor
