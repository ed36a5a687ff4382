/-
The walks of the statements of layer 5 on any input, out of the contracts of package octal and of the document's own answers.
-/
import Derived.Test.YtpgimgfoifgkfaaDoorOctalFace
import Derived.Test.YtpgimgfoifgkfaaDoorRef05Get
namespace Go.Proofs.YtpgimgfoifgkfaaDoor
open Go.RowKit
set_option maxHeartbeats 4000000 in
theorem octalTexts_walk (F : OctalFace) (G : NameFace) (s : List UInt8) (width : Int) (b : List UInt8) (hs : s.length < 4611686018427387904) (hw : -9223372036854775808 ≤ width ∧ width < 9223372036854775808) (hb : b.length < 4611686018427387904) (v : Value) (w : World) (hv : HasText w v b) :
    Calls Tryd.prog 3 #[.string (str s), .int .i64 width, v] w fun e w' => e = .returned (.bool true) ∧ Below w.heap.size w w' := by
  have P1 := Lib.hid (fun w => F.text w s width hs hw.1 hw.2)
  have P2 := Lib.hid (fun w => refField_any s hs width w)
  have G1 := Lib.hid (fun w hv => G.name w v b hb hv)
  have G2 := Lib.hid (fun w hv => refName_any b hb v w hv)
  have C1 := Lib.hid (fun w hv => F.check w v b hb hv)
  have C2 := Lib.hid (fun w hv => refCheck_any b hb v w hv)
  have HV := Lib.hid hv
  clear hs hw hb hv
  generalize fieldErr s width = E at *
  generalize fieldT s width = T at *
  generalize nameErr b = ge at *
  generalize nameT b = g at *
  generalize IntKind.i64.wrap (sumL b : Int) = z at *
  go_enter Tryd.func3, Tryd.ntmps3
  go_wp2_with (first
    | (go_at_call 5; refine (awake5_any F _).mono ?_; rintro e w1 ⟨rfl, hb⟩; have H1 := Lib.hid hb; clear hb)
    | (go_at_call 6; refine (P1.out _).mono ?_; rintro e w2 ⟨v1, rfl, ht, hb⟩; have T1 := Lib.hid ht; have H2 := Lib.hid (below_next H1.out hb); clear ht hb H1)
    | (go_at_call 7; refine (P2.out _).mono ?_; rintro e w3 ⟨v2, rfl, ht, hb⟩; have S1 := Lib.hid (text_keep T1.out hb); have T2 := Lib.hid ht; have H3 := Lib.hid (below_next H2.out hb); clear ht hb T1 H2)
    | (go_at_call 8; refine (G1.out _ (text_keep HV.out H3.out)).mono ?_; rintro e w4 ⟨rfl, hb⟩; have R1 := Lib.hid (text_keep S1.out hb); have R2 := Lib.hid (text_keep T2.out hb); have H4 := Lib.hid (below_next H3.out hb); clear hb S1 T2 H3)
    | (go_at_call 9; refine (G2.out _ (text_keep HV.out H4.out)).mono ?_; rintro e w5 ⟨rfl, rfl⟩; have cv1 := conv_text Tryd.underlying22 Tryd.underlying5 Tryd.underlying9 R1.out; have cv2 := conv_text Tryd.underlying22 Tryd.underlying5 Tryd.underlying9 R2.out; clear R1 R2)
    | (go_at_call 10; refine (C1.out _ (text_keep HV.out H4.out)).mono ?_; rintro e w6 ⟨rfl, hb⟩; have H6 := Lib.hid (below_next H4.out hb); clear hb H4)
    | (go_at_call 11; refine (C2.out _ (text_keep HV.out H6.out)).mono ?_; rintro e w7 ⟨rfl, rfl⟩))
  go_ret
  exact ⟨rfl, H6.out⟩
end Go.Proofs.YtpgimgfoifgkfaaDoor
