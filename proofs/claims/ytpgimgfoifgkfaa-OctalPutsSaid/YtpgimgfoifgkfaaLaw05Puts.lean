/-
The walks of the statements of layer 5 on any input, out of the contracts of package octal and of the document's own answers.
-/
import Derived.Test.YtpgimgfoifgkfaaOctalFace
import Derived.Test.YtpgimgfoifgkfaaRef05Get
namespace Go.Proofs.Ytpgimgfoifgkfaa
open Go.RowKit
set_option maxHeartbeats 4000000 in
theorem octalPuts_walk (F : OctalFace) (n width : Int) (b : List UInt8) (hn : -9223372036854775808 ≤ n ∧ n < 9223372036854775808) (hw : -9223372036854775808 ≤ width ∧ width < 9223372036854775808) (hb : b.length < 4611686018427387904) (v : Value) (w : World) (hv : HasText w v b) :
    Calls Try.prog 3 #[.int .i64 n, .int .i64 width, v] w fun e w' => e = .returned (.bool true) ∧ Below w.heap.size w w' := by
  have P1 := Lib.hid (fun w => F.put w n width hn.1 hn.2 hw.1 hw.2)
  have P2 := Lib.hid (fun w => refPut_any n width hn.1 hn.2 w)
  have G1 := Lib.hid (fun w hv => F.get w v b hb hv)
  have G2 := Lib.hid (fun w hv => refGet_any b hb v w hv)
  have HV := Lib.hid hv
  clear hn hw hb hv
  generalize putErr n width = E at *
  generalize putT n width = T at *
  generalize getErr b = ge at *
  generalize getN b = g at *
  go_enter Try.func3, Try.ntmps3
  go_wp2_with (first
    | (go_at_call 7; refine (awake5_any F _).mono ?_; rintro e w1 ⟨rfl, hb⟩; have H1 := Lib.hid hb; clear hb)
    | (go_at_call 8; refine (P1.out _).mono ?_; rintro e w2 ⟨v1, rfl, ht, hb⟩; have T1 := Lib.hid ht; have H2 := Lib.hid (below_next H1.out hb); clear ht hb H1)
    | (go_at_call 9; refine (P2.out _).mono ?_; rintro e w3 ⟨v2, rfl, ht, hb⟩; have S1 := Lib.hid (text_keep T1.out hb); have T2 := Lib.hid ht; have H3 := Lib.hid (below_next H2.out hb); clear ht hb T1 H2)
    | (go_at_call 10; refine (G1.out _ (text_keep HV.out H3.out)).mono ?_; rintro e w4 ⟨rfl, hb⟩; have R1 := Lib.hid (text_keep S1.out hb); have R2 := Lib.hid (text_keep T2.out hb); have H4 := Lib.hid (below_next H3.out hb); clear hb S1 T2 H3)
    | (go_at_call 11; refine (G2.out _ (text_keep HV.out H4.out)).mono ?_; rintro e w5 ⟨rfl, hb⟩; have cv1 := conv_text Try.underlying22 Try.underlying5 Try.underlying9 (text_keep R1.out hb); have cv2 := conv_text Try.underlying22 Try.underlying5 Try.underlying9 (text_keep R2.out hb); have H5 := Lib.hid (below_next H4.out hb); clear hb R1 R2 H4))
  go_ret
  exact ⟨rfl, H5.out⟩
end Go.Proofs.Ytpgimgfoifgkfaa
