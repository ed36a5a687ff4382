/-
The walks of the statements of layer 7 that compare with the document's own answers, and of headers that are alike.
-/
import Derived.Test.YtbjekhhefepnlaaDoorHeaderFace
namespace Go.Proofs.YtbjekhhefepnlaaDoor
open Go.RowKit
set_option maxRecDepth 100000 in
set_option maxHeartbeats 4000000 in
theorem headerPuts_walk (F : HeaderFace) (s : List UInt8) (n : Int) (b : List UInt8) (hs : s.length < 1152921504606846976) (hn : -9223372036854775808 ≤ n ∧ n < 9223372036854775808) (hb : b.length < 4611686018427387904) (v : Value) (w : World) (hv : HasText w v b) :
    Calls Tryd.prog 3 #[.string (str s), .int .i64 n, v] w fun e w' => e = .returned (.bool true) ∧ Below w.heap.size w w' := by
  have P1 := Lib.hid (fun w => F.put w s n hs hn.1 hn.2)
  have P2 := Lib.hid (fun w => refPut7_any s (by omega) n w)
  have G1 := Lib.hid (fun w hv => F.get w v b hb hv)
  have G2 := Lib.hid (fun w hv => refGet7_any b hb v w hv)
  have HV := Lib.hid hv
  clear hn hb hv hs
  generalize putHErr s n = E at *
  generalize putH s n = T at *
  generalize getHErr b = ge at *
  generalize getHPath b = gp at *
  generalize getHSize b = gs at *
  go_enter Tryd.func3, Tryd.ntmps3
  go_wp2_with (first
    | (go_at_call 9; refine (awake7_any F _).mono ?_; rintro e w1 ⟨rfl, hb⟩; have H1 := Lib.hid hb; clear hb)
    | (go_at_call 10; refine (P1.out _).mono ?_; rintro e w2 ⟨v1, rfl, ⟨ht, -⟩, hb⟩; have T1 := Lib.hid ht; have H2 := Lib.hid (below_next H1.out hb); clear ht hb H1)
    | (go_at_call 11; refine (P2.out _).mono ?_; rintro e w3 ⟨v2, rfl, ht, hb⟩; have S1 := Lib.hid (text_keep T1.out hb); have T2 := Lib.hid ht; have H3 := Lib.hid (below_next H2.out hb); clear ht hb T1 H2)
    | (go_at_call 12; refine (G1.out _ (text_keep HV.out H3.out)).mono ?_; rintro e w4 ⟨rfl, hb⟩; have R1 := Lib.hid (text_keep S1.out hb); have R2 := Lib.hid (text_keep T2.out hb); have H4 := Lib.hid (below_next H3.out hb); clear hb S1 T2 H3)
    | (go_at_call 13; refine (G2.out _ (text_keep HV.out H4.out)).mono ?_; rintro e w5 ⟨rfl, hb⟩; have cv1 := conv_text Tryd.underlying22 Tryd.underlying5 Tryd.underlying9 (text_keep R1.out hb); have cv2 := conv_text Tryd.underlying22 Tryd.underlying5 Tryd.underlying9 (text_keep R2.out hb); have H5 := Lib.hid (below_next H4.out hb); clear hb R1 R2 H4))
  go_ret
  exact ⟨rfl, H5.out⟩
end Go.Proofs.YtbjekhhefepnlaaDoor
