/-
The walks of the statements of layer 6 on a path's two fields.
-/
import Derived.Test.YtjpmnobhkaebjaaDoorPathFace
import Derived.Test.YtjpmnobhkaebjaaDoorRef06Copy
import Derived.Deep.DeepCutAuto
namespace Go.Proofs.YtjpmnobhkaebjaaDoor
open Go.RowKit
set_option maxRecDepth 100000 in
set_option maxHeartbeats 4000000 in
theorem pathSplits_walk (F : PathFace) (s p n : List UInt8) (hs : s.length < 1152921504606846976) (hp : p.length < 1152921504606846976) (hn : n.length < 1152921504606846976) (w : World) (hT : PowTab w) :
    Calls Tryd.prog 3 #[.string (str s), .string (str p), .string (str n)] w fun e w' => e = .returned (.bool true) ∧ Below w.heap.size w w' := by
  have HT := Lib.hid hT
  have AW := Lib.hid (awake6_any F w hT)
  have S1 := Lib.hid (fun w => F.split w s hs)
  have S2 := Lib.hid (refSplit_any s (by omega))
  have J1 := Lib.hid (fun w => F.join w p n hp hn)
  have J2 := Lib.hid (refJoin_any p n hp hn)
  have M1 := Lib.hid (fun w => F.may w s hs)
  have M2 := Lib.hid (refMay_any s (by omega))
  have O1 := Lib.hid (fun w hT => F.own w s hs hT)
  have O2 := Lib.hid (refOwn_any s hs)
  clear hs hp hn hT
  generalize splitErr s = E1 at *
  generalize splitA s = A at *
  generalize splitB s = B at *
  generalize joinErr p n = E2 at *
  generalize joinT p n = T at *
  generalize mayP s = m at *
  generalize ownP s = o at *
  go_enter Tryd.func3, Tryd.ntmps3
  go_wp2_with (first
    | (go_at_call 9; refine AW.out.mono ?_; rintro e w1 ⟨rfl, hb⟩; have H1 := Lib.hid hb; clear hb)
    | (go_at_call 10; refine (S1.out _).mono ?_; rintro e w2 ⟨rfl, hb⟩; have H2 := Lib.hid (below_next H1.out hb); clear hb H1)
    | (go_at_call 11; refine (S2.out _).mono ?_; rintro e w3 ⟨rfl, hb⟩; have H3 := Lib.hid (below_next H2.out hb); clear hb H2)
    | (go_at_call 12; refine (J1.out _).mono ?_; rintro e w4 ⟨rfl, hb⟩; have H4 := Lib.hid (below_next H3.out hb); clear hb H3)
    | (go_at_call 13; refine (J2.out _).mono ?_; rintro e w5 ⟨rfl, hb⟩; have H5 := Lib.hid (below_next H4.out hb); clear hb H4)
    | (go_at_call 14; refine (M1.out _).mono ?_; rintro e w6 ⟨rfl, hb⟩; have H6 := Lib.hid (below_next H5.out hb); clear hb H5)
    | (go_at_call 15; refine (M2.out _).mono ?_; rintro e w7 ⟨rfl, hb⟩; have H7 := Lib.hid (below_next H6.out hb); clear hb H6)
    | (go_at_call 16; refine (O1.out _ (powTab_below HT.out H7.out)).mono ?_; rintro e w8 ⟨rfl, hb⟩; have H8 := Lib.hid (below_next H7.out hb); clear hb H7)
    | (go_at_call 17; refine (O2.out _).mono ?_; rintro e w9 ⟨rfl, hb⟩; have H9 := Lib.hid (below_next H8.out hb); clear hb H8))
  go_ret
  exact ⟨rfl, H9.out⟩
end Go.Proofs.YtjpmnobhkaebjaaDoor
