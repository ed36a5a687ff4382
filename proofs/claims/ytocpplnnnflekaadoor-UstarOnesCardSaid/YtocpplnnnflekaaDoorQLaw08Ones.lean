/-
The walk of the statement that what is got is put as it stood.
-/
import Derived.Test.YtocpplnnnflekaaDoorQLaw08Back
import Derived.Test.YtocpplnnnflekaaDoorPk6
namespace Go.Proofs.YtocpplnnnflekaaDoor
open Go.RowKit
set_option maxRecDepth 100000 in
set_option maxHeartbeats 8000000 in
theorem ustarOnes_walk (F : UstarFace) (w : World) (v : Value) (b : List UInt8) (hv : HasText w v b) :
    Calls Tryd.prog 6 #[v] w fun e w' => e = .returned (.bool true) ∧ Below w.heap.size w w' := by
  have AW := Lib.hid (awake8_any F)
  have HV := Lib.hid hv
  obtain ⟨n, hn⟩ : ∃ n, n = b.length := ⟨_, rfl⟩
  obtain ⟨ao, cap, rfl⟩ := text_len hv n hn.symm
  have HN := Lib.hid hn
  clear hv hn
  by_cases hbig : 60000 < n
  · have q0 : (n : Int) > 60000 := by omega
    clear hbig
    go_enter Tryd.func6, Tryd.ntmps6
    go_wp2_with (first | (go_at_call 10; refine (AW.out _).mono ?_; rintro e w1 ⟨rfl, hb⟩; have B1 := Lib.hid hb; clear hb))
    go_ret
    exact ⟨rfl, B1.out⟩
  have q0 : ¬ (n : Int) > 60000 := by omega
  have HB := Lib.hid hbig
  have G1 := Lib.hid (fun w hv => F.get w (.slice ao n cap) b hv (by have := HN.out; omega))
  clear hbig
  rcases getUErr_cases b with h0 | h2
  · have hsm := getU_small h0 (by have := HN.out; have := HB.out; omega)
    obtain ⟨p1, p2⟩ := put_getU h0
    have P1 := Lib.hid (fun w v hv => F.put w v (getU b) hv hsm.2.2 hsm.1 hsm.2.1)
    rw [p1, p2] at P1
    rw [h0] at G1
    generalize getU b = L at *
    have hlb : (str b).toList = b := str_toList _
    clear h0 hsm p1 p2
    go_enter Tryd.func6, Tryd.ntmps6
    go_wp2_with (first
    | (go_at_call 10; refine (AW.out _).mono ?_; rintro e w1 ⟨rfl, hb⟩; have B1 := Lib.hid hb; clear hb)
      | (go_at_call 16; refine (G1.out _ (text_keep HV.out B1.out)).mono ?_; rintro e w3 ⟨x, rfl, hx, hb⟩; have HX := Lib.hid hx; have B3 := Lib.hid (below_next B1.out hb); clear hx hb)
      | (go_at_call 12; refine (P1.out _ _ HX.out).mono ?_; rintro e w4 ⟨y, rfl, ⟨hy, -⟩, hb⟩; have B4 := Lib.hid (below_next B3.out hb); have cv1 := conv_text Tryd.underlying25 Tryd.underlying5 Tryd.underlying9 hy; have cv2 := conv_text Tryd.underlying25 Tryd.underlying5 Tryd.underlying9 (text_keep HV.out (below_next B3.out hb)); clear hy hb))
    go_ret
    exact ⟨rfl, B4.out⟩
  · have hL := getU_bad (b := b) (by omega)
    rw [h2, hL] at G1
    clear h2 hL
    go_enter Tryd.func6, Tryd.ntmps6
    go_wp2_with (first
    | (go_at_call 10; refine (AW.out _).mono ?_; rintro e w1 ⟨rfl, hb⟩; have B1 := Lib.hid hb; clear hb)
      | (go_at_call 16; refine (G1.out _ (text_keep HV.out B1.out)).mono ?_; rintro e w3 ⟨x, rfl, hx, hb⟩; obtain ⟨xo, xc, rfl⟩ := files_shape hx 0 rfl; have B3 := Lib.hid (below_next B1.out hb); clear hx hb))
    go_ret
    exact ⟨rfl, B3.out⟩
end Go.Proofs.YtocpplnnnflekaaDoor
