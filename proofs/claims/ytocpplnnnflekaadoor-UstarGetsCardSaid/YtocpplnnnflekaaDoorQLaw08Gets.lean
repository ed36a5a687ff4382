/-
The walk of the statement that tells of any bytes the files, or that they are no archive.
-/
import Derived.Test.YtocpplnnnflekaaDoorQLaw08Back
import Derived.Test.YtocpplnnnflekaaDoorPk6
namespace Go.Proofs.YtocpplnnnflekaaDoor
open Go.RowKit
set_option maxRecDepth 100000 in
set_option maxHeartbeats 8000000 in
theorem ustarGets_walk (F : UstarFace) (w : World) (v : Value) (b : List UInt8) (hv : HasText w v b) :
    Calls Tryd.prog 4 #[v] w fun e w' => e = .returned (.bool true) ∧ Below w.heap.size w w' := by
  have AW := Lib.hid (awake8_any F)
  have HV := Lib.hid hv
  obtain ⟨n, hn⟩ : ∃ n, n = b.length := ⟨_, rfl⟩
  obtain ⟨ao, cap, rfl⟩ := text_len hv n hn.symm
  have HN := Lib.hid hn
  clear hv hn
  by_cases hbig : 60000 < n
  · have q0 : (n : Int) > 60000 := by omega
    clear hbig
    go_enter Tryd.func4, Tryd.ntmps4
    go_wp2_with (first | (go_at_call 10; refine (AW.out _).mono ?_; rintro e w1 ⟨rfl, hb⟩; have B1 := Lib.hid hb; clear hb))
    go_ret
    exact ⟨rfl, B1.out⟩
  have q0 : ¬ (n : Int) > 60000 := by omega
  have HB := Lib.hid hbig
  have G1 := Lib.hid (fun w hv => F.get w (.slice ao n cap) b hv (by have := HN.out; omega))
  clear hbig
  have R1 := Lib.hid (fun w hv => refGet8_any w (.slice ao n cap) b hv (by have := HN.out; have := HB.out; omega))
  have hll : (getU b).length < 4611686018427387904 := by
    rcases getUErr_cases b with h | h
    · have := (getU_small h (by have := HN.out; have := HB.out; omega)).1; omega
    · rw [getU_bad (by omega)]; decide
  have SA := Lib.hid (fun w x y hx hy => same_any w x y (getU b) (getU b) hx hy hll hll)
  rw [decide_eq_true rfl] at SA
  generalize getU b = L at *
  generalize getUErr b = E at *
  clear hll
  go_enter Tryd.func4, Tryd.ntmps4
  go_wp2_with (first
    | (go_at_call 10; refine (AW.out _).mono ?_; rintro e w1 ⟨rfl, hb⟩; have B1 := Lib.hid hb; clear hb)
    | (go_at_call 16; refine (G1.out _ (text_keep HV.out B1.out)).mono ?_; rintro e w3 ⟨x, rfl, hx, hb⟩; have HX := Lib.hid hx; have B3 := Lib.hid (below_next B1.out hb); clear hx hb)
    | (go_at_call 17; refine (R1.out _ (text_keep HV.out B3.out)).mono ?_; rintro e w4 ⟨y, rfl, hy, hb⟩; have HY := Lib.hid hy; have HX4 := Lib.hid (files_below HX.out hb); have B4 := Lib.hid (below_next B3.out hb); clear hy hb)
    | (go_at_call 18; refine (SA.out _ _ _ HX4.out HY.out).mono ?_; rintro e w5 ⟨rfl, hb⟩; have B5 := Lib.hid (below_next B4.out hb); clear hb))
  go_ret
  exact ⟨rfl, B5.out⟩
end Go.Proofs.YtocpplnnnflekaaDoor
