/-
Structs by value among the arguments, opened.
-/
import Derived.Test.YtfechljjkblkhaaDoorProg
import Derived.WalkKit
import Derived.ProofKit
import Derived.OpenShut
namespace Go.Proofs.YtfechljjkblkhaaDoor
open Go.ChangeShapes Go.WideShapes Go.ChangeAt Go.RowKit
set_option linter.unusedSimpArgs false in
/-- A struct of type api.Dot by value, opened. -/
theorem open_dot {H : Type} {enc : TypeId × Value → H} {w : World} {base : Nat} {sp : Nat → Bool} {held : Bool} {r : Reach} {b0 : Nat} {v : Value} {d : DataW H} {p : List MemPlace} (hv : Value.okWide Tryd.prog w r b0 23 v) (h : DataW.Trod enc Tryd.prog w base sp held 23 v d p) :
    ∃ (xReplica : Int) (xSeq : Int), v = .agg #[.int .i64 xReplica, .int .i64 xSeq] ∧ d = .agg [.lit (.int .i64 xReplica), .lit (.int .i64 xSeq)] ∧ (Lit.int .i64 xReplica).wf = true ∧ (Lit.int .i64 xSeq).wf = true := by
  have hc0 : Tryd.prog.cellsOf 23 = 2 := by kernel_rfl
  have hc1 : Tryd.prog.cellsOf 3 = 1 := by kernel_rfl
  have hc2 : Tryd.prog.cellsOf 2 = 1 := by kernel_rfl
  unfold Value.okWide at hv
  rw [Tryd.underlying23] at hv
  obtain ⟨cs, rfl, hsz, _⟩ := hv
  rw [hc0] at hsz
  obtain ⟨fuel, hy⟩ := h
  match cs, hsz with
  | ⟨[c0, c1]⟩, _ =>
  change DataW.trod enc Tryd.prog w base sp held fuel 23 [c0, c1] = some (d, p) at hy
  obtain ⟨ys, m, _, hx0, _, hl, hf⟩ := DataW.trod_struct Tryd.underlying23 hy
  obtain ⟨rfl, rfl⟩ := Prod.mk.inj hx0
  match ys, hl with
  | [y_0, y_1], _ =>
  have hy_0 := hf 0 _ rfl
  have hy_1 := hf 1 _ rfl
  simp [hc0, hc1, hc2] at hy_0 hy_1
  obtain ⟨xReplica, e_xReplica, rfl, s_xReplica⟩ := DataW.trod_int Tryd.underlying3 hy_0
  obtain ⟨xSeq, e_xSeq, rfl, s_xSeq⟩ := DataW.trod_int Tryd.underlying2 hy_1
  simp at e_xReplica e_xSeq
  subst e_xReplica e_xSeq
  exact ⟨xReplica, xSeq, rfl, by simp, s_xReplica, s_xSeq⟩
end Go.Proofs.YtfechljjkblkhaaDoor
