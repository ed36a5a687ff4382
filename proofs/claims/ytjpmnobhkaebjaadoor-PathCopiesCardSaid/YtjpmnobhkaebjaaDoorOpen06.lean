/-
Structs by value among the arguments, opened.
-/
import Derived.Test.YtjpmnobhkaebjaaDoorProg
import Derived.WalkKit
import Derived.ProofKit
import Derived.OpenShut
namespace Go.Proofs.YtjpmnobhkaebjaaDoor
open Go.ChangeShapes Go.WideShapes Go.ChangeAt Go.RowKit
set_option linter.unusedSimpArgs false in
/-- A struct of type api.Dot by value, opened. -/
theorem open_dot {H : Type} {enc : TypeId × Value → H} {w : World} {base : Nat} {sp : Nat → Bool} {held : Bool} {r : Reach} {b0 : Nat} {v : Value} {d : DataW H} {p : List MemPlace} (hv : Value.okWide Tryd.prog w r b0 35 v) (h : DataW.Trod enc Tryd.prog w base sp held 35 v d p) :
    ∃ (xReplica : Int) (xSeq : Int), v = .agg #[.int .i64 xReplica, .int .i64 xSeq] ∧ d = .agg [.lit (.int .i64 xReplica), .lit (.int .i64 xSeq)] ∧ (Lit.int .i64 xReplica).wf = true ∧ (Lit.int .i64 xSeq).wf = true := by
  have hc0 : Tryd.prog.cellsOf 35 = 2 := by kernel_rfl
  have hc1 : Tryd.prog.cellsOf 3 = 1 := by kernel_rfl
  have hc2 : Tryd.prog.cellsOf 2 = 1 := by kernel_rfl
  unfold Value.okWide at hv
  rw [Tryd.underlying35] at hv
  obtain ⟨cs, rfl, hsz, _⟩ := hv
  rw [hc0] at hsz
  obtain ⟨fuel, hy⟩ := h
  match cs, hsz with
  | ⟨[c0, c1]⟩, _ =>
  change DataW.trod enc Tryd.prog w base sp held fuel 35 [c0, c1] = some (d, p) at hy
  obtain ⟨ys, m, _, hx0, _, hl, hf⟩ := DataW.trod_struct Tryd.underlying35 hy
  obtain ⟨rfl, rfl⟩ := Prod.mk.inj hx0
  match ys, hl with
  | [y_0, y_1], _ =>
  have hy_0 := hf 0 _ rfl
  have hy_1 := hf 1 _ rfl
  simp [hc0, hc1, hc2] at hy_0 hy_1
  obtain ⟨xReplica, e_xReplica, rfl, s_xReplica⟩ := DataW.trod_int Tryd.underlying3 hy_0
  obtain ⟨xSeq, e_xSeq, rfl, s_xSeq⟩ := DataW.trod_int Tryd.underlying2 hy_1
  simp at e_xReplica e_xSeq
  subst e_xReplica e_xSeq
  exact ⟨xReplica, xSeq, rfl, by simp, s_xReplica, s_xSeq⟩
set_option linter.unusedSimpArgs false in
/-- A struct of type bindlelaw06.Two by value, opened. -/
theorem open_two {H : Type} {enc : TypeId × Value → H} {w : World} {base : Nat} {sp : Nat → Bool} {held : Bool} {r : Reach} {b0 : Nat} {v : Value} {d : DataW H} {p : List MemPlace} (hv : Value.okWide Tryd.prog w r b0 43 v) (h : DataW.Trod enc Tryd.prog w base sp held 43 v d p) :
    ∃ (xA : ByteArray) (xB : ByteArray) (xDReplica : Int) (xDSeq : Int) (xGReplica : Int) (xGSeq : Int), v = .agg #[.string xA, .string xB, .int .i64 xDReplica, .int .i64 xDSeq, .int .i64 xGReplica, .int .i64 xGSeq] ∧ d = .agg [.lit (.string xA.data.toList), .lit (.string xB.data.toList), .agg [.lit (.int .i64 xDReplica), .lit (.int .i64 xDSeq)], .agg [.lit (.int .i64 xGReplica), .lit (.int .i64 xGSeq)]] ∧ xA.size ≤ maxLen ∧ xB.size ≤ maxLen ∧ (Lit.int .i64 xDReplica).wf = true ∧ (Lit.int .i64 xDSeq).wf = true ∧ (Lit.int .i64 xGReplica).wf = true ∧ (Lit.int .i64 xGSeq).wf = true := by
  have hc0 : Tryd.prog.cellsOf 43 = 6 := by kernel_rfl
  have hc1 : Tryd.prog.cellsOf 9 = 1 := by kernel_rfl
  have hc2 : Tryd.prog.cellsOf 35 = 2 := by kernel_rfl
  have hc3 : Tryd.prog.cellsOf 3 = 1 := by kernel_rfl
  have hc4 : Tryd.prog.cellsOf 2 = 1 := by kernel_rfl
  unfold Value.okWide at hv
  rw [Tryd.underlying43] at hv
  obtain ⟨cs, rfl, hsz, _⟩ := hv
  rw [hc0] at hsz
  obtain ⟨fuel, hy⟩ := h
  match cs, hsz with
  | ⟨[c0, c1, c2, c3, c4, c5]⟩, _ =>
  change DataW.trod enc Tryd.prog w base sp held fuel 43 [c0, c1, c2, c3, c4, c5] = some (d, p) at hy
  obtain ⟨ys, m, _, hx0, _, hl, hf⟩ := DataW.trod_struct Tryd.underlying43 hy
  obtain ⟨rfl, rfl⟩ := Prod.mk.inj hx0
  match ys, hl with
  | [y_0, y_1, y_2, y_3], _ =>
  have hy_0 := hf 0 _ rfl
  have hy_1 := hf 1 _ rfl
  have hy_2 := hf 2 _ rfl
  have hy_3 := hf 3 _ rfl
  simp [hc0, hc1, hc2, hc3, hc4] at hy_0 hy_1 hy_2 hy_3
  obtain ⟨xA, e_xA, rfl, s_xA⟩ := DataW.trod_string Tryd.underlying9 hy_0
  obtain ⟨xB, e_xB, rfl, s_xB⟩ := DataW.trod_string Tryd.underlying9 hy_1
  obtain ⟨ys_2, m_2, _, rfl, _, hl_2, hf_2⟩ := DataW.trod_struct Tryd.underlying35 hy_2
  match ys_2, hl_2 with
  | [y_2_0, y_2_1], _ =>
  have hy_2_0 := hf_2 0 _ rfl
  have hy_2_1 := hf_2 1 _ rfl
  simp [hc0, hc1, hc2, hc3, hc4] at hy_2_0 hy_2_1
  obtain ⟨xDReplica, e_xDReplica, rfl, s_xDReplica⟩ := DataW.trod_int Tryd.underlying3 hy_2_0
  obtain ⟨xDSeq, e_xDSeq, rfl, s_xDSeq⟩ := DataW.trod_int Tryd.underlying2 hy_2_1
  obtain ⟨ys_3, m_3, _, rfl, _, hl_3, hf_3⟩ := DataW.trod_struct Tryd.underlying35 hy_3
  match ys_3, hl_3 with
  | [y_3_0, y_3_1], _ =>
  have hy_3_0 := hf_3 0 _ rfl
  have hy_3_1 := hf_3 1 _ rfl
  simp [hc0, hc1, hc2, hc3, hc4] at hy_3_0 hy_3_1
  obtain ⟨xGReplica, e_xGReplica, rfl, s_xGReplica⟩ := DataW.trod_int Tryd.underlying3 hy_3_0
  obtain ⟨xGSeq, e_xGSeq, rfl, s_xGSeq⟩ := DataW.trod_int Tryd.underlying2 hy_3_1
  simp at e_xA e_xB e_xDReplica e_xDSeq e_xGReplica e_xGSeq
  subst e_xA e_xB e_xDReplica e_xDSeq e_xGReplica e_xGSeq
  exact ⟨xA, xB, xDReplica, xDSeq, xGReplica, xGSeq, rfl, by simp, s_xA, s_xB, s_xDReplica, s_xDSeq, s_xGReplica, s_xGSeq⟩
end Go.Proofs.YtjpmnobhkaebjaaDoor
