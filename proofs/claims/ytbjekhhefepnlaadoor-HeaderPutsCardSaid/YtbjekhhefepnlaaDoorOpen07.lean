/-
Structs by value among the arguments, opened.
-/
import Derived.Test.YtbjekhhefepnlaaDoorProg
import Derived.WalkKit
import Derived.ProofKit
import Derived.OpenShut
namespace Go.Proofs.YtbjekhhefepnlaaDoor
open Go.ChangeShapes Go.WideShapes Go.ChangeAt Go.RowKit
set_option linter.unusedSimpArgs false in
/-- A struct of type bindlelaw07.Turn by value, opened. -/
theorem open_turn {H : Type} {enc : TypeId × Value → H} {w : World} {base : Nat} {sp : Nat → Bool} {held : Bool} {r : Reach} {b0 : Nat} {v : Value} {d : DataW H} {p : List MemPlace} (hv : Value.okWide Tryd.prog w r b0 36 v) (h : DataW.Trod enc Tryd.prog w base sp held 36 v d p) :
    ∃ (xPath : ByteArray) (xSize : Int) (xAt : Int) (xMask : Int), v = .agg #[.string xPath, .int .i64 xSize, .int .u16 xAt, .int .u8 xMask] ∧ d = .agg [.lit (.string xPath.data.toList), .lit (.int .i64 xSize), .lit (.int .u16 xAt), .lit (.int .u8 xMask)] ∧ xPath.size ≤ maxLen ∧ (Lit.int .i64 xSize).wf = true ∧ (Lit.int .u16 xAt).wf = true ∧ (Lit.int .u8 xMask).wf = true := by
  have hc0 : Tryd.prog.cellsOf 36 = 4 := by kernel_rfl
  have hc1 : Tryd.prog.cellsOf 9 = 1 := by kernel_rfl
  have hc2 : Tryd.prog.cellsOf 3 = 1 := by kernel_rfl
  have hc3 : Tryd.prog.cellsOf 34 = 1 := by kernel_rfl
  have hc4 : Tryd.prog.cellsOf 5 = 1 := by kernel_rfl
  unfold Value.okWide at hv
  rw [Tryd.underlying36] at hv
  obtain ⟨cs, rfl, hsz, _⟩ := hv
  rw [hc0] at hsz
  obtain ⟨fuel, hy⟩ := h
  match cs, hsz with
  | ⟨[c0, c1, c2, c3]⟩, _ =>
  change DataW.trod enc Tryd.prog w base sp held fuel 36 [c0, c1, c2, c3] = some (d, p) at hy
  obtain ⟨ys, m, _, hx0, _, hl, hf⟩ := DataW.trod_struct Tryd.underlying36 hy
  obtain ⟨rfl, rfl⟩ := Prod.mk.inj hx0
  match ys, hl with
  | [y_0, y_1, y_2, y_3], _ =>
  have hy_0 := hf 0 _ rfl
  have hy_1 := hf 1 _ rfl
  have hy_2 := hf 2 _ rfl
  have hy_3 := hf 3 _ rfl
  simp [hc0, hc1, hc2, hc3, hc4] at hy_0 hy_1 hy_2 hy_3
  obtain ⟨xPath, e_xPath, rfl, s_xPath⟩ := DataW.trod_string Tryd.underlying9 hy_0
  obtain ⟨xSize, e_xSize, rfl, s_xSize⟩ := DataW.trod_int Tryd.underlying3 hy_1
  obtain ⟨xAt, e_xAt, rfl, s_xAt⟩ := DataW.trod_int Tryd.underlying34 hy_2
  obtain ⟨xMask, e_xMask, rfl, s_xMask⟩ := DataW.trod_int Tryd.underlying5 hy_3
  simp at e_xPath e_xSize e_xAt e_xMask
  subst e_xPath e_xSize e_xAt e_xMask
  exact ⟨xPath, xSize, xAt, xMask, rfl, by simp, s_xPath, s_xSize, s_xAt, s_xMask⟩
theorem u16_of {a : Int} (h : (Lit.int .u16 a).wf = true) : ∃ n : Nat, a = (n : Int) ∧ n < 65536 := by
  simp [Lit.wf, IntKind.min, IntKind.max, IntKind.signed, IntKind.bits] at h
  exact ⟨a.toNat, by omega, by omega⟩
theorem two_of {z : List Int} (h : z.length = 2) : ∃ n m, z = [n, m] := by
  match z, h with
  | [n, m], _ => exact ⟨n, m, rfl⟩
end Go.Proofs.YtbjekhhefepnlaaDoor
