/-
How an argument that is a slice of bytes is opened: its bytes, and that it has them.
-/
import Derived.Test.YtbjekhhefepnlaaDoorBytes
import Derived.ChangeSlices
import Derived.OpenShut
import Derived.ProofKit
import Derived.SizedLaws
namespace Go.Proofs.YtbjekhhefepnlaaDoor
open Go.ChangeShapes Go.WideShapes Go.ChangeAt Go.RowKit
theorem open_has_sized {H : Type} {enc : TypeId × Value → H} {P : Program} {w : World} {base : Nat} {sp : Nat → Bool} {held : Bool} {r : Reach} {b0 : Nat} {t e : TypeId} {v : Value} {d : DataW H} {p : List MemPlace}
    (ht : P.underlying t = some (.slice e)) (he : P.underlying e = some (.int .u8)) (hc : P.cellsOf e = 1)
    (hv : Value.okWide P w r b0 t v) (h : DataW.Trod enc P w base sp held t v d p) :
    ∃ bs : List (BitVec 32), (∀ x ∈ bs, u32 x < 256) ∧ HasBytes w v bs ∧ bs.length ≤ maxLen ∧ (bs = [] ∨ ∃ elems spare, d = .slice elems spare ∧ bs.length ≤ elems.length + spare.length) := by
  obtain ⟨a1, len, cap, rfl⟩ := okWide_slice ht hv
  obtain ⟨fuel, hf⟩ := h
  rcases open_ints ht he hc hf with ⟨hcs, -⟩ | ⟨a, len', cap', zs, hcs, _, hl, hm, hz, hx, hcell, hwz⟩
  · simp [Value.cells] at hcs
    obtain ⟨rfl, rfl, rfl⟩ := hcs
    exact ⟨[], by simp, ⟨none, 0, rfl, fun _ => ⟨rfl, rfl⟩, fun _ h => by cases h⟩, by simp, .inl rfl⟩
  · simp [Value.cells] at hcs
    obtain ⟨rfl, rfl, rfl⟩ := hcs
    have hlz : len ≤ zs.length := by rw [hz]; split <;> omega
    have hbd : ∀ j, j < len → 0 ≤ zs.getD j 0 ∧ zs.getD j 0 < 256 := fun j hj => by
      rw [show zs.getD j 0 = zs[j] from by simp [show j < zs.length by omega]]
      exact wf_u8_bd (hwz _ (List.getElem_mem _))
    have hlen : ((List.range len).map fun j => BitVec.ofInt 32 (zs.getD j 0)).length = len := by simp
    refine ⟨(List.range len).map fun j => BitVec.ofInt 32 (zs.getD j 0), fun x hx => ?_, ⟨some a, cap, by rw [hlen], (fun h => by cases h), fun ad had => ⟨by rw [hlen]; omega, fun j u hu => ?_⟩⟩, by rw [hlen]; omega, .inr ⟨_, _, (congrArg Prod.fst hx : _), by rw [hlen]; simp [lits]; omega⟩⟩
    · obtain ⟨j, hj, rfl⟩ := List.mem_map.1 hx
      have := hbd j (by simpa using hj)
      rw [u32_of _ (by omega) (by omega)]; omega
    · cases had
      have hj : j < len := by
        have := (List.getElem?_eq_some_iff.1 hu).1
        simpa [bytesL] using this
      have hb := hbd j hj
      have e1 : u = .int .u8 (zs.getD j 0) := by
        have e2 := bytesL_get ((List.range len).map fun j => BitVec.ofInt 32 (zs.getD j 0)) j (by simpa using hj)
        rw [e2] at hu
        rw [← Option.some.inj hu, show ((List.range len).map fun j => BitVec.ofInt 32 (zs.getD j 0)).getD j 0#32 = BitVec.ofInt 32 (zs.getD j 0) from by simp [hj], u32_of _ (by omega) (by omega)]
      rw [e1]; exact hcell j (by omega)
theorem open_has {H : Type} {enc : TypeId × Value → H} {P : Program} {w : World} {base : Nat} {sp : Nat → Bool} {held : Bool} {r : Reach} {b0 : Nat} {t e : TypeId} {v : Value} {d : DataW H} {p : List MemPlace}
    (ht : P.underlying t = some (.slice e)) (he : P.underlying e = some (.int .u8)) (hc : P.cellsOf e = 1)
    (hv : Value.okWide P w r b0 t v) (h : DataW.Trod enc P w base sp held t v d p) :
    ∃ bs : List (BitVec 32), (∀ x ∈ bs, u32 x < 256) ∧ HasBytes w v bs ∧ bs.length ≤ maxLen := by
  obtain ⟨bs, h1, h2, h3, -⟩ := open_has_sized ht he hc hv h
  exact ⟨bs, h1, h2, h3⟩
/-- The form's own reach bounds how many bytes a slice among the arguments has. -/
theorem sized_has {H : Type} {P : Program} {ts : List TypeId} {ds : List (DataW H)} {j : Nat} {t e : TypeId} {d : DataW H} {bs : List (BitVec 32)} (h : (DataW.weightsEach P ts ds).all (· ≤ reachBytes) = true)
    (ht : ts[j]? = some t) (hd : ds[j]? = some d) (hu : P.underlying t = some (.slice e)) (hb : P.bytesOf e = 1) (ho : bs = [] ∨ ∃ elems spare, d = .slice elems spare ∧ bs.length ≤ elems.length + spare.length) : bs.length ≤ 140737488351232 := by
  rcases ho with rfl | ⟨elems, spare, rfl, hl⟩
  · simp
  · have := sized_slice h ht hd hu
    rw [hb, Nat.mul_one] at this
    have hr : reachBytes = 140737488351232 := by decide
    omega
end Go.Proofs.YtbjekhhefepnlaaDoor
