/-
How an argument that is a slice of slices of bytes is opened: its rows, each with its bytes, and how long these can be.
-/
import Derived.Test.YtnfklikphkkpoaaDoorOpenBytes
import Derived.Deep.Matrix
namespace Go.Proofs.YtnfklikphkkpoaaDoor
open Go.ChangeShapes Go.WideShapes Go.ChangeAt Go.RowKit
/-- A slice value whose elements are slices that have these bytes. -/
def HasRows (w : World) (v : Value) (ls : List (List (BitVec 32))) : Prop :=
  ∃ ao cap, v = .slice ao ls.length cap ∧ (ao = none → ls = []) ∧ ∀ ad, ao = some ad → ∀ j bs, ls[j]? = some bs → ∃ u, w.cell? (ad.add j) = some u ∧ HasBytes w u bs
theorem bytes_of_ints {zs : List Int} (n : Nat) (hn : n ≤ zs.length) (hw : ∀ z ∈ zs, (Lit.int .u8 z).wf = true) :
    (∀ x ∈ (List.range n).map (fun j => BitVec.ofInt 32 (zs.getD j 0)), u32 x < 256) ∧ ∀ j u, (bytesL ((List.range n).map fun j => BitVec.ofInt 32 (zs.getD j 0)))[j]? = some u → j < n ∧ u = .int .u8 (zs.getD j 0) := by
  have hbd : ∀ j, j < n → 0 ≤ zs.getD j 0 ∧ zs.getD j 0 < 256 := fun j hj => by
    rw [show zs.getD j 0 = zs[j] from by simp [show j < zs.length by omega]]
    exact wf_u8_bd (hw _ (List.getElem_mem _))
  refine ⟨fun x hx => ?_, fun j u hu => ?_⟩
  · obtain ⟨j, hj, rfl⟩ := List.mem_map.1 hx
    have := hbd j (by simpa using hj)
    rw [u32_of _ (by omega) (by omega)]; omega
  · have hj : j < n := by
      have := (List.getElem?_eq_some_iff.1 hu).1
      simpa [bytesL] using this
    have hb := hbd j hj
    refine ⟨hj, ?_⟩
    rw [bytesL_get _ j (by simpa using hj)] at hu
    rw [← Option.some.inj hu, show ((List.range n).map fun j => BitVec.ofInt 32 (zs.getD j 0)).getD j 0#32 = BitVec.ofInt 32 (zs.getD j 0) from by simp [hj], u32_of _ (by omega) (by omega)]
theorem mem_weightsAll {H : Type} {P : Program} {e : TypeId} {d : DataW H} {m : Nat} : ∀ {ds : List (DataW H)}, d ∈ ds → m ∈ DataW.weights P e d → m ∈ DataW.weightsAll P e ds
  | x :: ds, h, hm => by
    simp only [DataW.weightsAll, List.mem_append]
    rcases List.mem_cons.1 h with rfl | h
    · exact .inl hm
    · exact .inr (mem_weightsAll h hm)
theorem open_rows_has {H : Type} {enc : TypeId × Value → H} {P : Program} {w : World} {base : Nat} {held : Bool} {r : Reach} {b0 : Nat} {t e q : TypeId} {v : Value} {d : DataW H} {p : List MemPlace} {ts : List TypeId} {ds : List (DataW H)} {k : Nat}
    (ht : P.underlying t = some (.slice e)) (he : P.underlying e = some (.slice q)) (hq : P.underlying q = some (.int .u8)) (ce : P.cellsOf e = 1) (cq : P.cellsOf q = 1) (bq : P.bytesOf q = 1)
    (hv : Value.okWide P w r b0 t v) (h : DataW.Trod enc P w base (fun _ => true) held t v d p) (hreach : (DataW.weightsEach P ts ds).all (· ≤ reachBytes) = true) (hts : ts[k]? = some t) (hds : ds[k]? = some d) :
    ∃ ls : List (List (BitVec 32)), (∀ l ∈ ls, (∀ x ∈ l, u32 x < 256) ∧ l.length ≤ 140737488351232) ∧ HasRows w v ls ∧ ls.length ≤ maxLen := by
  have hr : reachBytes = 140737488351232 := by decide
  obtain ⟨a1, len, cap, rfl⟩ := okWide_slice ht hv
  obtain ⟨fuel, hf⟩ := h
  rcases Go.Deep.open_int_rows ht he hq ce cq hf with ⟨hcs, -⟩ | ⟨a, len', cap', A, L, C, Z, hcs, _, hl, hm, hx, hrow⟩
  · simp [Value.cells] at hcs
    obtain ⟨rfl, rfl, rfl⟩ := hcs
    exact ⟨[], by simp, ⟨none, 0, rfl, fun _ => rfl, fun _ h => by cases h⟩, by simp⟩
  · simp [Value.cells] at hcs
    obtain ⟨rfl, rfl, rfl⟩ := hcs
    have hlen : ((List.range len).map fun i => (List.range (L i)).map fun j => BitVec.ofInt 32 ((Z i).getD j 0)).length = len := by simp
    refine ⟨(List.range len).map fun i => (List.range (L i)).map fun j => BitVec.ofInt 32 ((Z i).getD j 0), fun l hl' => ?_, ⟨some a, cap, by rw [hlen], (fun h => by cases h), fun ad had j bs hbs => ?_⟩, by rw [hlen]; omega⟩
    · obtain ⟨i, hi, rfl⟩ := List.mem_map.1 hl'
      have hi : i < len := by simpa using hi
      obtain ⟨h1, h2, h3, h4, h5, h6, h7⟩ := hrow i (by omega)
      refine ⟨(bytes_of_ints (L i) (by omega) h5).1, ?_⟩
      rw [List.length_map, List.length_range]
      cases hA : A i with
      | none => have := h6 hA; omega
      | some a' =>
        have hw : ((lits .u8 ((Z i).take (L i)) : List (DataW H)).length + (lits .u8 ((Z i).drop (L i)) : List (DataW H)).length) * P.bytesOf q ≤ reachBytes := by
          have hd : d = .slice ((List.range len).map fun r => Go.Deep.intRow .u8 (A r) (L r) (Z r)) ((List.range (cap - len)).map fun j => Go.Deep.intRow .u8 (A (len + j)) (L (len + j)) (Z (len + j))) := congrArg Prod.fst hx
          rw [hd] at hds
          refine of_decide_eq_true (List.all_eq_true.1 hreach _ (DataW.weights_mem_each hts hds _ ?_))
          simp only [DataW.weights, ht, List.mem_cons, List.mem_append]
          refine .inr (.inl (mem_weightsAll (d := Go.Deep.intRow .u8 (A i) (L i) (Z i)) (List.mem_map.2 ⟨i, by simpa using hi, rfl⟩) ?_))
          rw [hA]
          simp [Go.Deep.intRow, DataW.weights, he]
        rw [bq, hr] at hw
        simp [lits] at hw
        omega
    · cases had
      have hj : j < len := by
        have := (List.getElem?_eq_some_iff.1 hbs).1
        simpa using this
      obtain ⟨h1, h2, h3, h4, h5, h6, h7⟩ := hrow j (by omega)
      obtain rfl : (List.range (L j)).map (fun i => BitVec.ofInt 32 ((Z j).getD i 0)) = bs := by simpa [hj] using hbs
      have hLl : ((List.range (L j)).map fun i => BitVec.ofInt 32 ((Z j).getD i 0)).length = L j := by simp
      refine ⟨_, h1, A j, C j, by rw [hLl], fun hA => ?_, fun ad hA => ⟨by rw [hLl]; exact h2, fun i u hu => ?_⟩⟩
      · have := h6 hA
        have h0 : L j = 0 := by omega
        exact ⟨by rw [h0]; rfl, this⟩
      · obtain ⟨hi, rfl⟩ := (bytes_of_ints (L j) (by omega) h5).2 i u hu
        exact (h7 ad hA).2 i (by omega)
end Go.Proofs.YtnfklikphkkpoaaDoor
