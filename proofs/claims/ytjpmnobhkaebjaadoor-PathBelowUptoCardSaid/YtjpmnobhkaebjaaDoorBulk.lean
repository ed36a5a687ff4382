/-
What the bound of a second statement gives: a text among the arguments is short.
-/
import Derived.Test.YtjpmnobhkaebjaaDoorRows
namespace Go.Proofs.YtjpmnobhkaebjaaDoor
theorem bulk_mem {H : Type} {d : DataW H} : ∀ {l : List (DataW H)}, d ∈ l → Rows.uptoBulk d ≤ Rows.uptoBulkAll l
  | x :: r, h => by
    simp only [Rows.uptoBulkAll]
    rcases List.mem_cons.1 h with e | e
    · subst e; omega
    · have := bulk_mem e; omega
theorem small_string {H : Type} {l : List (DataW H)} (hk : Rows.uptoSmall H l = true) {bytes : List UInt8} (h : DataW.lit (.string bytes) ∈ l) : bytes.length < 1048576 := by
  have h1 := bulk_mem h
  have h2 : Rows.uptoBulkAll l ≤ 1048576 := by simpa [Rows.uptoSmall] using hk
  simp only [Rows.uptoBulk] at h1
  omega
end Go.Proofs.YtjpmnobhkaebjaaDoor
