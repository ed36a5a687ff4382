/-
What the document's own Text returns for layer 5: a text as a field of some width.
-/
import Derived.Test.YtpgimgfoifgkfaaMark
import Derived.Test.YtpgimgfoifgkfaaRef05
namespace Go.Proofs.Ytpgimgfoifgkfaa
open Go.RowKit
theorem infoByte : (Try.prog.info? 5).map (fun i => (i.zero, i.size, i.bytes)) = some (some (.int .u8 0), 1, 1) := by kernel_rfl
theorem field_bad {s : List UInt8} {w x : Int} (h : fieldErr s w = x) (hx : x ≠ 0) : fieldT s w = [] := by rw [fieldT, if_neg (by rw [h]; exact hx)]
theorem hasText_nil (w : World) : HasText w (.slice none 0 0) [] := ⟨none, 0, rfl, fun _ => ⟨rfl, rfl⟩, fun _ h => by cases h⟩
end Go.Proofs.Ytpgimgfoifgkfaa
