/-
What the document's own answers for layer 6 return: what lies below, parents, copies.
-/
import Derived.Test.YtfechljjkblkhaaDoorRef06Own
import Derived.Test.YtfechljjkblkhaaDoorTexts
import Derived.Test.YtfechljjkblkhaaDoorRef04Num
namespace Go.Proofs.YtfechljjkblkhaaDoor
open Go.RowKit
theorem infoString : (Tryd.prog.info? 9).map (fun i => (i.zero, i.size, i.bytes)) = some (some (.string ByteArray.empty), 1, 16) := by kernel_rfl
end Go.Proofs.YtfechljjkblkhaaDoor
