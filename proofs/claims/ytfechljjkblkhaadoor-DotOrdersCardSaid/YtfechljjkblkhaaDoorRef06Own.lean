/-
What the document's own answers for layer 6 return: a user's path, two fields' path, what lies below.
-/
import Derived.Test.YtfechljjkblkhaaDoorRef06Split
namespace Go.Proofs.YtfechljjkblkhaaDoor
open Go.RowKit
end Go.Proofs.YtfechljjkblkhaaDoor
