/-
What package path owes, as contracts; the walk that all statements of layer 6 begin with; the comparison of two lists of texts.
-/
import Derived.Test.YtbjekhhefepnlaaDoorPath
import Derived.Test.YtbjekhhefepnlaaDoorTexts
import Derived.Test.YtbjekhhefepnlaaDoorHexaFace
import Derived.BigQuiet
import Derived.Deep.QuietTactic
namespace Go.Proofs.YtbjekhhefepnlaaDoor
open Go.RowKit
end Go.Proofs.YtbjekhhefepnlaaDoor
