/-
What package octal owes of Name, as the landed code gives it.
-/
import Derived.Test.YtbjekhhefepnlaaDoorOctalCode
import Derived.Test.YtbjekhhefepnlaaDoorOctalName
namespace Go.Proofs.YtbjekhhefepnlaaDoor
theorem nameFace : NameFace where
  name := fun w v b hb hv => name_any b hb v w hv
end Go.Proofs.YtbjekhhefepnlaaDoor
