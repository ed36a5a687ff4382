/-
What package octal owes, as the landed code gives it.
-/
import Derived.Test.YtbjekhhefepnlaaDoorOctalCheck
import Derived.Test.YtbjekhhefepnlaaDoorOctalText
namespace Go.Proofs.YtbjekhhefepnlaaDoor
theorem octalFace : OctalFace where
  put := fun w n width h1 h2 _ _ => put_any n width h1 h2 w
  get := fun w v b hb hv => get_any b hb v w hv
  text := fun w s width _ h1 h2 => text_any s width h1 h2 w
  check := fun w v b hb hv => check_any b hb v w hv
end Go.Proofs.YtbjekhhefepnlaaDoor
