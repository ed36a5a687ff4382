/-
What package hexa owes, as the landed code gives it.
-/
import Derived.Test.YtikhmhgjaipnaaaDoorHexaParse
import Derived.Test.YtikhmhgjaipnaaaDoorHexaRead
namespace Go.Proofs.YtikhmhgjaipnaaaDoor
theorem hexaFace : HexaFace := ⟨fun w f hf => text_any w f hf, fun w s _ => parse_any w s, fun w n h0 h1 hT => number_any w n h0 h1 hT, fun w s most hs _ _ => read_any w s most hs⟩
end Go.Proofs.YtikhmhgjaipnaaaDoor
