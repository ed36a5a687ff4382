/-
What the document's own answers for layer 4 return: Text and Parse.
-/
import Derived.Test.YtfechljjkblkhaaDoorHexa
import Derived.Test.YtfechljjkblkhaaDoorProg
import Derived.StillTailTactics
import Derived.WalkKit
import Derived.Lib.Hide
import Derived.Deep.RegionWith
import Derived.WalkLawsBesides
namespace Go.Proofs.YtfechljjkblkhaaDoor
open Go.RowKit
theorem infoByte : (Tryd.prog.info? 5).map (fun i => (i.zero, i.size, i.bytes)) = some (some (.int .u8 0), 1, 1) := by kernel_rfl
/-- What value answers. -/
def figI (c : UInt8) : Int := match fig c with | some n => n | none => -1
theorem nib (x : BitVec 32) : (u32 x / (16 : Int) = ((x.toNat / 16 : Nat) : Int)) ∧ (u32 x % (16 : Int) = ((x.toNat % 16 : Nat) : Int)) := by unfold u32; omega
theorem figureN (n : Nat) (h : n < 16) : Value.int .u8 (figN n : Int) = .int .u8 ((figure n).toNat : Int) := by rw [figure_toNat n h]
end Go.Proofs.YtfechljjkblkhaaDoor
