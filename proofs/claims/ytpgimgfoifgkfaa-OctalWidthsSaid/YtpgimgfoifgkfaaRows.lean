/-
  No cell of these rows narrows 'for every input' (looked for: loops, veiled, ifaces, maps, wideKeys, modest, calm, conditions, laid).
  DERIVED. THE GIVEN ROWS OF THIS SEAT. 4 by the template 'for every input the law returns true; each argument reads behind the call as it read before'; 0 by the template 'total and deterministic' (their statements: YtpgimgfoifgkfaaTotals.lean).
  GIVEN WITH THE SEED: the statements are not yours to turn. If you find one false, say at which input.
  Laid BY PROGRAM, IN A SANDBOX (cutbox-rows.mjs): the forced cells as the released guide's own fill.sh prints them over the translation 2e2dcb9427d0f9e4… (all of the seat's roots in one cut). By AI agents, Wed Nov 11 2026. No macro, syntax, notation, axiom, sorry.
-/
import Derived.Test.YtpgimgfoifgkfaaChecked
import GoSem.Claim
import GoSem.ClaimJoined
import GoSem.ClaimMapViews
import Derived.JoinedTies
import Derived.KernelRfl
namespace Go.Proofs.Ytpgimgfoifgkfaa
/- THE CELL 'sum', in the pinned program and in every row, IS THE sha256 OF THE DUMP (.gsa) THAT YtpgimgfoifgkfaaProg.lean LOADS. Nothing in Lean hashes anything: it is a label: what it is worth is what the hold of that sum in a sandbox is worth. -/
noncomputable def Try.pinned : Pinned := { name := "ytpgimgfoifgkfaa", sum := "2e2dcb9427d0f9e426518df39a7c61cccf8c0243e3c9649df62eaf57152cdf3d", checked := Try.checked }
namespace Rows
def none {H : Type} : Left H := { results := [], args := [] }

/-- 'bindlelaw05.OctalPuts': WHATEVER THE INPUT: true; the input reads as it did. -/
def octalPutsSpec : ChangeSpec := { name := "octalPuts", fn := fun _ => fun
  | [d1, d2, d3] => { results := [.lit (.bool true)], args := [d1, d2, d3] }
  | _ => none }
def octalPutsRow : OpenClaim := { program := "ytpgimgfoifgkfaa", sum := "2e2dcb9427d0f9e426518df39a7c61cccf8c0243e3c9649df62eaf57152cdf3d", func := "bindle/bindlelaw05.OctalPuts", spec := "octalPuts", inPlace := ["internal/bytealg.IndexByteString"], apart := false }
def OctalPutsSaid : Prop := octalPutsRow.holds Try.pinned (OpenSpec.ofChange octalPutsSpec)

/-- ITS FALSE NEIGHBOUR: 'it returns false'. Refute it at one input. -/
def octalPutsWrong : ChangeSpec := { name := "octalPuts", fn := fun _ => fun
  | [d1, d2, d3] => { results := [.lit (.bool false)], args := [d1, d2, d3] }
  | _ => none }
def OctalPutsWrongFalsely : Prop := octalPutsRow.holds Try.pinned (OpenSpec.ofChange octalPutsWrong)

/-- 'bindlelaw05.OctalOrder': WHATEVER THE INPUT: true; the input reads as it did. -/
def octalOrderSpec : ChangeSpec := { name := "octalOrder", fn := fun _ => fun
  | [d1, d2, d3] => { results := [.lit (.bool true)], args := [d1, d2, d3] }
  | _ => none }
def octalOrderRow : OpenClaim := { program := "ytpgimgfoifgkfaa", sum := "2e2dcb9427d0f9e426518df39a7c61cccf8c0243e3c9649df62eaf57152cdf3d", func := "bindle/bindlelaw05.OctalOrder", spec := "octalOrder", inPlace := ["internal/bytealg.IndexByteString"], apart := false }
def OctalOrderSaid : Prop := octalOrderRow.holds Try.pinned (OpenSpec.ofChange octalOrderSpec)

/-- ITS FALSE NEIGHBOUR: 'it returns false'. Refute it at one input. -/
def octalOrderWrong : ChangeSpec := { name := "octalOrder", fn := fun _ => fun
  | [d1, d2, d3] => { results := [.lit (.bool false)], args := [d1, d2, d3] }
  | _ => none }
def OctalOrderWrongFalsely : Prop := octalOrderRow.holds Try.pinned (OpenSpec.ofChange octalOrderWrong)

/-- 'bindlelaw05.OctalSums': WHATEVER THE INPUT: true; the input reads as it did. -/
def octalSumsSpec : ChangeSpec := { name := "octalSums", fn := fun _ => fun
  | [d1, d2, d3] => { results := [.lit (.bool true)], args := [d1, d2, d3] }
  | _ => none }
def octalSumsRow : OpenClaim := { program := "ytpgimgfoifgkfaa", sum := "2e2dcb9427d0f9e426518df39a7c61cccf8c0243e3c9649df62eaf57152cdf3d", func := "bindle/bindlelaw05.OctalSums", spec := "octalSums", inPlace := ["internal/bytealg.IndexByteString"], apart := false }
def OctalSumsSaid : Prop := octalSumsRow.holds Try.pinned (OpenSpec.ofChange octalSumsSpec)

/-- ITS FALSE NEIGHBOUR: 'it returns false'. Refute it at one input. -/
def octalSumsWrong : ChangeSpec := { name := "octalSums", fn := fun _ => fun
  | [d1, d2, d3] => { results := [.lit (.bool false)], args := [d1, d2, d3] }
  | _ => none }
def OctalSumsWrongFalsely : Prop := octalSumsRow.holds Try.pinned (OpenSpec.ofChange octalSumsWrong)

/-- 'bindlelaw05.OctalWidths': WHATEVER THE INPUT: true; the input reads as it did. -/
def octalWidthsSpec : ChangeSpec := { name := "octalWidths", fn := fun _ => fun
  | [d1, d2, d3] => { results := [.lit (.bool true)], args := [d1, d2, d3] }
  | _ => none }
def octalWidthsRow : OpenClaim := { program := "ytpgimgfoifgkfaa", sum := "2e2dcb9427d0f9e426518df39a7c61cccf8c0243e3c9649df62eaf57152cdf3d", func := "bindle/bindlelaw05.OctalWidths", spec := "octalWidths", inPlace := ["internal/bytealg.IndexByteString"], apart := false }
def OctalWidthsSaid : Prop := octalWidthsRow.holds Try.pinned (OpenSpec.ofChange octalWidthsSpec)

/-- ITS FALSE NEIGHBOUR: 'it returns false'. Refute it at one input. -/
def octalWidthsWrong : ChangeSpec := { name := "octalWidths", fn := fun _ => fun
  | [d1, d2, d3] => { results := [.lit (.bool false)], args := [d1, d2, d3] }
  | _ => none }
def OctalWidthsWrongFalsely : Prop := octalWidthsRow.holds Try.pinned (OpenSpec.ofChange octalWidthsWrong)

/- THE SECOND FORM. 'bulk': how many values and letters a reading holds, each counted each time it is reached (what is shared counts as often as it is met; a slice's spare places count too). A statement '..UptoSaid' is the law's where the arguments, and the package variables that the reading takes, are together of bulk at most 1048576: NARROWER than '..Said'. Prove '..Said' where nothing that the law and all that it calls make is longer than what came in: it says more and counts as full. Else prove '..UptoSaid'. A law counts once. -/
mutual
def uptoBulk {H : Type} : DataW H → Nat
  | .lit (.string bytes) => bytes.length + 1
  | .lit _ => 1
  | .nil => 1
  | .ptr d => uptoBulk d + 1
  | .slice elems spare => uptoBulkAll elems + uptoBulkAll spare + 1
  | .agg parts => uptoBulkAll parts + 1
  | .iface _ d => uptoBulk d + 1
  | .map entries => uptoBulkEntries entries + 1
  | .held _ => 1
def uptoBulkAll {H : Type} : List (DataW H) → Nat
  | [] => 0
  | d :: r => uptoBulk d + uptoBulkAll r
def uptoBulkEntries {H : Type} : List (Lit × DataW H) → Nat
  | [] => 0
  | x :: r => uptoBulkEntry x + uptoBulkEntries r
def uptoBulkEntry {H : Type} : Lit × DataW H → Nat
  | (.string bytes, d) => bytes.length + uptoBulk d + 1
  | (_, d) => uptoBulk d + 1
 end
def uptoSmall : (H : Type) → List (DataW H) → Bool := fun _ ds => decide (uptoBulkAll ds ≤ 1048576)
def OpenSpec.upto (s : _root_.Go.ChangeSpec) : _root_.Go.OpenSpec := { _root_.Go.OpenSpec.ofChange s with cond := some uptoSmall }

/-- 'bindlelaw05.OctalPuts', WHERE WHAT IT READS IS OF BULK AT MOST 1048576: true; the input reads as it did. -/
def octalPutsUptoRow : OpenClaim := { program := "ytpgimgfoifgkfaa", sum := "2e2dcb9427d0f9e426518df39a7c61cccf8c0243e3c9649df62eaf57152cdf3d", func := "bindle/bindlelaw05.OctalPuts", spec := "octalPuts", inPlace := ["internal/bytealg.IndexByteString"], apart := false, narrowed := true }
def OctalPutsUptoSaid : Prop := octalPutsUptoRow.holds Try.pinned (OpenSpec.upto octalPutsSpec)

/-- 'bindlelaw05.OctalOrder', WHERE WHAT IT READS IS OF BULK AT MOST 1048576: true; the input reads as it did. -/
def octalOrderUptoRow : OpenClaim := { program := "ytpgimgfoifgkfaa", sum := "2e2dcb9427d0f9e426518df39a7c61cccf8c0243e3c9649df62eaf57152cdf3d", func := "bindle/bindlelaw05.OctalOrder", spec := "octalOrder", inPlace := ["internal/bytealg.IndexByteString"], apart := false, narrowed := true }
def OctalOrderUptoSaid : Prop := octalOrderUptoRow.holds Try.pinned (OpenSpec.upto octalOrderSpec)

/-- 'bindlelaw05.OctalSums', WHERE WHAT IT READS IS OF BULK AT MOST 1048576: true; the input reads as it did. -/
def octalSumsUptoRow : OpenClaim := { program := "ytpgimgfoifgkfaa", sum := "2e2dcb9427d0f9e426518df39a7c61cccf8c0243e3c9649df62eaf57152cdf3d", func := "bindle/bindlelaw05.OctalSums", spec := "octalSums", inPlace := ["internal/bytealg.IndexByteString"], apart := false, narrowed := true }
def OctalSumsUptoSaid : Prop := octalSumsUptoRow.holds Try.pinned (OpenSpec.upto octalSumsSpec)

/-- 'bindlelaw05.OctalWidths', WHERE WHAT IT READS IS OF BULK AT MOST 1048576: true; the input reads as it did. -/
def octalWidthsUptoRow : OpenClaim := { program := "ytpgimgfoifgkfaa", sum := "2e2dcb9427d0f9e426518df39a7c61cccf8c0243e3c9649df62eaf57152cdf3d", func := "bindle/bindlelaw05.OctalWidths", spec := "octalWidths", inPlace := ["internal/bytealg.IndexByteString"], apart := false, narrowed := true }
def OctalWidthsUptoSaid : Prop := octalWidthsUptoRow.holds Try.pinned (OpenSpec.upto octalWidthsSpec)

end Rows
end Go.Proofs.Ytpgimgfoifgkfaa
